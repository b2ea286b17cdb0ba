import PyProof.Rows.All
import Wide.All
import OpenK.AllK
import Wide.FinOn
import Lean
import PyProof.EqAt
import PyProof.EqKinds
import PyProof.TupleCall
import PyProof.NeKinds
import PyProof.Rows.ZipGen
import KE.KIntText
import PyProof.ListRange
import KE.LcSums
import PyProof.Rows.SetFrom
import PyProof.SetRoads
import PySem.Challenge.RW_jughouse_k04_goals
set_option Elab.async false
set_option linter.all false
set_option maxRecDepth 100000
/-! THE HAND LAYER, for ints, bools, texts, own classes, LISTS and tuples (index, slices, in, append, pop ..), calls, loops. Paste it whole ahead of your own text; what your proof does not reach may be deleted. -/
namespace L2
open PySem PySem.Spec PyProof.Rows

/-- a key: an int or a str -/
abbrev Key := Sum Int Str
def keyIs : Key → Value → Bool
  | .inl k, v => Value.isInt k v
  | .inr x, v => Value.isStrOf x v
def keyH (w : World) : Key → Int
  | .inl k => hashInt k
  | .inr x => hashStr w x
theorem keyIs_shape : ∀ {k : Key} {v : Value}, keyIs k v = true → (∃ i t, k = Sum.inl i ∧ v = Value.int i t) ∨ (∃ x t, k = Sum.inr x ∧ v = Value.str x t)
  | .inl i, v, h => by
    obtain ⟨t, e⟩ := Value.isInt_shape (k := i) (v := v) h
    exact .inl ⟨i, t, rfl, e⟩
  | .inr x, v, h => by
    obtain ⟨t, e⟩ := Value.isStrOf_shape (x := x) (v := v) h
    exact .inr ⟨x, t, rfl, e⟩
theorem key_ll (a b : Int) : decide ((Sum.inl a : Key) = Sum.inl b) = (a == b) := by
  by_cases e : a = b
  · subst e; simp
  · have h : ¬ (Sum.inl a : Key) = Sum.inl b := fun q => e (Sum.inl.inj q)
    rw [decide_eq_false h]
    exact (beq_eq_false_iff_ne.mpr e).symm
theorem key_rr (a b : Str) : decide ((Sum.inr a : Key) = Sum.inr b) = decide (a = b) := by
  by_cases e : a = b
  · subst e; simp
  · have h : ¬ (Sum.inr a : Key) = Sum.inr b := fun q => e (Sum.inr.inj q)
    rw [decide_eq_false h, decide_eq_false e]
theorem key_lr (a : Int) (b : Str) : decide ((Sum.inl a : Key) = Sum.inr b) = false := decide_eq_false (fun q => nomatch q)
theorem key_rl (a : Str) (b : Int) : decide ((Sum.inr a : Key) = Sum.inl b) = false := decide_eq_false (fun q => nomatch q)

def mixKind (prog : Program) (w : World) : PySem.KeyKind prog w Key where
  is := keyIs
  hash := keyH w
  inj := fun v a b ha hb => by
    rcases keyIs_shape ha with ⟨i, t, rfl, rfl⟩ | ⟨x, t, rfl, rfl⟩
    · rcases keyIs_shape hb with ⟨j, u, rfl, e⟩ | ⟨y, u, rfl, e⟩
      · injection e with e1 _; rw [e1]
      · exact nomatch e
    · rcases keyIs_shape hb with ⟨j, u, rfl, e⟩ | ⟨y, u, rfl, e⟩
      · exact nomatch e
      · injection e with e1 _; rw [e1]
  byValue := fun k v h => by
    rcases keyIs_shape h with ⟨i, t, rfl, rfl⟩ | ⟨x, t, rfl, rfl⟩ <;> rfl
  pyHash := fun hv h => by
    rcases keyIs_shape hv with ⟨i, t, rfl, rfl⟩ | ⟨x, t, rfl, rfl⟩
    · exact wpAny_pyHash_int h
    · exact wpAny_pyHash_str h
  eqBool := fun hu hv h => by
    rcases keyIs_shape hu with ⟨i, t, rfl, rfl⟩ | ⟨x, t, rfl, rfl⟩
    · rcases keyIs_shape hv with ⟨j, u, rfl, rfl⟩ | ⟨y, u, rfl, rfl⟩
      · rw [key_ll] at h; exact wpAny_eqBool_int h
      · rw [key_lr] at h; exact SeqAt.EqAt.int_str i t y u _ _ _ _ h
    · rcases keyIs_shape hv with ⟨j, u, rfl, rfl⟩ | ⟨y, u, rfl, rfl⟩
      · rw [key_rl] at h; exact SeqAt.EqAt.str_int x t j u _ _ _ _ h
      · rw [key_rr] at h; exact wpAny_eqBool_str h
  «strs» := fun k x t v h => by
    rcases keyIs_shape h with ⟨i, u, rfl, e⟩ | ⟨y, u, rfl, e⟩
    · exact nomatch e
    · injection e with e1 _
      subst e1
      cases v <;> rfl

end L2

namespace L2
open PySem PySem.Spec PyProof.Rows

/-- a value, without the heap -/
inductive V where
  | non | bl (b : Bool) | int (i : Int) | str (x : Str) | byt (b : Array UInt8) | flt (b : UInt64) | ref (a : Addr) | ty (n : String)
  deriving DecidableEq

def RelV : V → Value → Prop
  | .non, u => u = Value.none
  | .bl b, u => u = Value.bool b
  | .int i, u => ∃ t, u = Value.int i t
  | .str x, u => ∃ t, u = Value.str x t
  | .byt b, u => ∃ t, u = Value.bytes b t
  | .flt b, u => ∃ t, u = Value.float b t
  | .ref a, u => u = Value.ref a
  | .ty n, u => u = Value.type n

abbrev Vals : List V → List Value → Prop := Paired RelV
theorem Vals.length {xs : List V} {us : List Value} (r : Vals xs us) : xs.length = us.length := Paired.length r
theorem Vals.get : ∀ {xs : List V} {us : List Value} {i : Nat} {x : V}, Vals xs us → xs[i]? = some x → ∃ u, us[i]? = some u ∧ RelV x u
  | _, _, _, _, .nil, e => by simp at e
  | _, _, 0, _, .cons r _, e => by simp at e; subst e; exact ⟨_, rfl, r⟩
  | _, _, i + 1, x, .cons _ t, e => by
    obtain ⟨u, h1, h2⟩ := Vals.get (i := i) (x := x) t (by simpa using e)
    exact ⟨u, by simpa using h1, h2⟩
theorem Vals.append : ∀ {xs ys : List V} {us ws : List Value}, Vals xs us → Vals ys ws → Vals (xs ++ ys) (us ++ ws)
  | _, _, _, _, .nil, s => s
  | _, _, _, _, .cons r t, s => .cons r (Vals.append t s)
theorem Vals.take : ∀ {xs : List V} {us : List Value} (n : Nat), Vals xs us → Vals (xs.take n) (us.take n)
  | _, _, 0, _ => .nil
  | _, _, _ + 1, .nil => .nil
  | _, _, n + 1, .cons r t => .cons r (Vals.take n t)
theorem Vals.drop : ∀ {xs : List V} {us : List Value} (n : Nat), Vals xs us → Vals (xs.drop n) (us.drop n)
  | _, _, 0, r => r
  | _, _, _ + 1, .nil => .nil
  | _, _, n + 1, .cons _ t => Vals.drop n t

def RelO : Option V → Option Value → Prop
  | some v, some u => RelV v u
  | none, none => True
  | _, _ => False
def KV {κ : Type} : List (κ × V) → List (κ × Value) → Prop := Paired fun (p : κ × V) (q : κ × Value) => p.1 = q.1 ∧ RelV p.2 q.2

/-- a key of a dict (00_mix): an int or a text -/
def kV : Key → V
  | .inl i => .int i
  | .inr x => .str x

/-- what stands at a tracked address -/
inductive HO where
  /-- a list -/
  | lst (xs : List V)
  /-- a tuple (never changes) -/
  | tup (xs : List V)
  /-- a dict whose keys are ints and texts; one whose keys are tuples of ints and texts (the empty one is both) -/
  | dK (kvs : List (Key × V)) | dT (kvs : List (List Key × V))
  /-- a set of ints: its members, its size -/
  | set (S : Int → Bool) (n : Nat)
  /-- an instance of the class at C, its dict at dx, its attributes -/
  | ins (C dx : Addr) (fs : List (Str × V))
  /-- the dict of the instance at x -/
  | own (x : Addr)
  /-- the dict of an exception -/
  | xd (fs : List (Str × V))
  /-- a bound method, f of x -/
  | met (f x : Addr)
  /-- a range object lo, lo + 1, .. below hi -/
  | rng (lo hi : Int)
  /-- a thing that is known to the object (the script; a dict while a loop walks it): read, never written while it is so -/
  | frz (o : Obj) (u : HO)
  /-- a code object's table -/
  | tbl (ps : Array Value)
  /-- any other thing, by what is true of its one object (a def of one's own: SetO a S n := HO.ext fun h => ..) -/
  | ext (φ : Heap → Prop)

abbrev Hp := Addr → Option HO
def upd (H : Hp) (a : Addr) (o : HO) : Hp := fun b => if b = a then some o else H b
theorem upd_same {H : Hp} {a : Addr} {o : HO} : upd H a o a = some o := by unfold upd; rw [if_pos rfl]
theorem upd_ne {H : Hp} {a b : Addr} {o : HO} (h : b ≠ a) : upd H a o b = H b := by unfold upd; rw [if_neg h]
theorem ne_of_none {H : Hp} {a b : Addr} {o : HO} (h : H a = some o) (h' : H b = none) : a ≠ b := by
  intro e; subst e; rw [h] at h'; cases h'

section
variable (P : Program) (w : World)
def ObjOk (H : Hp) (h : Heap) (a : Addr) : HO → Prop
  | .lst xs => xs.length ≤ sizeLine ∧ ∃ (its : List Value) (n : Nat), Vals xs its ∧ h.get? a = some { cls := .type "list", data := .seq its.toArray n }
  | .tup xs => xs.length ≤ sizeLine ∧ ∃ its : List Value, Vals xs its ∧ IsTup h a its.toArray
  | .dK kvs => kvs.length ≤ sizeLine ∧ (a == sysModules) = false ∧ ∃ vs, KV kvs vs ∧ h.DictOf (mixKind P w) a vs
  | .dT kvs => kvs.length ≤ sizeLine ∧ (a == sysModules) = false ∧ ∃ xs : List (List Key × Addr × Value),
      Paired (fun (p : List Key × V) (q : List Key × Addr × Value) => p.1 = q.1 ∧ H q.2.1 = some (.tup (p.1.map kV)) ∧ RelV p.2 q.2.2) kvs xs ∧
      ∃ o es ep, h.get? a = some o ∧ o.ExactDict ∧ o.data = .dict es ep ∧ es.toList = xs.map (entryOfKey (tupleKind (mixKind P w))) ∧ (xs.map (·.1)).Nodup
  | .set S n => h.SetOf (intKind P w) a S n
  | .ins C dx fs => H dx = some (.own a) ∧ fs.length ≤ 1000 ∧ dx ≠ a ∧ h.get? a = some (PySem.W.instObj C dx) ∧
      ∃ mA, h.Ns1 dx mA ∧ (∀ f, RelO (fs.lookup f) (mA f)) ∧ PySem.Within mA (fs.map (·.1))
  | .own _ => ∃ o, h.get? a = some o
  | .xd fs => ∃ mA, h.Ns1 a mA ∧ ∀ f, RelO (fs.lookup f) (mA f)
  | .rng lo hi => ∃ t u v, h.get? a = some { cls := .type "range", data := .fields #[.int lo t, .int hi u, .int 1 v] }
  | .frz o u => h.get? a = some o ∧ ObjOk H h a u
  | .tbl ps => h.get? a = some { cls := .none, data := .fields ps }
  | .met f x => h.get? a = some (PySem.W.methodObj (.ref f) (.ref x))
  | .ext φ => φ h ∧ (∃ o, h.get? a = some o) ∧ ∀ h1 h2 : Heap, φ h1 → (∀ o, h1.get? a = some o → h2.get? a = some o) → φ h2
/-- the abstract heap is held -/
def HOk (H : Hp) (h : Heap) : Prop := ∀ a o, H a = some o → ObjOk P w H h a o
end

section
variable {P : Program} {w : World} {H H' : Hp} {h h' : Heap} {a : Addr} {o : HO}
theorem ObjOk.lt (x : ObjOk P w H h a o) : a < h.objs.size := by
  cases o with
  | lst xs => obtain ⟨_, _, _, _, e⟩ := x; exact Heap.lt_size e
  | tup xs => obtain ⟨_, _, _, p⟩ := x; exact p.lt
  | dK kvs => obtain ⟨_, _, _, _, o, _, _, e, _⟩ := x; exact Heap.lt_size e
  | dT kvs => obtain ⟨_, _, _, _, o, _, _, e, _⟩ := x; exact Heap.lt_size e
  | set S n => obtain ⟨o, _, _, _, e, _⟩ := x; exact Heap.lt_size e
  | ins C dx fs => obtain ⟨_, _, _, e, _⟩ := x; exact Heap.lt_size e
  | own y => obtain ⟨_, e⟩ := x; exact Heap.lt_size e
  | xd fs => obtain ⟨_, ⟨_, _, _, e, _⟩, _⟩ := x; exact Heap.lt_size e
  | rng lo hi => obtain ⟨_, _, _, e⟩ := x; exact Heap.lt_size e
  | frz ob u => obtain ⟨e, _⟩ := x; exact Heap.lt_size e
  | tbl ps => exact Heap.lt_size (show h.get? a = some _ from x)
  | met f y => exact Heap.lt_size (show h.get? a = some _ from x)
  | ext φ => obtain ⟨_, ⟨_, e⟩, _⟩ := x; exact Heap.lt_size e
theorem Paired.mapP {α β : Type} {F G : α → β → Prop} : ∀ {l₁ : List α} {l₂ : List β}, Paired F l₁ l₂ → (∀ a b, F a b → G a b) → Paired G l₁ l₂
  | _, _, .nil, _ => .nil
  | _, _, .cons r t, f => .cons (f _ _ r) (Paired.mapP t f)
/-- what an object's description leans on: its own object, its own dict, the tuples -/
theorem ObjOk.stay (x : ObjOk P w H h a o) (k : ∀ b u, (b = a ∨ H b = some (.own a)) → h.get? b = some u → h'.get? b = some u)
    (ho : ∀ b, H b = some (.own a) → H' b = some (.own a)) (ht : ∀ b xs, H b = some (.tup xs) → H' b = some (.tup xs)) : ObjOk P w H' h' a o := by
  induction o with
  | lst xs => obtain ⟨z, its, n, r, e⟩ := x; exact ⟨z, its, n, r, k _ _ (.inl rfl) e⟩
  | tup xs => obtain ⟨z, its, r, ob, e, c⟩ := x; exact ⟨z, its, r, ob, k _ _ (.inl rfl) e, c⟩
  | dK kvs => obtain ⟨z, y, vs, r, ob, es, ep, e, c⟩ := x; exact ⟨z, y, vs, r, ob, es, ep, k _ _ (.inl rfl) e, c⟩
  | dT kvs =>
    obtain ⟨z, y, xs, r, ob, es, ep, e, c⟩ := x
    exact ⟨z, y, xs, Paired.mapP r fun p q z => ⟨z.1, ht _ _ z.2.1, z.2.2⟩, ob, es, ep, k _ _ (.inl rfl) e, c⟩
  | set S n => obtain ⟨ob, es, ep, t, e, c⟩ := x; exact ⟨ob, es, ep, t, k _ _ (.inl rfl) e, c⟩
  | ins C dx fs =>
    obtain ⟨d, z, ne, e, mA, ⟨od, es, ep, e2, c⟩, r⟩ := x
    exact ⟨ho _ d, z, ne, k _ _ (.inl rfl) e, mA, ⟨od, es, ep, k _ _ (.inr d) e2, c⟩, r⟩
  | own y => obtain ⟨ob, e⟩ := x; exact ⟨ob, k _ _ (.inl rfl) e⟩
  | xd fs => obtain ⟨mA, ⟨od, es, ep, e, c⟩, r⟩ := x; exact ⟨mA, ⟨od, es, ep, k _ _ (.inl rfl) e, c⟩, r⟩
  | rng lo hi => obtain ⟨t, u, v, e⟩ := x; exact ⟨t, u, v, k _ _ (.inl rfl) e⟩
  | frz ob u ih => obtain ⟨e, q⟩ := x; exact ⟨k _ _ (.inl rfl) e, ih q⟩
  | tbl ps =>
    have e : h.get? a = some { cls := .none, data := .fields ps } := x
    show h'.get? a = some { cls := .none, data := .fields ps }
    exact k a _ (.inl rfl) e
  | met f y =>
    have e : h.get? a = some (PySem.W.methodObj (.ref f) (.ref y)) := x
    show h'.get? a = some (PySem.W.methodObj (.ref f) (.ref y))
    exact k a _ (.inl rfl) e
  | ext φ => obtain ⟨p, ⟨o, e⟩, st⟩ := x; exact ⟨st _ _ p fun o q => k _ _ (.inl rfl) q, ⟨o, k _ _ (.inl rfl) e⟩, st⟩
theorem HOk.lt (x : HOk P w H h) (e : H a = some o) : a < h.objs.size := (x a o e).lt
theorem HOk.fresh (x : HOk P w H h) (e : h.objs.size ≤ a) : H a = none := by
  cases q : H a with
  | none => rfl
  | some u => exact absurd (Nat.lt_of_lt_of_le (x.lt q) e) (Nat.lt_irrefl _)
/-- every object of the heap is kept -/
theorem HOk.kept (x : HOk P w H h) (k : ∀ b u, h.get? b = some u → h'.get? b = some u) : HOk P w H h' := fun a o e =>
  (x a o e).stay (fun b u _ q => k b u q) (fun _ q => q) fun _ _ q => q
/-- a new object is laid and tracked -/
theorem HOk.laid (x : HOk P w H h) (k : ∀ b u, h.get? b = some u → h'.get? b = some u) (hp : h.objs.size ≤ a) (new : ObjOk P w (upd H a o) h' a o) : HOk P w (upd H a o) h' := fun b u e => by
  have hn := x.fresh hp
  by_cases hb : b = a
  · subst hb; rw [upd_same] at e; cases e; exact new
  · rw [upd_ne hb] at e
    exact (x b u e).stay (fun c v _ q => k c v q) (fun c q => by rw [upd_ne (ne_of_none q hn)]; exact q) fun c xs q => by rw [upd_ne (ne_of_none q hn)]; exact q
end

/-- what may be read as u: it is u, or a known u -/
def Rd (H : Hp) (a : Addr) (u : HO) : Prop := H a = some u ∨ ∃ o, H a = some (.frz o u)
theorem Rd.ok {P : Program} {w : World} {H : Hp} {h : Heap} {a : Addr} {u : HO} (r : Rd H a u) (x : HOk P w H h) : ObjOk P w H h a u := by
  rcases r with r | ⟨o, r⟩
  · exact x a u r
  · obtain ⟨_, q⟩ := x a _ r
    exact q
/-- what may be written -/
def Mut : Option HO → Prop
  | some (.lst _) => True
  | some (.dK _) => True
  | some (.dT _) => True
  | some (.set _ _) => True
  | some (.ins _ _ _) => True
  | some (.ext _) => True
  | _ => False
section
variable {P : Program} {w : World} {H : Hp} {h h' : Heap} {x e : Addr} {o' : HO}
/-- the object at e is changed: x itself, or the dict of the instance x -/
theorem HOk.write (ok : HOk P w H h) (mu : Mut (H x)) (he : e = x ∨ H e = some (.own x)) (k : ∀ b u, b ≠ e → h.get? b = some u → h'.get? b = some u) (heo : ∃ u, h'.get? e = some u)
    (new : ObjOk P w (upd H x o') h' x o') : HOk P w (upd H x o') h' := fun b u q => by
  have nown : ∀ c y, H c = some (.own y) → c ≠ x := fun c y r z => by subst z; rw [r] at mu; exact mu
  have ntup : ∀ c xs, H c = some (.tup xs) → c ≠ x := fun c xs r z => by subst z; rw [r] at mu; exact mu
  by_cases hb : b = x
  · subst hb; rw [upd_same] at q; cases q; exact new
  · rw [upd_ne hb] at q
    by_cases hbe : b = e
    · have q' : H b = some (.own x) := by
        rcases he with z | z
        · exact absurd (hbe.trans z) hb
        · rw [hbe]; exact z
      rw [q] at q'; cases q'
      obtain ⟨v, hv⟩ := heo
      exact ⟨v, by rw [hbe]; exact hv⟩
    · refine (ok b u q).stay (fun c v hc r => k c v ?_ r) (fun c r => by rw [upd_ne (nown c b r)]; exact r) fun c xs r => by rw [upd_ne (ntup c xs r)]; exact r
      rcases hc with rfl | hc
      · exact hbe
      · rintro rfl
        rcases he with z | z
        · exact nown c b hc z
        · rw [hc] at z; cases z; exact hb rfl
end

/-! ### kept unless tracked; of the frames at fs (the callers') the slots may change (an exception that passes writes there); of the records at ex (iterators) nothing is said -/
structure Un (fs ex : List Addr) (H H' : Hp) (h h' : Heap) : Prop where
  keep : ∀ b o, h.get? b = some o → H b = none → b ∉ fs → b ∉ ex → h'.get? b = some o
  slot : ∀ b o, h.get? b = some o → H b = none → b ∈ fs → b ∉ ex → ∃ sl, h'.get? b = some { o with slots := sl }
  free : ∀ b o, h.get? b = some o → H b = none → b ∉ ex → H' b = none
  there : ∀ b o, h.get? b = some o → b ∉ ex → ∃ o', h'.get? b = some o'
  tups : ∀ b xs, H b = some (.tup xs) → H' b = some (.tup xs)
  frzs : ∀ b o u, H b = some (.frz o u) → H' b = some (.frz o u)
  tbls : ∀ b ps, H b = some (.tbl ps) → ∃ more, H' b = some (.tbl (ps ++ more))
section
variable {fs fs' ex ex' : List Addr} {H H1 H2 : Hp} {h h1 h2 h' : Heap} {a x e : Addr} {o : HO}
theorem Un.any (u : Un fs ex H H1 h h1) {b : Addr} {ob : Obj} (q : h.get? b = some ob) (n : H b = none) (hx : b ∉ ex) : ∃ sl, h1.get? b = some { ob with slots := sl } := by
  by_cases hb : b ∈ fs
  · exact u.slot b ob q n hb hx
  · exact ⟨ob.slots, u.keep b ob q n hb hx⟩
theorem Un.kept (k : ∀ b u, h.get? b = some u → h'.get? b = some u) : Un fs ex H H h h' :=
  ⟨fun b ob q _ _ _ => k b ob q, fun b ob q _ _ _ => ⟨ob.slots, k b ob q⟩, fun _ _ _ n _ => n, fun b ob q _ => ⟨ob, k b ob q⟩, fun _ _ q => q, fun _ _ _ q => q, fun _ ps q => ⟨#[], by rw [q]; simp⟩⟩
theorem Un.refl : Un fs ex H H h h := Un.kept fun _ _ q => q
theorem Un.laid (k : ∀ b u, h.get? b = some u → h'.get? b = some u) (hp : h.objs.size ≤ a) (hn : H a = none) : Un fs ex H (upd H a o) h h' where
  keep := fun b u q _ _ _ => k b u q
  slot := fun b u q _ _ _ => ⟨u.slots, k b u q⟩
  free := fun b u q n _ => by rw [upd_ne (Nat.ne_of_lt (Nat.lt_of_lt_of_le (Heap.lt_size q) hp))]; exact n
  there := fun b u q _ => ⟨u, k b u q⟩
  tups := fun b xs q => by rw [upd_ne (ne_of_none q hn)]; exact q
  frzs := fun b u xs q => by rw [upd_ne (ne_of_none q hn)]; exact q
  tbls := fun b ps q => ⟨#[], by rw [upd_ne (ne_of_none q hn), q]; simp⟩
theorem Un.write (mu : Mut (H x)) (he : e = x ∨ H e = some (.own x)) (k : ∀ b u, b ≠ e → h.get? b = some u → h'.get? b = some u) (heo : ∃ u, h'.get? e = some u) : Un fs ex H (upd H x o) h h' := by
  have hx : ∀ b, H b = none → b ≠ x := fun b n z => by subst z; rw [n] at mu; exact mu
  have hb : ∀ b, H b = none → b ≠ e := fun b n z => by
    subst z
    rcases he with r | r
    · exact hx b n r
    · rw [n] at r; cases r
  have hm : ∀ b u, H b = some u → ¬ Mut (some u) → b ≠ x := fun b u q nm z => by subst z; rw [q] at mu; exact nm mu
  refine ⟨fun b u q n _ _ => k b u (hb b n) q, fun b u q n _ _ => ⟨u.slots, k b u (hb b n) q⟩, fun b u q n _ => by rw [upd_ne (hx b n)]; exact n, fun b u q _ => ?_,
    fun b xs q => by rw [upd_ne (hm b _ q fun z => z)]; exact q, fun b u xs q => by rw [upd_ne (hm b _ q fun z => z)]; exact q, fun b ps q => ⟨#[], by rw [upd_ne (hm b _ q fun z => z), q]; simp⟩⟩
  by_cases hbe : b = e
  · subst hbe; exact heo
  · exact ⟨u, k b u hbe q⟩
end

/-! ### the heap without what is tracked -/
def trk (h : Heap) (H : Hp) : List Addr := (List.range h.objs.size).filter fun a => (H a).isSome
def hidT (h : Heap) (H : Hp) : Heap := PySem.W.hideAll h (trk h H)
theorem hidT_size (h : Heap) (H : Hp) : (hidT h H).objs.size = h.objs.size := PySem.W.hideAll_size _ _
theorem hidT_get {h : Heap} {H : Hp} {b : Addr} {o : Obj} (e : h.get? b = some o) (n : H b = none) : (hidT h H).get? b = some o :=
  PySem.W.hideAll_get _ e fun hm => by
    have q : (H b).isSome = true := (List.mem_filter.mp hm).2
    rw [n] at q; simp at q
theorem of_hidT {h : Heap} {H : Hp} {b : Addr} {o : Obj} (e : (hidT h H).get? b = some o) : h.get? b = some o ∧ H b = none := by
  have e' : h.get? b = some o := PySem.W.of_hideAll (trk h H) e
  refine ⟨e', ?_⟩
  cases q : H b with
  | none => rfl
  | some x =>
    have hm : b ∈ trk h H := List.mem_filter.mpr ⟨List.mem_range.mpr (Heap.lt_size e'), by simp [q]⟩
    have z : (hidT h H).get? b = none := PySem.W.hideAll_none (trk h H) hm
    rw [z] at e; cases e

/-! ### OpenK's ledger, filled with every new object but one -/
end L2

namespace L2
open PySem PySem.Spec PyProof.Rows

/-- the module's facts, over the base: the heap at the law's entry without what is tracked there -/
structure Mod (K : PySem.W.Frag) (mg : Str → Option Value) (base : Heap) : Prop where
  kin : K.In base
  glob : base.Ns mainGlobals mg
  blt : ∃ mb, base.Ns builtinsNs mb ∧ ∀ x : Str, x ≠ "__name__" → mb x = bootBuiltins x
  nolimit : base.NoLimit

/-- the context: a def's body (or a comprehension's block) running. base: fixed through the whole law; s₀, H₀: the entry; outer: the frames whose slots others may change (a def's callers); stack: all frames that run;
   ex: iterators that were made ahead of the entry and are walked here (a comprehension's); fn: the names whose cells were made at the entry (a def: all; a comprehension's block: its own); calm: not within an except suite; pn: pins that every state bears; xe: what is wanted of an exception that leaves the code -/
structure Cx where
  prog : Program
  w : World
  K : PySem.W.Frag
  mg : Str → Option Value
  base : Heap
  A : Around
  N : List Str
  s₀ : Shared
  H₀ : Hp
  env : Env
  outer : List Env
  stack : List Env
  ex : List Addr
  fn : Str → Bool
  calm : Bool
  pn : List (Addr × Obj)
  xe : Value → Shared → Prop
/-- the callers' frames -/
def frs (l : List Env) : List Addr := l.filterMap (·.frame)
abbrev Cx.fs (X : Cx) : List Addr := frs X.outer

def Vis (sc : Scope) (x : Str) : Prop := sc.names.lookup x = some .local ∨ sc.names.lookup x = some .cell ∨ sc.names.lookup x = some .free
def Loc (sc : Scope) (x : Str) : Prop := sc.names.lookup x = some .local ∨ sc.names.lookup x = some .cell
def Look (env : Env) (h : Heap) (m : Str → Option Value) (x : Str) (u : Value) : Prop :=
  (env.kindOf x = some .local ∧ m x = some u) ∨ ((env.kindOf x = some .cell ∨ env.kindOf x = some .free) ∧ ∃ c, env.cells.lookup x = some c ∧ h.IsCell c (some u))

structure Cx.Ok (X : Cx) : Prop where
  mod : Mod X.K X.mg X.base
  kind : X.env.scope.kind = .function
  glob : X.env.globals = mainGlobals
  blt : X.env.builtins = builtinsNs
  above : X.s₀.heap.objs.size ≤ X.env.locals
  inj : ∀ x y c, X.env.cells.lookup x = some c → X.env.cells.lookup y = some c → x = y
  has : ∀ x, (X.env.kindOf x = some .cell ∨ X.env.kindOf x = some .free) → ∃ c, X.env.cells.lookup x = some c
  cab : ∀ x c, X.fn x = true → X.env.cells.lookup x = some c → X.s₀.heap.objs.size ≤ c
  hd : X.calm = true → X.A.handled = none
  frames : X.A.frames = some X.stack
  stk : X.stack = X.outer ∨ (X.stack = X.env :: X.outer ∧ X.env.frame = some X.env.locals)
  exf : ∀ b ∈ X.ex, b ≠ X.env.locals ∧ ∀ x c, X.env.cells.lookup x = some c → c ≠ b
  bs : ∀ b o, X.base.get? b = some o → X.s₀.heap.get? b = some o ∧ X.H₀ b = none
  bsz : X.base.objs.size ≤ X.s₀.heap.objs.size
  noex : ∀ b o, X.base.get? b = some o → b ∉ X.ex
  exfs : ∀ b ∈ X.ex, b ∉ X.fs
  funs : X.s₀.heap.FunFrames X.base X.outer
  frf : ∀ b ∈ X.fs, X.H₀ b = none

structure Inv (X : Cx) (pins : List (Addr × Obj)) (σ : List (Option V)) (H : Hp) (s : Shared) : Prop where
  ok : X.Ok
  os : s.os = X.s₀.os
  bare : AllBare s.gens
  base : Un X.fs X.ex X.H₀ H X.s₀.heap s.heap
  loc : ∃ m, s.heap.Ns X.env.locals m ∧ ∀ (i : Nat) (x : Str) (v : V), X.N[i]? = some x → σ[i]? = some (some v) → Vis X.env.scope x → ∃ u, RelV v u ∧ Look X.env s.heap m x u
  cell : ∀ x c, X.env.cells.lookup x = some c → ∃ v, s.heap.IsCell c v
  free : H X.env.locals = none
  freeC : ∀ x c, X.env.cells.lookup x = some c → H c = none
  pin : ∀ p ∈ X.pn ++ pins, s.heap.get? p.1 = some p.2 ∧ H p.1 = none ∧ p.1 ≠ X.env.locals ∧ p.1 ∉ X.fs ∧ ∀ v, p.2.data ≠ .cell v
  hok : HOk X.prog X.w H s.heap
  len : σ.length = X.N.length

section
variable {X : Cx} {pins : List (Addr × Obj)} {σ : List (Option V)} {H H' : Hp} {s : Shared} {h' : Heap}

theorem Cx.Ok.nofr (ok : X.Ok) {b : Addr} {o : Obj} (e : X.base.get? b = some o) : b ∉ X.fs := fun hb => by
  have := (ok.funs.mem hb).1
  rw [e] at this; cases this
theorem Inv.bs (I : Inv X pins σ H s) : ∀ b o, X.base.get? b = some o → s.heap.get? b = some o ∧ H b = none := fun b o e =>
  ⟨I.base.keep b o (I.ok.bs b o e).1 (I.ok.bs b o e).2 (I.ok.nofr e) (I.ok.noex b o e), I.base.free b o (I.ok.bs b o e).1 (I.ok.bs b o e).2 (I.ok.noex b o e)⟩
theorem Inv.bk (I : Inv X pins σ H s) : ∀ b o, X.base.get? b = some o → s.heap.get? b = some o := fun b o e => (I.bs b o e).1
theorem Inv.mod (I : Inv X pins σ H s) : Mod X.K X.mg X.base := I.ok.mod
theorem Inv.kIn (I : Inv X pins σ H s) : X.K.In s.heap := I.ok.mod.kin.keeps I.bk
theorem Inv.lt (I : Inv X pins σ H s) : X.env.locals < s.heap.objs.size := let ⟨_, hn, _⟩ := I.loc; hn.lt
theorem Inv.sz (I : Inv X pins σ H s) : X.s₀.heap.objs.size ≤ s.heap.objs.size := Nat.le_trans I.ok.above (Nat.le_of_lt I.lt)
theorem Inv.nofs (I : Inv X pins σ H s) {a : Addr} (h : s.heap.objs.size ≤ a) : a ∉ X.fs := fun hb => by
  obtain ⟨_, o, ho, _⟩ := I.ok.funs.mem hb
  exact absurd (Nat.lt_of_lt_of_le (Heap.lt_size ho) (Nat.le_trans I.sz h)) (Nat.lt_irrefl _)
theorem Inv.cne (I : Inv X pins σ H s) : ∀ x c, X.env.cells.lookup x = some c → c ≠ X.env.locals := fun x c e z => by
  obtain ⟨v, o, ho, hd⟩ := I.cell x c e
  obtain ⟨m, ⟨o', es, ep, ho', hd', _⟩, _⟩ := I.loc
  rw [z, ho'] at ho; cases ho; rw [hd'] at hd; cases hd
theorem Inv.funs (I : Inv X pins σ H s) : s.heap.FunFrames X.base X.outer := by
  have all : ∀ (l : List Env), (∀ b ∈ frs l, b ∈ X.fs) → X.s₀.heap.FunFrames X.base l → s.heap.FunFrames X.base l := by
    intro l
    induction l with
    | nil => intro _ _; trivial
    | cons env r ih =>
      intro hs hl
      obtain ⟨hk, ⟨L, o, hf, hn, ho, hd⟩, hr⟩ := hl
      have hL : L ∈ X.fs := hs L (by unfold frs; rw [List.filterMap_cons, hf]; exact List.mem_cons_self)
      obtain ⟨sl, e⟩ := I.base.slot L o ho (I.ok.frf L hL) hL fun z => I.ok.exfs L z hL
      exact ⟨hk, ⟨L, _, hf, hn, e, hd⟩, ih (fun b hb => hs b (by unfold frs; rw [List.filterMap_cons, hf]; exact List.mem_cons_of_mem _ hb)) hr⟩
  exact all X.outer (fun _ hb => hb) I.ok.funs

/-- the frames that run, for a call -/
theorem Inv.stack (I : Inv X pins σ H s) : s.heap.FunFrames X.base X.stack := by
  rcases I.ok.stk with e | ⟨e, hf⟩
  · rw [e]; exact I.funs
  · rw [e]
    obtain ⟨m, hn, _⟩ := I.loc
    refine .cons (by rw [I.ok.kind]; decide) hf hn ?_ I.funs
    exact Heap.get?_none_of_le (Nat.le_trans I.ok.bsz I.ok.above)
theorem Inv.stkSub (I : Inv X pins σ H s) : ∀ b ∈ frs X.stack, b ∈ X.env.locals :: X.fs := fun b hb => by
  rcases I.ok.stk with e | ⟨e, hf⟩
  · rw [e] at hb; exact List.mem_cons_of_mem _ hb
  · rw [e] at hb
    unfold frs at hb
    rw [List.filterMap_cons, hf] at hb
    exact hb
theorem Inv.stkFree (I : Inv X pins σ H s) : ∀ b ∈ frs X.stack, H b = none := fun b hb => by
  rcases List.mem_cons.mp (I.stkSub b hb) with e | hb
  · rw [e]; exact I.free
  · obtain ⟨_, o, ho, _⟩ := I.ok.funs.mem hb
    exact I.base.free b o ho (I.ok.frf b hb) fun z => I.ok.exfs b z hb

/-- THE STEP: the untracked objects but the frame and the records at ch are kept (the callers' frames up to slots), the frame's map is kept, the new abstract heap is held -/
theorem Inv.step {g' : Array GenState} {t' : Nat} {d' : Drawn} {ch : List Addr} (I : Inv X pins σ H s)
    (hch : ∀ b ∈ ch, (b ∈ X.ex ∨ X.s₀.heap.objs.size ≤ b) ∧ b ≠ X.env.locals ∧ (∀ x c, X.env.cells.lookup x = some c → c ≠ b) ∧ ∀ p ∈ X.pn ++ pins, p.1 ≠ b)
    (keep : ∀ b o, b ≠ X.env.locals → b ∉ X.fs → b ∉ ch → s.heap.get? b = some o → H b = none → h'.get? b = some o)
    (slot : ∀ b o, b ≠ X.env.locals → b ∈ X.fs → b ∉ ch → s.heap.get? b = some o → H b = none → ∃ sl, h'.get? b = some { o with slots := sl }) (free : ∀ b o, b ∉ ch → s.heap.get? b = some o → H b = none → H' b = none)
    (there : ∀ b o, b ∉ ch → s.heap.get? b = some o → ∃ o', h'.get? b = some o')
    (tups : ∀ b xs, H b = some (.tup xs) → H' b = some (.tup xs)) (frzs : ∀ b o u, H b = some (.frz o u) → H' b = some (.frz o u)) (tbls : ∀ b ps, H b = some (.tbl ps) → ∃ more, H' b = some (.tbl (ps ++ more)))
    (ns : ∀ m, s.heap.Ns X.env.locals m → h'.Ns X.env.locals m) (hok : HOk X.prog X.w H' h') (hg : AllBare g') :
    Inv X pins σ H' { s with heap := h', gens := g', drawn := d', toks := t' } := by
  have neL : ∀ b o, X.s₀.heap.get? b = some o → b ≠ X.env.locals := fun b o e => Nat.ne_of_lt (Nat.lt_of_lt_of_le (Heap.lt_size e) I.ok.above)
  have neC : ∀ b o, X.s₀.heap.get? b = some o → b ∉ X.ex → b ∉ ch := fun b o e hx hb => by
    rcases (hch b hb).1 with z | z
    · exact hx z
    · exact absurd (Nat.lt_of_lt_of_le (Heap.lt_size e) z) (Nat.lt_irrefl _)
  have cellK : ∀ x c, X.env.cells.lookup x = some c → ∀ v, s.heap.IsCell c v → h'.IsCell c v := fun x c e v ⟨o, ho, hd⟩ => by
    have nch : c ∉ ch := fun z => (hch c z).2.2.1 x c e rfl
    by_cases hc : c ∈ X.fs
    · obtain ⟨sl, q⟩ := slot c o (I.cne x c e) hc nch ho (I.freeC x c e)
      exact ⟨_, q, hd⟩
    · exact ⟨o, keep c o (I.cne x c e) hc nch ho (I.freeC x c e), hd⟩
  refine ⟨I.ok, I.os, hg, ⟨fun b o e n hb hx => ?_, fun b o e n hb hx => ?_, fun b o e n hx => ?_, fun b o e hx => ?_, fun b xs e => tups b xs (I.base.tups b xs e), fun b o xs e => frzs b o xs (I.base.frzs b o xs e), fun b ps e => ?_⟩, ?_, fun x c e => ?_, ?_, fun x c e => ?_, fun p hp => ?_, hok, I.len⟩
  · exact keep b o (neL b o e) hb (neC b o e hx) (I.base.keep b o e n hb hx) (I.base.free b o e n hx)
  · obtain ⟨sl, e1⟩ := I.base.slot b o e n hb hx
    obtain ⟨sl', e2⟩ := slot b _ (neL b o e) hb (neC b o e hx) e1 (I.base.free b o e n hx)
    exact ⟨sl', e2⟩
  · obtain ⟨o', e1⟩ := I.base.there b o e hx
    exact free b o' (neC b o e hx) e1 (I.base.free b o e n hx)
  · obtain ⟨o', e1⟩ := I.base.there b o e hx
    exact there b o' (neC b o e hx) e1
  · obtain ⟨m1, e1⟩ := I.base.tbls b ps e
    obtain ⟨m2, e2⟩ := tbls b _ e1
    exact ⟨m1 ++ m2, by rw [e2, Array.append_assoc]⟩
  · obtain ⟨m, hn, hl⟩ := I.loc
    refine ⟨m, ns m hn, fun i x v e1 e2 e3 => ?_⟩
    obtain ⟨u, r, l⟩ := hl i x v e1 e2 e3
    refine ⟨u, r, ?_⟩
    rcases l with l | ⟨k, c, e, z⟩
    · exact .inl l
    · exact .inr ⟨k, c, e, cellK x c e _ z⟩
  · obtain ⟨v, z⟩ := I.cell x c e
    exact ⟨v, cellK x c e v z⟩
  · obtain ⟨m, ⟨o, _, _, ho, _⟩, _⟩ := I.loc
    exact free _ o (fun z => (hch _ z).2.1 rfl) ho I.free
  · obtain ⟨v, o, ho, hd⟩ := I.cell x c e
    exact free c o (fun z => (hch c z).2.2.1 x c e rfl) ho (I.freeC x c e)
  · obtain ⟨e, n, ne, nf, d⟩ := I.pin p hp
    have nch : p.1 ∉ ch := fun z => (hch p.1 z).2.2.2 p hp rfl
    exact ⟨keep p.1 p.2 ne nf nch e n, free p.1 p.2 nch e n, ne, nf, d⟩
/-- .. where the frame's own object is kept too -/
theorem Inv.un {t' : Nat} (I : Inv X pins σ H s) (u : Un X.fs [] H H' s.heap h') (hok : HOk X.prog X.w H' h') : Inv X pins σ H' { s with heap := h', toks := t' } := by
  obtain ⟨m, ⟨o, es, ep, ho, r⟩, _⟩ := id I.loc
  obtain ⟨sl, hL⟩ := u.any ho I.free (by simp)
  exact I.step (g' := s.gens) (d' := s.drawn) (ch := []) (fun _ z => nomatch z) (fun b o _ hb _ e n => u.keep b o e n hb (by simp)) (fun b o _ hb _ e n => u.slot b o e n hb (by simp)) (fun b o _ e n => u.free b o e n (by simp)) (fun b o _ e => u.there b o e (by simp)) u.tups u.frzs u.tbls (fun m' hm => by
    obtain ⟨o', es', ep', ho', r'⟩ := hm
    rw [ho] at ho'; cases ho'
    exact ⟨_, es', ep', hL, r'⟩) hok I.bare
/-- behind a call (or a comprehension's block): the slots of this frame may have changed too, the records at ch may have turned -/
theorem Inv.call {g' : Array GenState} {t' : Nat} {d' : Drawn} {ch : List Addr} (I : Inv X pins σ H s) (u : Un (frs X.stack) ch H H' s.heap h') (hok : HOk X.prog X.w H' h') (hg : AllBare g')
    (hch : ∀ b ∈ ch, (b ∈ X.ex ∨ X.s₀.heap.objs.size ≤ b) ∧ b ≠ X.env.locals ∧ (∀ x c, X.env.cells.lookup x = some c → c ≠ b) ∧ ∀ p ∈ X.pn ++ pins, p.1 ≠ b) :
    Inv X pins σ H' { s with heap := h', gens := g', drawn := d', toks := t' } := by
  obtain ⟨m, ⟨o, es, ep, ho, r⟩, _⟩ := id I.loc
  obtain ⟨sl, hL⟩ := u.any ho I.free fun z => (hch _ z).2.1 rfl
  exact I.step (ch := ch) hch (fun b o hL hb hc e n => u.keep b o e n (fun z => (List.mem_cons.mp (I.stkSub b z)).elim hL hb) hc) (fun b o _ _ hc e n => u.any e n hc) (fun b o hc e n => u.free b o e n hc) (fun b o hc e => u.there b o e hc) u.tups u.frzs u.tbls (fun m' hm => by
    obtain ⟨o', es', ep', ho', r'⟩ := hm
    rw [ho] at ho'; cases ho'
    exact ⟨_, es', ep', hL, r'⟩) hok hg
/-- an untracked record of ours (an iterator) has turned -/
theorem Inv.turned {t' : Nat} {it : Addr} (I : Inv X pins σ H s) (k : ∀ b o, b ≠ it → s.heap.get? b = some o → h'.get? b = some o) (hn : H it = none) (hL : it ≠ X.env.locals)
    (h1 : it ∈ X.ex ∨ X.s₀.heap.objs.size ≤ it) (h2 : ∀ x c, X.env.cells.lookup x = some c → c ≠ it) (h3 : ∀ p ∈ X.pn ++ pins, p.1 ≠ it) : Inv X pins σ H { s with heap := h', toks := t' } := by
  have nit : ∀ b u, H b = some u → b ≠ it := fun b u e z => by rw [z, hn] at e; cases e
  refine I.step (g' := s.gens) (d' := s.drawn) (ch := [it]) (fun b hb => ?_) (fun b o _ _ hc e _ => k b o (fun z => hc (by simp [z])) e) (fun b o _ _ hc e _ => ⟨o.slots, k b o (fun z => hc (by simp [z])) e⟩) (fun _ _ _ _ n => n)
    (fun b o hc e => ⟨o, k b o (fun z => hc (by simp [z])) e⟩) (fun _ _ e => e) (fun _ _ _ e => e) (fun b ps e => ⟨#[], by rw [e]; simp⟩) (fun m hm => ?_) (fun b u e => ?_) I.bare
  · have e : b = it := by simpa using hb
    subst e
    exact ⟨h1, hL, h2, h3⟩
  · obtain ⟨o, es, ep, ho, r⟩ := hm
    exact ⟨o, es, ep, k _ o (Ne.symm hL) ho, r⟩
  · refine (I.hok b u e).stay (fun c v hc q => k c v ?_ q) (fun _ q => q) fun _ _ q => q
    rcases hc with z | z
    · rw [z]; exact nit b u e
    · exact nit c _ z
theorem Inv.tok (I : Inv X pins σ H s) (t : Nat) : Inv X pins σ H { s with toks := t } := I.un (h' := s.heap) (t' := t) Un.refl I.hok
/-- all objects kept -/
theorem Inv.kept {t' : Nat} (I : Inv X pins σ H s) (k : ∀ b u, s.heap.get? b = some u → h'.get? b = some u) : Inv X pins σ H { s with heap := h', toks := t' } := I.un (Un.kept k) (I.hok.kept k)
/-- a new object laid and tracked -/
theorem Inv.laid {a : Addr} {o : HO} {t' : Nat} (I : Inv X pins σ H s) (k : ∀ b u, s.heap.get? b = some u → h'.get? b = some u) (hp : s.heap.objs.size ≤ a) (new : ObjOk X.prog X.w (upd H a o) h' a o) :
    Inv X pins σ (upd H a o) { s with heap := h', toks := t' } := I.un (Un.laid k hp (I.hok.fresh hp)) (I.hok.laid k hp new)
/-- an object written -/
theorem Inv.write {x e : Addr} {o : HO} {t' : Nat} (I : Inv X pins σ H s) (mu : Mut (H x)) (he : e = x ∨ H e = some (.own x)) (k : ∀ b u, b ≠ e → s.heap.get? b = some u → h'.get? b = some u) (heo : ∃ u, h'.get? e = some u)
    (new : ObjOk X.prog X.w (upd H x o) h' x o) : Inv X pins σ (upd H x o) { s with heap := h', toks := t' } := I.un (Un.write mu he k heo) (I.hok.write mu he k heo new)
/-- forgetting slots, pins -/
theorem Inv.weak {σ' : List (Option V)} (I : Inv X pins σ H s) (hl : σ'.length = σ.length) (w : ∀ (i : Nat) v, σ'[i]? = some (some v) → σ[i]? = some (some v)) : Inv X pins σ' H s :=
  ⟨I.ok, I.os, I.bare, I.base, let ⟨m, hn, hl'⟩ := I.loc; ⟨m, hn, fun i x v e1 e2 e3 => hl' i x v e1 (w i v e2) e3⟩, I.cell, I.free, I.freeC, I.pin, I.hok, hl.trans I.len⟩
theorem Inv.pins_of {pins' : List (Addr × Obj)} (I : Inv X pins σ H s) (h : ∀ p ∈ pins', s.heap.get? p.1 = some p.2 ∧ H p.1 = none ∧ p.1 ≠ X.env.locals ∧ p.1 ∉ X.fs ∧ ∀ v, p.2.data ≠ .cell v) : Inv X pins' σ H s :=
  ⟨I.ok, I.os, I.bare, I.base, I.loc, I.cell, I.free, I.freeC, fun p hp => (List.mem_append.mp hp).elim (fun z => I.pin p (List.mem_append_left _ z)) (h p), I.hok, I.len⟩

theorem nodup_ix {N : List Str} (hN : N.Nodup) {i j : Nat} {x : Str} (a : N[i]? = some x) (b : N[j]? = some x) : i = j := by
  obtain ⟨h1, e1⟩ := List.getElem?_eq_some_iff.mp a
  obtain ⟨h2, e2⟩ := List.getElem?_eq_some_iff.mp b
  exact (List.getElem_inj hN).mp (e1.trans e2.symm)

/-- a name is stored; what changed -/
theorem store_ok2 {M : Model} {A : Around} {E : Value → Shared → Prop} {i : Nat} {x : Str} {v : V} {u : Value} {Q : Unit → Shared → Prop} (I : Inv X pins σ H s) (hN : X.N.Nodup) (hi : X.N[i]? = some x) (hx : Loc X.env.scope x) (r : RelV v u)
    (h : ∀ s', Inv X pins (σ.set i (some v)) H s' → (∃ a, Heap.SameBut a s.heap s'.heap ∧ (a = X.env.locals ∨ X.env.cells.lookup x = some a)) → Q () s') (hf : X.fn x = true ∨ X.env.scope.names.lookup x = some .local := by first | exact .inl rfl | exact .inr rfl | assumption) : wpAny M A (storeName X.env x u) Q E s := by
  obtain ⟨m, hn, hl⟩ := id I.loc
  have hcls : (X.env.scope.kind == .class || (X.env.scope.kind == .module && X.env.locals != X.env.globals)) = false := by rw [I.ok.kind]; rfl
  have hiσ : i < σ.length := by rw [I.len]; exact (List.getElem?_eq_some_iff.mp hi).1
  have cne := I.cne
  have tracked : ∀ {a : Addr} {h' : Heap}, (∃ o, s.heap.get? a = some o ∧ H a = none) → Heap.SameBut a s.heap h' → HOk X.prog X.w H h' := fun {a h'} ha hs b ob e => by
    obtain ⟨_, _, hfree⟩ := ha
    refine (I.hok b ob e).stay (fun c w' hc q => (hs.2 c ?_).trans q) (fun _ q => q) fun _ _ q => q
    rintro rfl
    rcases hc with rfl | hc
    · rw [hfree] at e; cases e
    · rw [hfree] at hc; cases hc
  rcases hx with hk | hk
  · refine wpAny_storeName_local hk hn (fun h' hn' hs => ?_) hcls
    obtain ⟨oL, _, _, hoL, _⟩ := id hn
    refine h _ ⟨I.ok, I.os, I.bare, ⟨fun b o e n hb hx => ?_, fun b o e n hb hx => ?_, I.base.free, fun b o e hx => ?_, I.base.tups, I.base.frzs, I.base.tbls⟩, ⟨_, hn', fun j y v' e1 e2 e3 => ?_⟩, fun y c e => ?_, I.free, I.freeC, fun p hp => ?_, tracked ⟨oL, hoL, I.free⟩ hs, by simpa using I.len⟩ ⟨_, hs, .inl rfl⟩
    · exact (hs.2 b (Nat.ne_of_lt (Nat.lt_of_lt_of_le (Heap.lt_size e) I.ok.above))).trans (I.base.keep b o e n hb hx)
    · obtain ⟨sl, e1⟩ := I.base.slot b o e n hb hx
      exact ⟨sl, (hs.2 b (Nat.ne_of_lt (Nat.lt_of_lt_of_le (Heap.lt_size e) I.ok.above))).trans e1⟩
    · obtain ⟨o', e1⟩ := I.base.there b o e hx
      exact ⟨o', (hs.2 b (Nat.ne_of_lt (Nat.lt_of_lt_of_le (Heap.lt_size e) I.ok.above))).trans e1⟩
    · by_cases hj : j = i
      · subst hj
        rw [hi] at e1; cases e1
        rw [List.getElem?_set_self hiσ] at e2
        cases e2
        exact ⟨u, r, .inl ⟨hk, by simp⟩⟩
      · rw [List.getElem?_set_ne (Ne.symm hj)] at e2
        obtain ⟨u', r', q⟩ := hl j y v' e1 e2 e3
        refine ⟨u', r', ?_⟩
        rcases q with ⟨k, e⟩ | ⟨k, c, e, z⟩
        · refine .inl ⟨k, ?_⟩
          have : y ≠ x := fun e => hj (nodup_ix hN e1 (e ▸ hi))
          simp [this, e]
        · exact .inr ⟨k, c, e, z.sameBut hs (cne y c e)⟩
    · obtain ⟨w', z⟩ := I.cell y c e
      exact ⟨w', z.sameBut hs (cne y c e)⟩
    · obtain ⟨e, n, ne, nf, d⟩ := I.pin p hp
      exact ⟨(hs.2 p.1 ne).trans e, n, ne, nf, d⟩
  · have hfn : X.fn x = true := by
      rcases hf with z | z
      · exact z
      · rw [z] at hk; cases hk
    obtain ⟨c, hc⟩ := I.ok.has x (.inl hk)
    obtain ⟨w', z⟩ := I.cell x c hc
    refine wpAny_storeName_cell I.ok.kind hk hc z (fun h' hc' hs => ?_)
    obtain ⟨oc, hoc, hocd⟩ := id z
    refine h { s with heap := h' } ⟨I.ok, I.os, I.bare, ⟨fun b o e n hb hx => ?_, fun b o e n hb hx => ?_, I.base.free, fun b o e hx => ?_, I.base.tups, I.base.frzs, I.base.tbls⟩, ⟨m, hn.sameBut hs (Ne.symm (cne x c hc)), fun j y v' e1 e2 e3 => ?_⟩, fun y c' e => ?_, I.free, I.freeC, fun p hp => ?_, tracked ⟨oc, hoc, I.freeC x c hc⟩ hs, by simpa using I.len⟩ ⟨c, hs, .inr hc⟩
    · exact (hs.2 b (Nat.ne_of_lt (Nat.lt_of_lt_of_le (Heap.lt_size e) (I.ok.cab x c hfn hc)))).trans (I.base.keep b o e n hb hx)
    · obtain ⟨sl, e1⟩ := I.base.slot b o e n hb hx
      exact ⟨sl, (hs.2 b (Nat.ne_of_lt (Nat.lt_of_lt_of_le (Heap.lt_size e) (I.ok.cab x c hfn hc)))).trans e1⟩
    · obtain ⟨o', e1⟩ := I.base.there b o e hx
      exact ⟨o', (hs.2 b (Nat.ne_of_lt (Nat.lt_of_lt_of_le (Heap.lt_size e) (I.ok.cab x c hfn hc)))).trans e1⟩
    · by_cases hj : j = i
      · subst hj
        rw [hi] at e1; cases e1
        rw [List.getElem?_set_self hiσ] at e2
        cases e2
        exact ⟨u, r, .inr ⟨.inl hk, c, hc, hc'⟩⟩
      · rw [List.getElem?_set_ne (Ne.symm hj)] at e2
        obtain ⟨u', r', q⟩ := hl j y v' e1 e2 e3
        refine ⟨u', r', ?_⟩
        rcases q with q | ⟨k, c', e, z'⟩
        · exact .inl q
        · refine .inr ⟨k, c', e, z'.sameBut hs ?_⟩
          rintro rfl
          exact hj (nodup_ix hN e1 (I.ok.inj _ _ _ e hc ▸ hi))
    · by_cases hcc : c' = c
      · subst hcc; exact ⟨_, hc'⟩
      · obtain ⟨w2, z2⟩ := I.cell y c' e
        exact ⟨w2, z2.sameBut hs hcc⟩
    · obtain ⟨e, n, ne, nf, d⟩ := I.pin p hp
      refine ⟨(hs.2 p.1 ?_).trans e, n, ne, nf, d⟩
      intro q
      rw [q, hoc] at e
      have q' : oc = p.2 := Option.some.inj e
      exact d w' (by rw [← q']; exact hocd)
theorem store_ok {M : Model} {A : Around} {E : Value → Shared → Prop} {i : Nat} {x : Str} {v : V} {u : Value} {Q : Unit → Shared → Prop} (I : Inv X pins σ H s) (hN : X.N.Nodup) (hi : X.N[i]? = some x) (hx : Loc X.env.scope x) (r : RelV v u)
    (h : ∀ s', Inv X pins (σ.set i (some v)) H s' → Q () s') (hf : X.fn x = true ∨ X.env.scope.names.lookup x = some .local := by first | exact .inl rfl | exact .inr rfl | assumption) : wpAny M A (storeName X.env x u) Q E s :=
  store_ok2 I hN hi hx r (fun s' I' _ => h s' I') hf
/-- behind a call or a block, the state as it is -/
theorem Inv.call' {s' : Shared} {ch : List Addr} (I : Inv X pins σ H s) (ho : s'.os = s.os) (u : Un (frs X.stack) ch H H' s.heap s'.heap) (hok : HOk X.prog X.w H' s'.heap) (hg : AllBare s'.gens)
    (hch : ∀ b ∈ ch, (b ∈ X.ex ∨ X.s₀.heap.objs.size ≤ b) ∧ b ≠ X.env.locals ∧ (∀ x c, X.env.cells.lookup x = some c → c ≠ b) ∧ ∀ p ∈ X.pn ++ pins, p.1 ≠ b) : Inv X pins σ H' s' := by
  obtain ⟨h', g', d', t', o'⟩ := s'
  have e : o' = s.os := ho
  subst e
  exact I.call (g' := g') (t' := t') (d' := d') u hok hg hch
end

/-! ### the judgements -/
/-- an exception: its class, its own dict's address (where it has one), the abstract heap behind it -/
abbrev XK := Value → Option Addr → Hp → Prop
abbrev St := List (Option V)
abbrev VK := V → Hp → Prop
/-- an expression's reading; a test's; an argument list's -/
abbrev TE := St → Hp → VK → Prop
abbrev TT := St → Hp → (Bool → Hp → Prop) → Prop
abbrev TA := St → Hp → (List V → Hp → Prop) → Prop
/-- what is wanted behind a statement -/
structure Ends where
  nx : St → Hp → Prop
  rt : VK
  bk : St → Hp → Prop := fun _ _ => False
  ct : St → Hp → Prop := fun _ _ => False
abbrev TS := Ends → St → Hp → Prop

def EP (X : Cx) (pins : List (Addr × Obj)) (σ : St) (Q : VK) (u : Value) (s' : Shared) : Prop := ∃ v H', Inv X pins σ H' s' ∧ RelV v u ∧ Q v H'
def TP (X : Cx) (pins : List (Addr × Obj)) (σ : St) (Q : Bool → Hp → Prop) (b : Bool) (s' : Shared) : Prop := ∃ H', Inv X pins σ H' s' ∧ Q b H'
def AP (X : Cx) (pins : List (Addr × Obj)) (σ : St) (Q : List V → Hp → Prop) (us : List Value) (s' : Shared) : Prop := ∃ vs H', Inv X pins σ H' s' ∧ Vals vs us ∧ Q vs H'
def SP (X : Cx) (pins : List (Addr × Obj)) (D : Ends) (f : Flow) (s' : Shared) : Prop :=
  match f with
  | .next => ∃ σ' H', Inv X pins σ' H' s' ∧ D.nx σ' H'
  | .brk => ∃ σ' H', Inv X pins σ' H' s' ∧ D.bk σ' H'
  | .cont => ∃ σ' H', Inv X pins σ' H' s' ∧ D.ct σ' H'
  | .ret u => ∃ v σ' H', Inv X pins σ' H' s' ∧ RelV v u ∧ D.rt v H'

def PE (X : Cx) (e : Expr) (t : TE) : Prop :=
  ∀ (pins : List (Addr × Obj)) (s : Shared) (σ : St) (H : Hp) (Q : VK), Inv X pins σ H s → t σ H Q → wpAny (model X.prog X.w) X.A (eval e X.env) (EP X pins σ Q) X.xe s
def PT (X : Cx) (e : Expr) (t : TT) : Prop :=
  ∀ (pins : List (Addr × Obj)) (s : Shared) (σ : St) (H : Hp) (Q : Bool → Hp → Prop), Inv X pins σ H s → t σ H Q → wpAny (model X.prog X.w) X.A (isTrue e X.env (eval e X.env)) (TP X pins σ Q) X.xe s
/-- a test whatever its 'whole' is (and, or) -/
def PW (X : Cx) (e : Expr) (t : TT) : Prop :=
  ∀ (whole : Sem Value) (pins : List (Addr × Obj)) (s : Shared) (σ : St) (H : Hp) (Q : Bool → Hp → Prop), Inv X pins σ H s → t σ H Q → wpAny (model X.prog X.w) X.A (isTrue e X.env whole) (TP X pins σ Q) X.xe s
theorem PW.pt {X : Cx} {e : Expr} {t : TT} (h : PW X e t) : PT X e t := h _
/-- an argument list (no star), from the left -/
def PA (X : Cx) (es : List Expr) (t : TA) : Prop :=
  ∀ (pos : Pos) (pins : List (Addr × Obj)) (s : Shared) (σ : St) (H : Hp) (Q : List V → Hp → Prop), Inv X pins σ H s → t σ H Q → wpAny (model X.prog X.w) X.A (spliced (backTo pos (starEach es X.env))) (AP X pins σ Q) X.xe s
def PS (X : Cx) (st : Stmt) (t : TS) : Prop :=
  ∀ (pins : List (Addr × Obj)) (s : Shared) (σ : St) (H : Hp) (D : Ends), Inv X pins σ H s → t D σ H → wpAny (model X.prog X.w) X.A (exec st X.env) (SP X pins D) X.xe s
def PSs (X : Cx) (st : List Stmt) (t : TS) : Prop :=
  ∀ (pins : List (Addr × Obj)) (s : Shared) (σ : St) (H : Hp) (D : Ends), Inv X pins σ H s → t D σ H → wpAny (model X.prog X.w) X.A (execs st X.env) (SP X pins D) X.xe s
/-- weaken the end -/
theorem thn {α : Type} {t : Sem α} {Q Q' : α → Shared → Prop} {M : Model} {A : Around} {E : Value → Shared → Prop} {s : Shared} (h : wpAny M A t Q E s) (hQ : ∀ a s, Q a s → Q' a s) : wpAny M A t Q' E s := wpAny_mono h hQ fun _ _ x => x
end L2

namespace L2
open PySem PySem.Spec PyProof.Rows
section
variable {X : Cx}


/-! ### names and constants -/
def tVar (i : Nat) : TE := fun σ H Q => ∃ v, σ[i]? = some (some v) ∧ Q v H
def tC (v : V) : TE := fun _ H Q => Q v H
theorem pe_var {i : Nat} {x : Str} {pos : Pos} (hN : X.N[i]? = some x) (hv : Vis X.env.scope x) (hd : (x == ("__debug__" : Str)) = false := by decide) (hcd : (x == ("__classdict__" : Str)) = false := by decide) : PE X (.Name x pos) (tVar i) := by
  intro pins s σ H Q I h
  obtain ⟨v, e, h⟩ := h
  obtain ⟨m, hn, hl⟩ := I.loc
  obtain ⟨u, r, l⟩ := hl i x v hN e hv
  have fin : EP X pins σ Q u s := ⟨v, H, I, r, h⟩
  rcases l with ⟨hk, hm⟩ | ⟨hk, c, hc, hcell⟩
  · exact wpAny_Name (wpAny_loadName_local I.ok.kind hk hn hm fin) hd
  · rcases hk with hk | hk
    · exact wpAny_Name (wpAny_loadName_cell I.ok.kind hk hc hcell fin) hd
    · exact wpAny_Name (wpAny_loadName_free I.ok.kind hk hc hcell fin hcd) hd
theorem pe_int {i j pos} : PE X (.Constant (.int i) j pos) (tC (.int i)) := fun _ _ _ H _ I h => wpAny_Constant_int ⟨.int i, H, I.tok _, ⟨_, rfl⟩, h⟩
theorem pe_bl {b j pos} : PE X (.Constant (.bool b) j pos) (tC (.bl b)) := fun _ _ _ H _ I h => Constant_bool ⟨.bl b, H, I, rfl, h⟩

/-- a global name of the def -/
def Gl (X : Cx) (x : Str) : Prop := X.env.kindOf x = some .globalImplicit
theorem ld_glob {E : Value → Shared → Prop} {pins : List (Addr × Obj)} {s : Shared} {σ : St} {H : Hp} {x : Str} {u : Value} {pos : Pos} {Q : Value → Shared → Prop} (I : Inv X pins σ H s) (hg : Gl X x) (hm : X.mg x = some u) (h : Q u s)
    (hd : (x == ("__debug__" : Str)) = false := by decide) : wpAny (model X.prog X.w) X.A (eval (.Name x pos) X.env) Q E s :=
  Calls.Name_function_global I.ok.kind hg (Calls.loadGlobal_global (by rw [I.ok.glob]; exact I.mod.glob.keeps I.bk) hm h) hd
theorem ld_blt {E : Value → Shared → Prop} {pins : List (Addr × Obj)} {s : Shared} {σ : St} {H : Hp} {x : Str} {u : Value} {pos : Pos} {Q : Value → Shared → Prop} (I : Inv X pins σ H s) (hg : Gl X x) (hm : X.mg x = none) (hv : bootBuiltins x = some u) (h : Q u s)
    (hn : x ≠ "__name__" := by decide) (hd : (x == ("__debug__" : Str)) = false := by decide) : wpAny (model X.prog X.w) X.A (eval (.Name x pos) X.env) Q E s := by
  obtain ⟨mb, h1, h2⟩ := I.mod.blt
  exact Calls.Name_function_global I.ok.kind hg (Calls.loadGlobal_builtin (by rw [I.ok.glob]; exact I.mod.glob.keeps I.bk) hm (by rw [I.ok.blt]; exact h1.keeps I.bk) ((h2 x hn).trans hv) h) hd
/-- a module's constant, a class, a function, as a value -/
theorem pe_glob {x : Str} {v : V} {u : Value} {pos : Pos} (hg : Gl X x) (hm : X.mg x = some u) (r : RelV v u) (hd : (x == ("__debug__" : Str)) = false := by decide) : PE X (.Name x pos) (tC v) :=
  fun _ _ _ H _ I h => ld_glob I hg hm ⟨v, H, I, r, h⟩ hd
theorem pe_bltn {x : Str} {v : V} {u : Value} {pos : Pos} (hg : Gl X x) (hm : X.mg x = none) (hv : bootBuiltins x = some u) (r : RelV v u) (hn : x ≠ "__name__" := by decide) (hd : (x == ("__debug__" : Str)) = false := by decide) : PE X (.Name x pos) (tC v) :=
  fun _ _ _ H _ I h => ld_blt I hg hm hv ⟨v, H, I, r, h⟩ hn hd

/-! ### arithmetic -/
variable {a b : Expr} {ta tb : TE} {pos : Pos}

/-! ### comparisons -/
/-- a comparison as a value, as a test -/
def tB (t : TE) : TT := fun σ H Q => t σ H fun x H1 => ∃ c, x = .bl c ∧ Q c H1
/-- an expression whose value is a bool, as a test -/
theorem pt_val {e : Expr} {t : TE} (h : PE X e t) (he : ∀ whole, isTrue e X.env whole = (do let v ← whole; standAt e.pos; holding [v] (truthy v)) := by intro _; rfl) : PT X e (tB t) := by
  intro pins s σ H Q I hw
  refine isTrue_plain (thn (h pins s σ H _ I hw) fun v s1 ⟨x, H1, I1, r1, q1⟩ => ?_) (he _)
  obtain ⟨d, rfl, q⟩ := q1
  cases r1
  exact wpAny_truthy_bool ⟨H1, I1, q⟩

/-! ### and, or, not -/
variable {tA tB' : TT} {rest : List Expr}
def tOr (t u : TT) : TT := fun σ H Q => t σ H fun c H1 => if c = true then Q true H1 else u σ H1 Q
def tNot (t : TT) : TT := fun σ H Q => t σ H fun c H1 => Q (!c) H1
theorem pw_or1 (ha : PT X a tA) : PW X (.BoolOp .Or [a] pos) tA := by
  intro wh pins s σ H Q I h
  refine isTrue_or (thn (ha pins s σ H Q I h) fun c s1 e => ?_)
  cases c with
  | false => exact isTrue_or_nil e
  | true => exact e
theorem pw_or (ha : PT X a tA) (hb : PW X (.BoolOp .Or (b :: rest) pos) tB') : PW X (.BoolOp .Or (a :: b :: rest) pos) (tOr tA tB') := by
  intro wh pins s σ H Q I h
  refine isTrue_or (thn (ha pins s σ H _ I h) fun c s1 ⟨H1, I1, q1⟩ => ?_)
  cases c with
  | true => exact ⟨H1, I1, q1⟩
  | false => exact hb wh pins s1 σ H1 Q I1 q1
theorem pt_not (ha : PT X a tA) : PT X (.UnaryOp .Not a pos) (tNot tA) := by
  intro pins s σ H Q I h
  exact isTrue_not (ha pins s σ H (fun c H1 => Q (!c) H1) I h)
/-- .. as values (bools) -/
def tAndV (ta tb : TE) : TE := fun σ H Q => ta σ H fun x H1 => ∃ c, x = .bl c ∧ if c = true then tb σ H1 Q else Q (.bl false) H1
def tNotV (ta : TE) : TE := fun σ H Q => ta σ H fun x H1 => ∃ c, x = .bl c ∧ Q (.bl (!c)) H1
theorem pe_one {op} {t : TE} (h : PE X a t) : PE X (.BoolOp op [a] pos) t := fun pins s σ H Q I hw => BoolOp_one (h pins s σ H Q I hw)
theorem pe_and (ha : PE X a ta) (hb : PE X (.BoolOp .And (b :: rest) pos) tb) : PE X (.BoolOp .And (a :: b :: rest) pos) (tAndV ta tb) := by
  intro pins s σ H Q I h
  refine BoolOp_and (thn (ha pins s σ H _ I h) fun v s1 ⟨x, H1, I1, r1, q1⟩ => ?_)
  obtain ⟨c, rfl, q1⟩ := q1
  cases r1
  refine wpAny_truthy_bool ?_
  cases c with
  | true => exact hb pins s1 σ H1 Q I1 q1
  | false => exact ⟨.bl false, H1, I1, rfl, q1⟩
theorem pe_not (ha : PE X a ta) : PE X (.UnaryOp .Not a pos) (tNotV ta) := by
  intro pins s σ H Q I h
  refine UnaryOp_ (thn (ha pins s σ H _ I h) fun v s1 ⟨x, H1, I1, r1, q1⟩ => ?_)
  obtain ⟨c, rfl, q1⟩ := q1
  cases r1
  exact not_of (wpAny_truthy_bool ⟨.bl (!c), H1, I1, rfl, q1⟩)
end
end L2

namespace L2
open PySem PySem.Spec PyProof.Rows

/-! ### a list, a tuple that is read: tracked, frozen, or an object of the module -/
def SqL (K : PySem.W.Frag) (H : Hp) (a : Addr) (xs : List V) : Prop :=
  Rd H a (.lst xs) ∨
    ∃ (o : Obj) (its : Array Value) (n : Nat), K.lookup a = some o ∧ o.cls = .type "list" ∧ o.dict = none ∧ o.data = .seq its n ∧ its.size ≤ sizeLine ∧ Vals xs its.toList
def SqT (K : PySem.W.Frag) (H : Hp) (a : Addr) (xs : List V) : Prop :=
  Rd H a (.tup xs) ∨
    ∃ (o : Obj) (its : Array Value) (n : Nat), K.lookup a = some o ∧ o.cls = .type "tuple" ∧ o.data = .seq its n ∧ its.size ≤ sizeLine ∧ Vals xs its.toList
def absV : Value → Option V
  | .none => some .non
  | .bool b => some (.bl b)
  | .int i _ => some (.int i)
  | .str x _ => some (.str x)
  | .bytes b _ => some (.byt b)
  | .float b _ => some (.flt b)
  | .ref a => some (.ref a)
  | .type n => some (.ty n)
  | _ => none
theorem RelV.abs {x : V} {u : Value} (r : RelV x u) : absV u = some x := by
  cases x with
  | non => cases r; rfl
  | bl _ => cases r; rfl
  | int _ => obtain ⟨t, rfl⟩ := r; rfl
  | str _ => obtain ⟨t, rfl⟩ := r; rfl
  | byt _ => obtain ⟨t, rfl⟩ := r; rfl
  | flt _ => obtain ⟨t, rfl⟩ := r; rfl
  | ref _ => cases r; rfl
  | ty _ => cases r; rfl
theorem RelV.inj {x y : V} {u : Value} (r : RelV x u) (q : RelV y u) : x = y := Option.some.inj (r.abs.symm.trans q.abs)
theorem Vals.inj : ∀ {xs ys : List V} {us : List Value}, Vals xs us → Vals ys us → xs = ys
  | _, _, _, .nil, .nil => rfl
  | _, _, _, .cons r t, .cons r' t' => by rw [r.inj r', Vals.inj t t']
section
variable {X : Cx} {pins : List (Addr × Obj)} {σ : St} {H : Hp} {s : Shared} {a : Addr} {xs ys : List V}
theorem SqL.of {K : PySem.W.Frag} (h : H a = some (.lst xs)) : SqL K H a xs := .inl (.inl h)
theorem SqT.of {K : PySem.W.Frag} (h : H a = some (.tup xs)) : SqT K H a xs := .inl (.inl h)
theorem Inv.list (I : Inv X pins σ H s) (h : SqL X.K H a xs) : ∃ its : List Value, Vals xs its ∧ PlainL s.heap a its.toArray ∧ xs.length ≤ sizeLine := by
  rcases h with h | ⟨o, its, n, hk, hc, hd, hs, hz, r⟩
  · obtain ⟨z, its, n, r, e⟩ := h.ok I.hok
    exact ⟨its, r, ⟨_, n, e, rfl, rfl, rfl⟩, z⟩
  · refine ⟨its.toList, r, ⟨o, n, I.kIn a o hk, hc, hd, by simpa using hs⟩, ?_⟩
    have e := r.length
    simp only [Array.length_toList] at e
    omega
theorem Inv.tuple (I : Inv X pins σ H s) (h : SqT X.K H a xs) : ∃ its : List Value, Vals xs its ∧ IsTup s.heap a its.toArray ∧ xs.length ≤ sizeLine := by
  rcases h with h | ⟨o, its, n, hk, hc, hs, hz, r⟩
  · obtain ⟨z, its, r, p⟩ := h.ok I.hok
    exact ⟨its, r, p, z⟩
  · refine ⟨its.toList, r, ⟨o, I.kIn a o hk, hc, n, by simpa using hs⟩, ?_⟩
    have e := r.length
    simp only [Array.length_toList] at e
    omega
theorem Inv.list_inj (I : Inv X pins σ H s) (h : SqL X.K H a xs) (h' : SqL X.K H a ys) : xs = ys := by
  obtain ⟨its, r, ⟨o, n, e, _, _, d⟩, _⟩ := I.list h
  obtain ⟨its', r', ⟨o', n', e', _, _, d'⟩, _⟩ := I.list h'
  rw [e] at e'; cases e'
  rw [d] at d'
  injection d' with d1 _
  have : its = its' := by simpa using congrArg Array.toList d1
  subst this
  exact r.inj r'
theorem Inv.tuple_inj (I : Inv X pins σ H s) (h : SqT X.K H a xs) (h' : SqT X.K H a ys) : xs = ys := by
  obtain ⟨its, r, ⟨o, e, _, n, d⟩, _⟩ := I.tuple h
  obtain ⟨its', r', ⟨o', e', _, n', d'⟩, _⟩ := I.tuple h'
  rw [e] at e'; cases e'
  rw [d] at d'
  injection d' with d1 _
  have : its = its' := by simpa using congrArg Array.toList d1
  subst this
  exact r.inj r'
end

/-! ### another wish about exceptions -/
abbrev Cx.wish (X : Cx) (E : Value → Shared → Prop) : Cx := { X with xe := E }
/-- no exception leaves -/
abbrev Cx.nox (X : Cx) : Cx := X.wish fun _ _ => False
theorem Cx.Ok.wish {X : Cx} (ok : X.Ok) (E : Value → Shared → Prop) : (X.wish E).Ok :=
  ⟨ok.mod, ok.kind, ok.glob, ok.blt, ok.above, ok.inj, ok.has, ok.cab, ok.hd, ok.frames, ok.stk, ok.exf, ok.bs, ok.bsz, ok.noex, ok.exfs, ok.funs, ok.frf⟩
theorem Cx.Ok.unwish {X : Cx} {E : Value → Shared → Prop} (ok : (X.wish E).Ok) : X.Ok :=
  ⟨ok.mod, ok.kind, ok.glob, ok.blt, ok.above, ok.inj, ok.has, ok.cab, ok.hd, ok.frames, ok.stk, ok.exf, ok.bs, ok.bsz, ok.noex, ok.exfs, ok.funs, ok.frf⟩
section
variable {X : Cx} {pins : List (Addr × Obj)} {σ : St} {H : Hp} {s : Shared} {E : Value → Shared → Prop}
theorem Inv.wish (I : Inv X pins σ H s) (E : Value → Shared → Prop) : Inv (X.wish E) pins σ H s := ⟨I.ok.wish E, I.os, I.bare, I.base, I.loc, I.cell, I.free, I.freeC, I.pin, I.hok, I.len⟩
theorem Inv.unwish (I : Inv (X.wish E) pins σ H s) : Inv X pins σ H s := ⟨I.ok.unwish, I.os, I.bare, I.base, I.loc, I.cell, I.free, I.freeC, I.pin, I.hok, I.len⟩
theorem SP.unwish {D : Ends} {f : Flow} {s' : Shared} (h : SP (X.wish E) pins D f s') : SP X pins D f s' := by
  cases f with
  | next => obtain ⟨σ', H', I, q⟩ := h; exact ⟨σ', H', I.unwish, q⟩
  | brk => obtain ⟨σ', H', I, q⟩ := h; exact ⟨σ', H', I.unwish, q⟩
  | cont => obtain ⟨σ', H', I, q⟩ := h; exact ⟨σ', H', I.unwish, q⟩
  | ret u => obtain ⟨v, σ', H', I, r, q⟩ := h; exact ⟨v, σ', H', I.unwish, r, q⟩
theorem PSs.nox {st : List Stmt} {t : TS} (h : PSs X.nox st t) : PSs X st t := fun pins s σ H D I hw =>
  wpAny_mono (h pins s σ H D (I.wish _) hw) (fun _ _ q => q.unwish) fun _ _ z => False.elim z
end

/-! ### blocks and small statements -/
section
variable {X : Cx} {st : Stmt} {rest : List Stmt} {t u : TS} {e : Expr} {te : TE} {pos : Pos}
def tNext : TS := fun D σ H => D.nx σ H
def tSeq (t u : TS) : TS := fun D σ H => t { D with nx := u D } σ H
theorem pss_nil : PSs X [] tNext := fun _ _ σ H _ I h => wpAny_execs_nil ⟨σ, H, I, h⟩
theorem pss_cons (h1 : PS X st t) (h2 : PSs X rest u) : PSs X (st :: rest) (tSeq t u) := by
  intro pins s σ H D I h
  refine wpAny_execs_cons (thn (h1 pins s σ H { D with nx := u D } I h) fun f s1 q => ?_)
  cases f with
  | next =>
    obtain ⟨σ', H', I', q⟩ := q
    exact h2 pins s1 σ' H' D I' q
  | ret v => exact q
  | brk => exact q
  | cont => exact q
theorem pss_one (h1 : PS X st t) : PSs X [st] t := by
  intro pins s σ H D I h
  refine wpAny_execs_cons (thn (h1 pins s σ H D I h) fun f s1 q => ?_)
  cases f with
  | next => exact wpAny_execs_nil q
  | ret v => exact q
  | brk => exact q
  | cont => exact q
/-- in a def's body nothing is shown -/
theorem Inv.quiet {pins : List (Addr × Obj)} {σ : St} {H : Hp} {s : Shared} (I : Inv X pins σ H s) : interactive X.env = false := by simp [interactive, I.ok.kind]
/-- an expression whose value is dropped -/
def tDrop (te : TE) : TS := fun D σ H => te σ H fun _ H1 => D.nx σ H1
theorem ps_expr (he : PE X e te) (hs : swapsWith e none pos.line X.env = pure false := by rfl) : PS X (.Expr e pos) (tDrop te) := by
  intro pins s σ H D I h
  exact wpAny_Expr_any (thn (he pins s σ H _ I h) fun v s1 ⟨x, H1, I1, r1, q1⟩ => ⟨σ, H1, I1, q1⟩) I.quiet hs
def tRet (te : TE) : TS := fun D σ H => te σ H D.rt
theorem ps_ret (he : PE X e te) : PS X (.Return (some e) pos) (tRet te) := by
  intro pins s σ H D I h
  exact wpAny_Return_some (thn (he pins s σ H _ I h) fun v s1 ⟨x, H1, I1, r1, q1⟩ => ⟨x, σ, H1, I1, r1, q1⟩)
def tIfS (c : TT) (t u : TS) : TS := fun D σ H => c σ H fun b H1 => if b = true then t D σ H1 else u D σ H1
theorem ps_if {c : Expr} {a b : List Stmt} {tc : TT} (hc : PT X c tc) (ha : PSs X a t) (hb : PSs X b u) : PS X (.If c a b pos) (tIfS tc t u) := by
  intro pins s σ H D I h
  refine wpAny_If (thn (hc pins s σ H _ I h) fun d s1 ⟨H1, I1, q1⟩ => ?_)
  cases d with
  | true => exact ha pins s1 σ H1 D I1 q1
  | false => exact hb pins s1 σ H1 D I1 q1
/-- code that the proof never comes to -/
def tNever : TS := fun _ _ _ => False
theorem pss_never {sts : List Stmt} : PSs X sts tNever := fun _ _ _ _ _ _ h => h.elim
end

/-! ### targets -/
abbrev TG := V → St → Hp → (St → Hp → Prop) → Prop
abbrev TGs := List V → St → Hp → (St → Hp → Prop) → Prop
def PG (X : Cx) (target : Expr) (t : TG) : Prop :=
  ∀ (pins : List (Addr × Obj)) (s : Shared) (σ : St) (H : Hp) (v : V) (u : Value) (Q : St → Hp → Prop), Inv X pins σ H s → RelV v u → t v σ H Q →
    wpAny (model X.prog X.w) X.A (assign target X.env u) (fun _ s' => ∃ σ' H', Inv X pins σ' H' s' ∧ Q σ' H') X.xe s
/-- several targets, one after another -/
def PGs (X : Cx) (ts : List Expr) (t : TGs) : Prop :=
  ∀ (pins : List (Addr × Obj)) (s : Shared) (σ : St) (H : Hp) (vs : List V) (us : List Value) (Q : St → Hp → Prop), Inv X pins σ H s → Vals vs us → t vs σ H Q →
    wpAny (model X.prog X.w) X.A (assignInOrder ((assignEach ts X.env).map (·.2)) us) (fun _ s' => ∃ σ' H', Inv X pins σ' H' s' ∧ Q σ' H') X.xe s
section
variable {X : Cx} {pos : Pos}
def gName (i : Nat) : TG := fun v σ H Q => Q (σ.set i (some v)) H
theorem pg_name {i : Nat} {x : Str} (hN : X.N.Nodup) (hi : X.N[i]? = some x) (hx : Loc X.env.scope x) (hf : X.fn x = true ∨ X.env.scope.names.lookup x = some .local := by first | exact .inl rfl | exact .inr rfl | assumption) : PG X (.Name x pos) (gName i) := by
  intro pins s σ H v u Q I r h
  exact wpAny_assign_Name (store_ok I hN hi hx r (fun s' I' => ⟨_, H, I', h⟩) hf)
def gNil : TGs := fun vs σ H Q => vs = [] ∧ Q σ H
def gCons (t : TG) (u : TGs) : TGs := fun vs σ H Q => ∃ v r, vs = v :: r ∧ t v σ H fun σ' H' => u r σ' H' Q
theorem pgs_nil : PGs X [] gNil := by
  intro pins s σ H vs us Q I r h
  obtain ⟨e, h⟩ := h
  subst e
  cases r
  exact assignInOrder_nil ⟨σ, H, I, h⟩
theorem pgs_cons {e : Expr} {es : List Expr} {t : TG} {u : TGs} (h1 : PG X e t) (h2 : PGs X es u)
    (hs : (assignEach (e :: es) X.env).map (·.2) = assign e X.env :: (assignEach es X.env).map (·.2) := by rfl) : PGs X (e :: es) (gCons t u) := by
  intro pins s σ H vs us Q I r h
  obtain ⟨v, vr, e1, h⟩ := h
  subst e1
  cases r with
  | cons r rr =>
    rw [hs]
    refine assignInOrder_cons (thn (h1 pins s σ H _ _ _ I r h) fun _ s1 ⟨σ1, H1, I1, q1⟩ => ?_)
    exact h2 pins s1 σ1 H1 _ _ Q I1 rr q1
/-- (a, b, ..) = a tuple of that length -/
def gTup (K : PySem.W.Frag) (n : Nat) (t : TGs) : TG := fun v σ H Q => ∃ a xs, v = .ref a ∧ SqT K H a xs ∧ xs.length = n ∧ t xs σ H Q
theorem pg_tup {es : List Expr} {k : Nat} {t : TGs} {n : Nat} (hc : X.calm = true) (h : PGs X es t)
    (hn : (assignEach es X.env).length = n := by rfl) (hst : (assignEach es X.env).findIdx? (·.1) = none := by rfl) : PG X (.Tuple es k pos) (gTup X.K n t) := by
  intro pins s σ H v u Q I r hw
  obtain ⟨a, xs, e1, hq, hl, hw⟩ := hw
  subst e1
  cases r
  obtain ⟨its, rv, ht, hz⟩ := I.tuple hq
  refine assign_Tuple_tuple (I.ok.hd hc) ht (by simp [hn, ← hl, rv.length]) hst fun h' hx => ?_
  have I1 : Inv X pins σ H { s with heap := h' } := I.kept (t' := s.toks) fun b o e => hx b o (Nat.ne_of_lt (Heap.lt_size e)) e
  exact h pins _ σ H xs _ Q I1 (by simpa using rv) hw
/-- target = value -/
def tAsg (te : TE) (g : TG) : TS := fun D σ H => te σ H fun x H1 => g x σ H1 D.nx
/-- name = value -/
theorem ps_set {i : Nat} {x : Str} {e : Expr} {te : TE} {pos' : Pos} (hN : X.N.Nodup) (hi : X.N[i]? = some x) (hx : Loc X.env.scope x) (he : PE X e te) (hs : swapsWith e (some (.Name x pos')) pos.line X.env = pure false := by rfl) (hf : X.fn x = true ∨ X.env.scope.names.lookup x = some .local := by first | exact .inl rfl | exact .inr rfl | assumption) :
    PS X (.Assign [.Name x pos'] e pos) (tAsg te (gName i)) := by
  intro pins s σ H D I h
  refine wpAny_Assign_Name (thn (he pins s σ H _ I h) fun v s1 ⟨y, H1, I1, r1, q1⟩ => ?_) hs
  exact store_ok I1 hN hi hx r1 (fun s2 I2 => ⟨_, H1, I2, q1⟩) hf
end

/-! ### while -/
section
variable {X : Cx} {pos : Pos}
end

/-! ### what a loop or a comprehension walks -/
/-- at turn i: it yields x (the heap may grow), or it stops -/
structure It where
  go : Nat → Hp → Prop
  yld : Nat → Hp → V → Hp → Prop
  stop : Nat → Hp → Prop
/-- the iterator's own objects may turn: they are not the frame's, not pinned, younger than the entry (or a comprehension's own) -/
def FpOk (X : Cx) (pins : List (Addr × Obj)) (H : Hp) (b : Addr) : Prop :=
  H b = none ∧ b ≠ X.env.locals ∧ b ∉ X.fs ∧ (b ∈ X.ex ∨ X.s₀.heap.objs.size ≤ b) ∧ (∀ x c, X.env.cells.lookup x = some c → c ≠ b) ∧ ∀ p ∈ X.pn ++ pins, p.1 ≠ b
theorem Inv.fpOk {X : Cx} {pins : List (Addr × Obj)} {σ : St} {H H' : Hp} {s : Shared} {b : Addr} (I : Inv X pins σ H s) (hb : s.heap.objs.size ≤ b) (hn : H' b = none) : FpOk X pins H' b := by
  refine ⟨hn, Nat.ne_of_gt (Nat.lt_of_lt_of_le I.lt hb), I.nofs hb, .inr (Nat.le_trans I.sz hb), fun x c e z => ?_, fun p hp z => ?_⟩
  · obtain ⟨v, q⟩ := I.cell x c e
    exact absurd (Nat.lt_of_lt_of_le q.lt (by rw [z]; exact hb)) (Nat.lt_irrefl _)
  · exact absurd (Nat.lt_of_lt_of_le (Heap.lt_size (I.pin p hp).1) (by rw [z]; exact hb)) (Nat.lt_irrefl _)
structure Turn (P : Program) (w : World) (K : PySem.W.Frag) (tg : Expr) (J : It) (fp : List Addr) (it : Addr) (tn : Nat → Heap → Prop) : Prop where
  mem : it ∈ fp
  obj : ∀ i h, tn i h → ∀ b ∈ fp, ∃ o, h.get? b = some o ∧ ∀ v, o.data ≠ .cell v
  keep : ∀ i h h', tn i h → (∀ b ∈ fp, ∀ o, h.get? b = some o → h'.get? b = some o) → tn i h'
  item : ∀ (X : Cx), X.prog = P → X.w = w → X.K = K → X.calm = true → ∀ (i : Nat) (pins : List (Addr × Obj)) (s : Shared) (σ : St) (H : Hp) (E : Value → Shared → Prop), Inv X pins σ H s → (∀ b ∈ fp, FpOk X pins H b) → tn i s.heap → J.go i H →
    wpAny (model P w) X.A (pyNext (.ref it)) (fun r s1 => ∃ u, r = some u ∧
      wpAny (model P w) X.A (letOwnedTupleGo tg (.ref it) u) (fun _ s2 => ∃ x H', Inv X pins σ H' s2 ∧ RelV x u ∧ J.yld i H x H' ∧ tn (i + 1) s2.heap ∧ ∀ b ∈ fp, H' b = none) E s1) E s
  done : ∀ (X : Cx), X.prog = P → X.w = w → X.K = K → X.calm = true → ∀ (i : Nat) (pins : List (Addr × Obj)) (s : Shared) (σ : St) (H : Hp) (E : Value → Shared → Prop), Inv X pins σ H s → (∀ b ∈ fp, FpOk X pins H b) → tn i s.heap → J.stop i H →
    wpAny (model P w) X.A (pyNext (.ref it)) (fun r s1 => r = none ∧ Inv X pins σ H s1) E s
  self : ∀ (A : Around) (i : Nat) (s : Shared) (Q : Value → Shared → Prop) (E : Value → Shared → Prop), tn i s.heap → Q (.ref it) s → wpAny (model P w) A (pyIter (.ref it)) Q E s
abbrev TI := St → Hp → (It → Hp → Prop) → Prop
/-- an iterator has come -/
def PIE (X : Cx) (pins : List (Addr × Obj)) (σ : St) (tg : Expr) (R : It → Hp → Prop) (itv : Value) (s2 : Shared) : Prop :=
  ∃ (it : Addr) (fp : List Addr) (tn : Nat → Heap → Prop) (J : It) (H' : Hp), itv = .ref it ∧ Inv X pins σ H' s2 ∧ Turn X.prog X.w X.K tg J fp it tn ∧ tn 0 s2.heap ∧ (∀ b ∈ fp, FpOk X pins H' b) ∧ R J H'
def PI (X : Cx) (tg iter : Expr) (wi : TI) : Prop :=
  ∀ (pins : List (Addr × Obj)) (s : Shared) (σ : St) (H : Hp) (R : It → Hp → Prop), Inv X pins σ H s → wi σ H R →
    wpAny (model X.prog X.w) X.A (eval iter X.env) (fun v s1 => wpAny (model X.prog X.w) X.A (pyIter v) (PIE X pins σ tg R) X.xe s1) X.xe s

/-- the step ahead of the store is nothing for an iterator that keeps no tuple -/
theorem go_of {M : Model} {A : Around} {E : Value → Shared → Prop} {s : Shared} {tg : Expr} {it : Addr} {u : Value} {o : Obj} {n : String} {vs : Array Value} {Q : Unit → Shared → Prop} (ho : s.heap.get? it = some o) (hc : o.cls = .type n) (hd : o.data = .fields vs)
    (hn : ["enumerate", "zip", "dict_itemiterator", "dict_reverseitemiterator", "odict_iterator", "itertools.zip_longest", "itertools.pairwise"].contains n = false) (hQ : Q () s) : wpAny M A (letOwnedTupleGo tg (.ref it) u) Q E s := by
  unfold letOwnedTupleGo
  cases tg <;> first
    | exact wpAny_pure hQ
    | (cases u <;> first
        | exact wpAny_pure hQ
        | (refine wpAny_bind (wpAny_load ho ?_)
           rw [hc, hd]
           show wpAny M A (if (["enumerate", "zip", "dict_itemiterator", "dict_reverseitemiterator", "odict_iterator", "itertools.zip_longest", "itertools.pairwise"].contains n && vs[0]? == some (rawInt _)) = true then _ else _) Q E s
           rw [if_neg (by intro h; rw [hn, Bool.false_and] at h; cases h)]
           exact wpAny_pure hQ))

/-- the list at a, as it stands at each turn (a loop may append to it) -/
def Itl (K : PySem.W.Frag) (a : Addr) : It :=
  ⟨fun i H => ∃ xs x, SqL K H a xs ∧ xs[i]? = some x, fun i H x H' => H' = H ∧ ∀ xs, SqL K H a xs → xs[i]? = some x, fun i H => ∃ xs, SqL K H a xs ∧ xs.length ≤ i⟩
def Itt (K : PySem.W.Frag) (a : Addr) : It :=
  ⟨fun i H => ∃ xs x, SqT K H a xs ∧ xs[i]? = some x, fun i H x H' => H' = H ∧ ∀ xs, SqT K H a xs → xs[i]? = some x, fun i H => ∃ xs, SqT K H a xs ∧ xs.length ≤ i⟩
/-- lo, lo + 1, .. (n of them) -/
def Itr (lo : Int) (n : Nat) : It := ⟨fun i _ => i < n, fun i H x H' => H' = H ∧ x = .int (lo + i), fun i _ => n ≤ i⟩
theorem turn_list {P : Program} {w : World} {K : PySem.W.Frag} {tg : Expr} (a it : Addr) : Turn P w K tg (Itl K a) [it] it (fun i h => h.IsListIter it a i) where
  mem := by simp
  obj := fun i h st b hb => by
    have e : b = it := by simpa using hb
    subst e
    obtain ⟨o, e, c, d⟩ := st
    exact ⟨o, e, fun v z => by rw [d] at z; cases z⟩
  keep := fun i h h' st k => st.at fun o e => k it (by simp) o e
  item := by
    intro X hP hw hK hc i pins s σ H E I hf st hg
    subst hP hw hK
    obtain ⟨xs, x, hq, hx⟩ := hg
    obtain ⟨its, rv, p, hz⟩ := I.list hq
    obtain ⟨u, hu, ru⟩ := rv.get hx
    obtain ⟨f0, f1, f2, f3, f4, f5⟩ := hf it (by simp)
    refine wpAny_pyNext_list_item st p.isList (x := u) (by simpa using hu) fun h' st' sb => ?_
    have I1 : Inv X pins σ H { s with heap := h' } := I.turned (t' := s.toks) (fun b o hb e => (sb.2 b hb).trans e) f0 f1 f3 f4 f5
    obtain ⟨o, e, c, d⟩ := id st'
    exact ⟨u, rfl, go_of (s := { s with heap := h' }) e c d (by decide) ⟨x, H, I1, ru, ⟨rfl, fun ys hy => by rw [I.list_inj hy hq]; exact hx⟩, st', fun b hb => (hf b hb).1⟩⟩
  done := by
    intro X hP hw hK hc i pins s σ H E I hf st hg
    subst hP hw hK
    obtain ⟨xs, hq, hx⟩ := hg
    obtain ⟨its, rv, p, hz⟩ := I.list hq
    obtain ⟨f0, f1, f2, f3, f4, f5⟩ := hf it (by simp)
    have hl := rv.length
    exact wpAny_pyNext_list_end (I.ok.hd hc) st p.isList (by simp; omega) fun h' eb => ⟨rfl, I.turned (t' := s.toks) (fun b o hb e => eb b o hb e) f0 f1 f3 f4 f5⟩
  self := fun _ _ _ _ _ st h => wpAny_pyIter_listiter st h
theorem turn_tuple {P : Program} {w : World} {K : PySem.W.Frag} {tg : Expr} (a it : Addr) : Turn P w K tg (Itt K a) [it] it (fun i h => h.IsTupleIter it a i) where
  mem := by simp
  obj := fun i h st b hb => by
    have e : b = it := by simpa using hb
    subst e
    obtain ⟨o, e, c, d⟩ := st
    exact ⟨o, e, fun v z => by rw [d] at z; cases z⟩
  keep := fun i h h' st k => st.at fun o e => k it (by simp) o e
  item := by
    intro X hP hw hK hc i pins s σ H E I hf st hg
    subst hP hw hK
    obtain ⟨xs, x, hq, hx⟩ := hg
    obtain ⟨its, rv, p, hz⟩ := I.tuple hq
    obtain ⟨u, hu, ru⟩ := rv.get hx
    obtain ⟨f0, f1, f2, f3, f4, f5⟩ := hf it (by simp)
    refine wpAny_pyNext_tuple_item st (show s.heap.IsTuple a its.toArray from p) (x := u) (by simpa using hu) fun h' st' sb => ?_
    have I1 : Inv X pins σ H { s with heap := h' } := I.turned (t' := s.toks) (fun b o hb e => (sb.2 b hb).trans e) f0 f1 f3 f4 f5
    obtain ⟨o, e, c, d⟩ := id st'
    exact ⟨u, rfl, go_of (s := { s with heap := h' }) e c d (by decide) ⟨x, H, I1, ru, ⟨rfl, fun ys hy => by rw [I.tuple_inj hy hq]; exact hx⟩, st', fun b hb => (hf b hb).1⟩⟩
  done := by
    intro X hP hw hK hc i pins s σ H E I hf st hg
    subst hP hw hK
    obtain ⟨xs, hq, hx⟩ := hg
    obtain ⟨its, rv, p, hz⟩ := I.tuple hq
    obtain ⟨f0, f1, f2, f3, f4, f5⟩ := hf it (by simp)
    have hl := rv.length
    exact wpAny_pyNext_tuple_end (I.ok.hd hc) st (show s.heap.IsTuple a its.toArray from p) (by simp; omega) fun h' eb => ⟨rfl, I.turned (t' := s.toks) (fun b o hb e => eb b o hb e) f0 f1 f3 f4 f5⟩
  self := fun _ _ _ _ _ st h => wpAny_pyIter_tupleiter st h
theorem turn_range {P : Program} {w : World} {K : PySem.W.Frag} {tg : Expr} (it : Addr) (lo : Int) (n : Nat) : Turn P w K tg (Itr lo n) [it] it (fun i h => IsRangeIter h it (lo + (i : Nat) * 1) ((n : Int) - (i : Nat)) 1) where
  mem := by simp
  obj := fun i h st b hb => by
    have e : b = it := by simpa using hb
    subst e
    exact ⟨_, st, fun v z => by
      have z' : Data.fields _ = Data.cell v := z
      cases z'⟩
  keep := fun i h h' st k => k it (by simp) _ st
  item := by
    intro X hP hw hK hc i pins s σ H E I hf st hg
    subst hP hw hK
    obtain ⟨f0, f1, f2, f3, f4, f5⟩ := hf it (by simp)
    have W := Walks.range (prog := X.prog) (w := X.w) (I.ok.hd hc) it lo 1 n
    refine W.item i s _ _ hg st fun v h' tk hv st' kk => ?_
    obtain ⟨t, rfl⟩ := hv
    have I1 : Inv X pins σ H { s with heap := h', toks := tk } := I.turned (fun b o hb e => kk b o (by simpa using hb) e) f0 f1 f3 f4 f5
    refine ⟨_, rfl, go_of (s := { s with heap := h', toks := tk }) (n := "range_iterator") st' rfl rfl (by decide) ⟨.int (lo + i), H, I1, ⟨t, ?_⟩, ⟨rfl, rfl⟩, st', fun b hb => (hf b hb).1⟩⟩
    rw [Int.mul_one]
  done := by
    intro X hP hw hK hc i pins s σ H E I hf st hg
    subst hP hw hK
    obtain ⟨f0, f1, f2, f3, f4, f5⟩ := hf it (by simp)
    exact wpAny_pyNext_range_end (I.ok.hd hc) st (by have : n ≤ i := hg; omega) fun h' eb => ⟨rfl, I.turned (t' := s.toks) (fun b o hb e => eb b o hb e) f0 f1 f3 f4 f5⟩
  self := fun _ _ _ _ _ st h => wpAny_pyIter_rangeiter st h
end L2

namespace L2
open PySem PySem.Spec PyProof.Rows
section
variable {X : Cx} {tg : Expr}
def iList (K : PySem.W.Frag) (tl : TE) : TI := fun σ H R => tl σ H fun x H1 => ∃ a, x = .ref a ∧ (∃ xs, SqL K H1 a xs) ∧ R (Itl K a) H1
def iTup (K : PySem.W.Frag) (tl : TE) : TI := fun σ H R => tl σ H fun x H1 => ∃ a, x = .ref a ∧ (∃ xs, SqT K H1 a xs) ∧ R (Itt K a) H1
theorem pi_list {l : Expr} {tl : TE} (hl : PE X l tl) : PI X tg l (iList X.K tl) := by
  intro pins s σ H R I h
  refine thn (hl pins s σ H _ I h) fun v s1 ⟨x, H1, I1, r1, q1⟩ => ?_
  obtain ⟨a, e, ⟨xs, hq⟩, q⟩ := q1
  subst e
  cases r1
  obtain ⟨its, rv, p, hz⟩ := I1.list hq
  refine wpAny_pyIter_list p.isList ?_
  refine ⟨s1.heap.objs.size, [s1.heap.objs.size], _, _, H1, rfl, I1.kept (t' := s1.toks) fun b o e => Heap.get?_push_of_some _ e, turn_list a _, ⟨_, Heap.get?_push_size _ rfl, rfl, rfl⟩, fun b hb => ?_, q⟩
  have e : b = s1.heap.objs.size := by simpa using hb
  subst e
  exact I1.fpOk (Nat.le_refl _) (I1.hok.fresh (Nat.le_refl _))
theorem pi_tup {l : Expr} {tl : TE} (hl : PE X l tl) : PI X tg l (iTup X.K tl) := by
  intro pins s σ H R I h
  refine thn (hl pins s σ H _ I h) fun v s1 ⟨x, H1, I1, r1, q1⟩ => ?_
  obtain ⟨a, e, ⟨xs, hq⟩, q⟩ := q1
  subst e
  cases r1
  obtain ⟨its, rv, p, hz⟩ := I1.tuple hq
  refine wpAny_pyIter_tuple (show s1.heap.IsTuple a its.toArray from p) ?_
  refine ⟨s1.heap.objs.size, [s1.heap.objs.size], _, _, H1, rfl, I1.kept (t' := s1.toks) fun b o e => Heap.get?_push_of_some _ e, turn_tuple a _, ⟨_, Heap.get?_push_size _ rfl, rfl, rfl⟩, fun b hb => ?_, q⟩
  have e : b = s1.heap.objs.size := by simpa using hb
  subst e
  exact I1.fpOk (Nat.le_refl _) (I1.hok.fresh (Nat.le_refl _))
/-- a range object just made, walked -/
theorem range_it {pins : List (Addr × Obj)} {σ : St} {H : Hp} {s : Shared} {R : It → Hp → Prop} {E : Value → Shared → Prop} {lo hi : Int} {t u v : Tok} {tk : Nat} (I : Inv X pins σ H s) (h1 : -(2 ^ 62) ≤ lo) (h2 : lo < 2 ^ 62) (h3 : -(2 ^ 62) ≤ hi) (h4 : hi < 2 ^ 62)
    (q : R (Itr lo (hi - lo).toNat) H) : wpAny (model X.prog X.w) X.A (pyIter (.ref s.heap.objs.size)) (PIE X pins σ tg R) E { s with heap := s.heap.push { cls := .type "range", data := .fields #[.int lo t, .int hi u, .int 1 v] }, toks := tk } := by
  refine wpAny_pyIter_range (IsRange.new ..) (small_one h1 h2 h3 h4) ?_
  have I1 : Inv X pins σ H { s with heap := s.heap.push { cls := .type "range", data := .fields #[.int lo t, .int hi u, .int 1 v] }, toks := tk } := I.kept fun b o e => Heap.get?_push_of_some _ e
  refine ⟨(s.heap.push { cls := .type "range", data := .fields #[.int lo t, .int hi u, .int 1 v] }).objs.size, [(s.heap.push { cls := .type "range", data := .fields #[.int lo t, .int hi u, .int 1 v] }).objs.size], _, _, H, rfl,
    I1.kept (t' := tk) fun b o e => Heap.get?_push_of_some _ e, turn_range _ lo (hi - lo).toNat, ?_, fun b hb => ?_, q⟩
  · have e1 : lo + ((0 : Nat) : Int) * 1 = lo := by simp
    have e2 : (((hi - lo).toNat : Nat) : Int) - ((0 : Nat) : Int) = Builtin.Range.rangeSize lo hi 1 := by rw [rangeSize_one]; split <;> omega
    show IsRangeIter _ _ (lo + ((0 : Nat) : Int) * 1) ((((hi - lo).toNat : Nat) : Int) - ((0 : Nat) : Int)) 1
    rw [e1, e2]
    exact Heap.get?_push_size _ rfl
  · have e : b = (s.heap.push { cls := .type "range", data := .fields #[.int lo t, .int hi u, .int 1 v] }).objs.size := by simpa using hb
    subst e
    exact I1.fpOk (Nat.le_refl _) (I1.hok.fresh (Nat.le_refl _))
def iRng1 (ta : TA) : TI := fun σ H R => ta σ H fun vs H1 => ∃ j : Int, vs = [.int j] ∧ -(2 ^ 62) ≤ j ∧ j < 2 ^ 62 ∧ R (Itr 0 j.toNat) H1
theorem pi_range1 {a : Expr} {ta : TA} {p pos : Pos} (hg : Gl X "range") (hm : X.mg "range" = none) (ha : PA X [a] ta) (hs : starEach [a] X.env = [(false, eval a X.env)] := by rfl) : PI X tg (.Call (.Name "range" p) [a] [] pos) (iRng1 ta) := by
  intro pins s σ H R I h
  refine Call_ (ld_blt I hg hm boot_range (PyProof.Rows.callWith_type1 (thn (ha pos pins s σ H _ I h) fun us s1 ⟨vs, H1, I1, r1, q1⟩ => ?_) hs rfl))
  obtain ⟨j, e, q1, q2, q⟩ := q1
  subst e
  cases r1 with
  | cons r rr =>
    cases rr
    obtain ⟨t, rfl⟩ := r
    exact call_range_1 (range_it I1 (by omega) (by omega) q1 q2 (by simpa using q))

/-! ### for -/
/-- W: the invariant by the turn and a measure; N: what the body is to reach -/
def tFor (wi : TI) (g : TG) (tb : TS) : TS := fun D σ H => wi σ H fun J H1 => ∃ W : Nat → Nat → St → Hp → Prop, (∃ m, W 0 m σ H1) ∧ ∀ i m σ H, W i m σ H →
  (J.stop i H ∧ D.nx σ H) ∨ (J.go i H ∧ ∃ N : St → Hp → Prop, (∀ σ' H', N σ' H' → ∃ m', m' < m ∧ W (i + 1) m' σ' H') ∧ ∀ x H', J.yld i H x H' → g x σ H' fun σ2 H2 => tb { D with nx := N, ct := N, bk := D.nx } σ2 H2)
/-- the records at fp as they stand -/
def pinsAt (fp : List Addr) (h : Heap) : List (Addr × Obj) := fp.filterMap fun b => (h.get? b).map fun o => (b, o)
theorem mem_pinsAt {fp : List Addr} {h : Heap} {b : Addr} {o : Obj} (hb : b ∈ fp) (e : h.get? b = some o) : (b, o) ∈ pinsAt fp h := List.mem_filterMap.mpr ⟨b, hb, by rw [e]; rfl⟩
theorem of_pinsAt {fp : List Addr} {h : Heap} {p : Addr × Obj} (hp : p ∈ pinsAt fp h) : p.1 ∈ fp ∧ h.get? p.1 = some p.2 := by
  obtain ⟨b, hb, e⟩ := List.mem_filterMap.mp hp
  cases q : h.get? b with
  | none => rw [q] at e; cases e
  | some o =>
    rw [q] at e
    have e' : (b, o) = p := Option.some.inj e
    subst e'
    exact ⟨hb, q⟩
theorem Inv.pinned {pins : List (Addr × Obj)} {σ : St} {H : Hp} {s : Shared} {fp : List Addr} (I : Inv X pins σ H s) (hf : ∀ b ∈ fp, FpOk X pins H b) (ho : ∀ b ∈ fp, ∃ o, s.heap.get? b = some o ∧ ∀ v, o.data ≠ .cell v) : Inv X (pins ++ pinsAt fp s.heap) σ H s :=
  I.pins_of fun p hp => (List.mem_append.mp hp).elim (fun z => I.pin p (List.mem_append_right _ z)) fun z => by
    obtain ⟨hb, e⟩ := of_pinsAt z
    obtain ⟨f0, f1, f2, _⟩ := hf p.1 hb
    obtain ⟨o, e', d⟩ := ho p.1 hb
    rw [e] at e'; cases e'
    exact ⟨e, f0, f1, f2, d⟩
theorem Inv.unpinned {pins pl : List (Addr × Obj)} {σ : St} {H : Hp} {s : Shared} (I : Inv X (pins ++ pl) σ H s) : Inv X pins σ H s := I.pins_of fun p hp => I.pin p (List.mem_append_right _ (List.mem_append_left _ hp))
theorem ps_for {iter : Expr} {body : List Stmt} {wi : TI} {g : TG} {tb : TS} {pos : Pos} (hp : PassesOwn (model X.prog X.w) X.A X.env X.xe) (hc : X.calm = true) (hi : PI X tg iter wi) (hg : PG X tg g) (hb : PSs X body tb)
    (hs : ∀ x, foldedSetIterable iter X.env x = pure x := by intro _; rfl) : PS X (.For tg iter body [] pos) (tFor wi g tb) := by
  intro pins s σ H D I h
  refine wpAny_For (thn (hi pins s σ H _ I h) fun v s1 h1 => thn h1 fun itv s2 h2 => ?_) hs
  obtain ⟨it, fp, tn, J, H2, e, I2, T, st2, f2, W, ⟨m0, w0⟩, turn⟩ := h2
  subst e
  -- what stays true of the iterator's objects through the loop
  have stat : ∀ {H' : Hp}, (∀ b ∈ fp, H' b = none) → ∀ b ∈ fp, FpOk X pins H' b := fun hn b hb => ⟨hn b hb, (f2 b hb).2⟩
  refine codeAny_forLoop_any (fun n s' => ∃ i σ' H', Inv X pins σ' H' s' ∧ tn i s'.heap ∧ (∀ b ∈ fp, H' b = none) ∧ W i n σ' H') ?_ m0 ⟨0, σ, H2, I2, st2, fun b hb => (f2 b hb).1, w0⟩
  rintro n s3 ⟨i, σ3, H3, I3, st3, fr3, w3⟩
  rcases turn i n σ3 H3 w3 with ⟨stop, qn⟩ | ⟨go, N, hN, step⟩
  · refine wpAny_passesOwn hp (thn (T.done X rfl rfl rfl hc i pins s3 σ3 H3 X.xe I3 (stat fr3) st3 stop) fun r s4 ⟨hr, I4⟩ => ?_)
    subst hr
    exact wpAny_execs_nil ⟨σ3, H3, I4, qn⟩
  · refine wpAny_passesOwn hp (thn (T.item X rfl rfl rfl hc i pins s3 σ3 H3 X.xe I3 (stat fr3) st3 go) fun r s4 ⟨u, hr, h4⟩ => ?_)
    subst hr
    refine wpAny_passesOwn hp (thn h4 fun _ s5 ⟨x, H5, I5, r5, y5, st5, fr5⟩ => ?_)
    have I5' := I5.pinned (stat fr5) (T.obj _ _ st5)
    refine wpAny_passesOwn hp (thn (hg _ s5 σ3 H5 x u _ I5' r5 (step x H5 y5)) fun _ s6 ⟨σ6, H6, I6, q6⟩ => ?_)
    refine wpAny_passesOwn hp (thn (hb _ s6 σ6 H6 _ I6 q6) fun f s7 q7 => ?_)
    have again : ∀ {σ7 : St} {H7 : Hp}, Inv X (pins ++ pinsAt fp s5.heap) σ7 H7 s7 → N σ7 H7 → ∃ m, m < n ∧ ∃ i σ' H', Inv X pins σ' H' s7 ∧ tn i s7.heap ∧ (∀ b ∈ fp, H' b = none) ∧ W i m σ' H' := fun {σ7 H7} I7 n7 => by
      obtain ⟨m', hm, w7⟩ := hN σ7 H7 n7
      refine ⟨m', hm, i + 1, σ7, H7, I7.unpinned, T.keep _ _ _ st5 fun b hb o e => (I7.pin (b, o) (List.mem_append_right _ (List.mem_append_right _ (mem_pinsAt hb e)))).1, fun b hb => ?_, w7⟩
      obtain ⟨o, e, d⟩ := T.obj _ _ st5 b hb
      exact (I7.pin (b, o) (List.mem_append_right _ (List.mem_append_right _ (mem_pinsAt hb e)))).2.1
    cases f with
    | next => obtain ⟨σ7, H7, I7, n7⟩ := q7; exact again I7 n7
    | cont => obtain ⟨σ7, H7, I7, n7⟩ := q7; exact again I7 n7
    | brk => obtain ⟨σ7, H7, I7, q7⟩ := q7; exact ⟨σ7, H7, I7.unpinned, q7⟩
    | ret v => obtain ⟨x7, σ7, H7, I7, r7, q7⟩ := q7; exact ⟨x7, σ7, H7, I7.unpinned, r7, q7⟩
end

/-! ### the forms one uses -/
/-- over a list that the body leaves as it is -/
theorem for_list {K : PySem.W.Frag} {a : Addr} {xs : List V} {g : TG} {tb : TS} {D : Ends} {σ : St} {H : Hp} (Pv : Nat → St → Hp → Prop) (h0 : Pv 0 σ H) (hl : ∀ i σ H, i ≤ xs.length → Pv i σ H → SqL K H a xs)
    (hs : ∀ i x σ H, xs[i]? = some x → Pv i σ H → g x σ H fun σ2 H2 => tb { D with nx := Pv (i + 1), ct := Pv (i + 1), bk := D.nx } σ2 H2) (hd : ∀ σ H, Pv xs.length σ H → D.nx σ H) :
    ∃ W : Nat → Nat → St → Hp → Prop, (∃ m, W 0 m σ H) ∧ ∀ i m σ H, W i m σ H →
      ((Itl K a).stop i H ∧ D.nx σ H) ∨ ((Itl K a).go i H ∧ ∃ N : St → Hp → Prop, (∀ σ' H', N σ' H' → ∃ m', m' < m ∧ W (i + 1) m' σ' H') ∧ ∀ x H', (Itl K a).yld i H x H' → g x σ H' fun σ2 H2 => tb { D with nx := N, ct := N, bk := D.nx } σ2 H2) := by
  refine ⟨fun i m σ H => m = xs.length - i ∧ i ≤ xs.length ∧ Pv i σ H, ⟨xs.length, by simp, Nat.zero_le _, h0⟩, ?_⟩
  rintro i m σ H ⟨rfl, hi, p⟩
  have q := hl i σ H hi p
  by_cases hlt : i < xs.length
  · refine .inr ⟨⟨xs, xs[i], q, by simp [hlt]⟩, Pv (i + 1), fun σ' H' p' => ⟨xs.length - (i + 1), by omega, rfl, hlt, p'⟩, fun x H' y => ?_⟩
    obtain ⟨e, y⟩ := y
    subst e
    exact hs i x σ _ (y xs q) p
  · have e : i = xs.length := by omega
    subst e
    exact .inl ⟨⟨xs, q, Nat.le_refl _⟩, hd σ H p⟩
theorem for_tup {K : PySem.W.Frag} {a : Addr} {xs : List V} {g : TG} {tb : TS} {D : Ends} {σ : St} {H : Hp} (Pv : Nat → St → Hp → Prop) (h0 : Pv 0 σ H) (hl : ∀ i σ H, i ≤ xs.length → Pv i σ H → SqT K H a xs)
    (hs : ∀ i x σ H, xs[i]? = some x → Pv i σ H → g x σ H fun σ2 H2 => tb { D with nx := Pv (i + 1), ct := Pv (i + 1), bk := D.nx } σ2 H2) (hd : ∀ σ H, Pv xs.length σ H → D.nx σ H) :
    ∃ W : Nat → Nat → St → Hp → Prop, (∃ m, W 0 m σ H) ∧ ∀ i m σ H, W i m σ H →
      ((Itt K a).stop i H ∧ D.nx σ H) ∨ ((Itt K a).go i H ∧ ∃ N : St → Hp → Prop, (∀ σ' H', N σ' H' → ∃ m', m' < m ∧ W (i + 1) m' σ' H') ∧ ∀ x H', (Itt K a).yld i H x H' → g x σ H' fun σ2 H2 => tb { D with nx := N, ct := N, bk := D.nx } σ2 H2) := by
  refine ⟨fun i m σ H => m = xs.length - i ∧ i ≤ xs.length ∧ Pv i σ H, ⟨xs.length, by simp, Nat.zero_le _, h0⟩, ?_⟩
  rintro i m σ H ⟨rfl, hi, p⟩
  have q := hl i σ H hi p
  by_cases hlt : i < xs.length
  · refine .inr ⟨⟨xs, xs[i], q, by simp [hlt]⟩, Pv (i + 1), fun σ' H' p' => ⟨xs.length - (i + 1), by omega, rfl, hlt, p'⟩, fun x H' y => ?_⟩
    obtain ⟨e, y⟩ := y
    subst e
    exact hs i x σ _ (y xs q) p
  · have e : i = xs.length := by omega
    subst e
    exact .inl ⟨⟨xs, q, Nat.le_refl _⟩, hd σ H p⟩
theorem for_range {lo : Int} {n : Nat} {g : TG} {tb : TS} {D : Ends} {σ : St} {H : Hp} (Pv : Nat → St → Hp → Prop) (h0 : Pv 0 σ H)
    (hs : ∀ i σ H, i < n → Pv i σ H → g (.int (lo + i)) σ H fun σ2 H2 => tb { D with nx := Pv (i + 1), ct := Pv (i + 1), bk := D.nx } σ2 H2) (hd : ∀ σ H, Pv n σ H → D.nx σ H) :
    ∃ W : Nat → Nat → St → Hp → Prop, (∃ m, W 0 m σ H) ∧ ∀ i m σ H, W i m σ H →
      ((Itr lo n).stop i H ∧ D.nx σ H) ∨ ((Itr lo n).go i H ∧ ∃ N : St → Hp → Prop, (∀ σ' H', N σ' H' → ∃ m', m' < m ∧ W (i + 1) m' σ' H') ∧ ∀ x H', (Itr lo n).yld i H x H' → g x σ H' fun σ2 H2 => tb { D with nx := N, ct := N, bk := D.nx } σ2 H2) := by
  refine ⟨fun i m σ H => m = n - i ∧ i ≤ n ∧ Pv i σ H, ⟨n, by simp, Nat.zero_le _, h0⟩, ?_⟩
  rintro i m σ H ⟨rfl, hi, p⟩
  by_cases hlt : i < n
  · refine .inr ⟨hlt, Pv (i + 1), fun σ' H' p' => ⟨n - (i + 1), by omega, rfl, hlt, p'⟩, fun x H' y => ?_⟩
    obtain ⟨e, y⟩ := y
    subst e y
    exact hs i σ _ hlt p
  · have e : i = n := by omega
    subst e
    exact .inl ⟨Nat.le_refl _, hd σ H p⟩
end L2

namespace L2
open PySem PySem.Spec PyProof.Rows

abbrev R2 := V → V → Hp → VK → Prop
/-- a two-place operation on values: f is binaryOp op, inplaceOp op or compareOp op -/
def OpR (X : Cx) (f : Value → Value → Sem Value) (r : R2) : Prop :=
  ∀ (pins : List (Addr × Obj)) (s : Shared) (σ : St) (H : Hp) (x y : V) (v u : Value) (Q : VK), Inv X pins σ H s → RelV x v → RelV y u → r x y H Q →
    wpAny (model X.prog X.w) X.A (f v u) (EP X pins σ Q) X.xe s
/-- a one-place operation -/
def UnR (X : Cx) (f : Value → Sem Value) (r : V → Hp → VK → Prop) : Prop :=
  ∀ (pins : List (Addr × Obj)) (s : Shared) (σ : St) (H : Hp) (x : V) (v : Value) (Q : VK), Inv X pins σ H s → RelV x v → r x H Q →
    wpAny (model X.prog X.w) X.A (f v) (EP X pins σ Q) X.xe s
/-- a call of a value that is known (a builtin, a type) with values -/
def CallR (X : Cx) (f : Value) (r : List V → Hp → VK → Prop) : Prop :=
  ∀ (pins : List (Addr × Obj)) (s : Shared) (σ : St) (H : Hp) (xs : List V) (us : List Value) (Q : VK), Inv X pins σ H s → Vals xs us → r xs H Q →
    wpAny (model X.prog X.w) X.A (call f us) (EP X pins σ Q) X.xe s

def tOp (r : R2) (ta tb : TE) : TE := fun σ H Q => ta σ H fun x H1 => tb σ H1 fun y H2 => r x y H2 Q
def tUn (r : V → Hp → VK → Prop) (ta : TE) : TE := fun σ H Q => ta σ H fun x H1 => r x H1 Q
/-- ints in, under C, and a value out -/
def rI (C : Int → Int → Prop) (g : Int → Int → V) : R2 := fun x y H Q => ∃ i j, x = .int i ∧ y = .int j ∧ C i j ∧ Q (g i j) H
def rI0 (g : Int → Int → V) : R2 := fun x y H Q => ∃ i j, x = .int i ∧ y = .int j ∧ Q (g i j) H
def rU (g : Int → V) : V → Hp → VK → Prop := fun x H Q => ∃ i, x = .int i ∧ Q (g i) H

section
variable {X : Cx} {a b c : Expr} {ta tb tc : TE} {pos : Pos}

theorem binT (ha : PE X a ta) (hb : PE X b tb) {pins : List (Addr × Obj)} {s : Shared} {σ : St} {H : Hp} {R : V → V → Hp → Prop} (I : Inv X pins σ H s)
    (h : ta σ H fun x H1 => tb σ H1 fun y H2 => R x y H2) {Q : Value → Shared → Prop} {f : Value → Value → Sem Value}
    (hf : ∀ v u s2 x y H2, Inv X pins σ H2 s2 → RelV x v → RelV y u → R x y H2 → wpAny (model X.prog X.w) X.A (f v u) Q X.xe s2) :
    wpAny (model X.prog X.w) X.A (eval a X.env) (fun v s₁ => wpAny (model X.prog X.w) X.A (eval b X.env) (fun u s₂ => wpAny (model X.prog X.w) X.A (f v u) Q X.xe s₂) X.xe s₁) X.xe s := by
  refine thn (ha pins s σ H _ I h) fun v s1 ⟨x, H1, I1, r1, q1⟩ => ?_
  refine thn (hb pins s1 σ H1 _ I1 q1) fun u s2 ⟨y, H2, I2, r2, q2⟩ => ?_
  exact hf v u s2 x y H2 I2 r1 r2 q2

theorem pe_op {op : Operator} {r : R2} (ho : OpR X (binaryOp op) r) (ha : PE X a ta) (hb : PE X b tb) : PE X (.BinOp a op b pos) (tOp r ta tb) := by
  intro pins s σ H Q I h
  exact wpAny_BinOp (binT ha hb I h fun v u s2 x y H2 I2 rx ry q => ho pins s2 σ H2 x y v u Q I2 rx ry q)
theorem pe_un {op : UnaryOp} {r : V → Hp → VK → Prop} (ho : UnR X (unaryOp op) r) (ha : PE X a ta) : PE X (.UnaryOp op a pos) (tUn r ta) := by
  intro pins s σ H Q I h
  exact UnaryOp_ (thn (ha pins s σ H _ I h) fun v s1 ⟨x, H1, I1, r1, q1⟩ => ho pins s1 σ H1 x v Q I1 r1 q1)

/-! ### ints -/
theorem opI {f : Value → Value → Sem Value} {C : Int → Int → Prop} {g : Int → Int → Int}
    (rule : ∀ (i j : Int) (t u : Tok) (s : Shared) (Q : Value → Shared → Prop) (E : Value → Shared → Prop), C i j → Q (.int (g i j) s.toks) { s with toks := s.toks + 1 } → wpAny (model X.prog X.w) X.A (f (.int i t) (.int j u)) Q E s) :
    OpR X f (rI C fun i j => .int (g i j)) := by
  intro pins s σ H x y v u Q I rx ry h
  obtain ⟨i, j, rfl, rfl, hc, q⟩ := h
  obtain ⟨t, rfl⟩ := rx
  obtain ⟨t', rfl⟩ := ry
  exact rule i j t t' s _ _ hc ⟨.int (g i j), H, I.tok _, ⟨_, rfl⟩, q⟩
theorem opI0 {f : Value → Value → Sem Value} {g : Int → Int → Int}
    (rule : ∀ (i j : Int) (t u : Tok) (s : Shared) (Q : Value → Shared → Prop) (E : Value → Shared → Prop), Q (.int (g i j) s.toks) { s with toks := s.toks + 1 } → wpAny (model X.prog X.w) X.A (f (.int i t) (.int j u)) Q E s) :
    OpR X f (rI0 fun i j => .int (g i j)) := by
  intro pins s σ H x y v u Q I rx ry h
  obtain ⟨i, j, rfl, rfl, q⟩ := h
  obtain ⟨t, rfl⟩ := rx
  obtain ⟨t', rfl⟩ := ry
  exact rule i j t t' s _ _ ⟨.int (g i j), H, I.tok _, ⟨_, rfl⟩, q⟩
theorem opB0 {f : Value → Value → Sem Value} {g : Int → Int → Bool}
    (rule : ∀ (i j : Int) (t u : Tok) (s : Shared) (Q : Value → Shared → Prop) (E : Value → Shared → Prop), Q (.bool (g i j)) s → wpAny (model X.prog X.w) X.A (f (.int i t) (.int j u)) Q E s) :
    OpR X f (rI0 fun i j => .bl (g i j)) := by
  intro pins s σ H x y v u Q I rx ry h
  obtain ⟨i, j, rfl, rfl, q⟩ := h
  obtain ⟨t, rfl⟩ := rx
  obtain ⟨t', rfl⟩ := ry
  exact rule i j t t' s _ _ ⟨.bl (g i j), H, I, rfl, q⟩

def CPow (i j : Int) : Prop := 0 ≤ j ∧ j ≤ 1000000 ∧ i.natAbs < 2 ^ 64
def CMul (i j : Int) : Prop := (-(2 ^ 64) < i ∧ i < 2 ^ 64) ∨ (-(2 ^ 64) < j ∧ j < 2 ^ 64)
theorem CMul.ok {i j : Int} (h : CMul i j) : IntMulOk i j := by
  rcases h with ⟨h1, h2⟩ | ⟨h1, h2⟩
  · exact .of_left (intBits_le_64 h1 h2)
  · exact .of_right (intBits_le_64 h1 h2)
theorem two_pow_nn (k : Nat) : (0 : Int) ≤ 2 ^ k := by
  rw [two_pow_cast]
  exact Int.natCast_nonneg _

theorem op_add : OpR X (binaryOp .Add) (rI0 fun i j => .int (i + j)) := opI0 fun _ _ _ _ _ _ _ q => add_int q
theorem op_sub : OpR X (binaryOp .Sub) (rI0 fun i j => .int (i - j)) := opI0 fun _ _ _ _ _ _ _ q => sub_int q
theorem op_mul : OpR X (binaryOp .Mult) (rI CMul fun i j => .int (i * j)) := opI fun _ _ _ _ _ _ _ hc q => mul_int q hc.ok
/-- % by a positive divisor of any size -/
theorem op_mod : OpR X (binaryOp .Mod) (rI (fun _ j => 0 < j) fun i j => .int (i % j)) := opI fun i j _ _ _ _ _ hc q => by
  have h1 : (0 : Int) < j := hc
  exact mod_int' (by omega) (by rw [Int.fmod_eq_emod_of_nonneg i (by omega)]; exact q)
theorem op_shl : OpR X (binaryOp .LShift) (rI CPow fun i j => .int (i * 2 ^ j.toNat)) := opI fun _ _ _ _ _ _ _ hc q => lshift_int_small hc.1 hc.2.1 hc.2.2 q
theorem op_shr : OpR X (binaryOp .RShift) (rI (fun _ j => 0 ≤ j) fun i j => .int (i / 2 ^ j.toNat)) := opI fun i j _ _ _ _ _ hc q =>
  rshift_int hc (by rw [Int.fdiv_eq_ediv_of_nonneg i (two_pow_nn _)]; exact q)
theorem op_and : OpR X (binaryOp .BitAnd) (rI0 fun i j => .int (Builtin.bitAnd i j)) := opI0 fun _ _ _ _ _ _ _ q => and_int q


theorem unI {f : Value → Sem Value} {g : Int → Int}
    (rule : ∀ (i : Int) (t : Tok) (s : Shared) (Q : Value → Shared → Prop) (E : Value → Shared → Prop), Q (.int (g i) s.toks) { s with toks := s.toks + 1 } → wpAny (model X.prog X.w) X.A (f (.int i t)) Q E s) :
    UnR X f (rU fun i => .int (g i)) := by
  intro pins s σ H x v Q I rx h
  obtain ⟨i, rfl, q⟩ := h
  obtain ⟨t, rfl⟩ := rx
  exact rule i t s _ _ ⟨.int (g i), H, I.tok _, ⟨_, rfl⟩, q⟩
theorem un_neg : UnR X (unaryOp .USub) (rU fun i => .int (-i)) := unI fun _ _ _ _ _ q => neg_int q

/-! ### bools among ints: n += (a < b) -/
end

/-! ### comparisons -/
/-- the scalars that == tells apart as data does -/
def scal : V → V → Bool
  | .non, .non => true | .non, .int _ => true | .int _, .non => true | .non, .bl _ => true | .bl _, .non => true | .non, .str _ => true | .str _, .non => true
  | .int _, .int _ => true | .bl _, .bl _ => true | .str _, .str _ => true | .byt _, .byt _ => true
  | .int _, .str _ => true | .str _, .int _ => true | .bl _, .str _ => true | .str _, .bl _ => true
  | _, _ => false
def rEq : R2 := fun x y H Q => scal x y = true ∧ Q (.bl (decide (x = y))) H
def rNe : R2 := fun x y H Q => scal x y = true ∧ Q (.bl (!decide (x = y))) H

theorem dec_int {i j : Int} : decide (V.int i = V.int j) = (i == j) := by
  rw [Bool.eq_iff_iff]
  simp
theorem dec_bl {i j : Bool} : decide (V.bl i = V.bl j) = (i == j) := by
  rw [Bool.eq_iff_iff]
  simp
theorem dec_str {i j : Str} : decide (V.str i = V.str j) = (i == j) := by
  rw [Bool.eq_iff_iff]
  simp
theorem dec_byt {i j : Array UInt8} : decide (V.byt i = V.byt j) = (i.toList == j.toList) := by
  rw [Bool.eq_iff_iff]
  cases i
  cases j
  simp

section
variable {X : Cx} {a b c : Expr} {ta tb tc : TE} {pos : Pos}
theorem fin_bl {pins : List (Addr × Obj)} {σ : St} {H : Hp} {s : Shared} {Q : VK} {k k' : Bool} (I : Inv X pins σ H s) (q : Q (.bl k) H) (e : k = k') : EP X pins σ Q (.bool k') s := by
  subst e
  exact ⟨.bl k, H, I, rfl, q⟩
theorem op_eq : OpR X (compareOp .Eq) rEq := by
  intro pins s σ H x y v u Q I rx ry h
  obtain ⟨hs, q⟩ := h
  cases x with
  | non =>
    cases rx
    cases y with
    | non => cases ry; exact PySem.EqNone.eq_none_none (fin_bl I q (by simp))
    | bl j => cases ry; exact PySem.EqNone.eq_none_bool (fin_bl I q (by simp))
    | int j => obtain ⟨t', rfl⟩ := ry; exact PySem.EqNone.eq_none_int (fin_bl I q (by simp))
    | str j => obtain ⟨t', rfl⟩ := ry; exact PySem.EqNone.eq_none_str (fin_bl I q (by simp))
    | _ => exact absurd (show false = true from hs) Bool.false_ne_true
  | bl i =>
    cases rx
    cases y with
    | non => cases ry; exact PySem.EqNone.eq_bool_none (fin_bl I q (by simp))
    | bl j => cases ry; exact eq_bool (fin_bl I q dec_bl)
    | str j => obtain ⟨t', rfl⟩ := ry; exact PySem.EqMixed.eq_bool_str (fin_bl I q (by simp))
    | _ => exact absurd (show false = true from hs) Bool.false_ne_true
  | int i =>
    obtain ⟨t, rfl⟩ := rx
    cases y with
    | non => cases ry; exact PySem.EqNone.eq_int_none (fin_bl I q (by simp))
    | int j => obtain ⟨t', rfl⟩ := ry; exact eq_int (fin_bl I q dec_int)
    | str j => obtain ⟨t', rfl⟩ := ry; exact PySem.EqMixed.eq_int_str (fin_bl I q (by simp))
    | _ => exact absurd (show false = true from hs) Bool.false_ne_true
  | str i =>
    obtain ⟨t, rfl⟩ := rx
    cases y with
    | non => cases ry; exact PySem.EqNone.eq_str_none (fin_bl I q (by simp))
    | bl j => cases ry; exact PySem.EqMixed.eq_str_bool (fin_bl I q (by simp))
    | int j => obtain ⟨t', rfl⟩ := ry; exact PySem.EqMixed.eq_str_int (fin_bl I q (by simp))
    | str j => obtain ⟨t', rfl⟩ := ry; exact eq_str (fin_bl I q dec_str)
    | _ => exact absurd (show false = true from hs) Bool.false_ne_true
  | byt i =>
    obtain ⟨t, rfl⟩ := rx
    cases y with
    | byt j => obtain ⟨t', rfl⟩ := ry; exact PySem.W.eq_bytes (fin_bl I q dec_byt)
    | _ => exact absurd (show false = true from hs) Bool.false_ne_true
  | _ => cases y <;> exact absurd (show false = true from hs) Bool.false_ne_true
theorem op_ne : OpR X (compareOp .NotEq) rNe := by
  intro pins s σ H x y v u Q I rx ry h
  obtain ⟨hs, q⟩ := h
  cases x with
  | non =>
    cases rx
    cases y with
    | non => cases ry; exact PySem.EqNone.ne_none_none (fin_bl I q (by simp))
    | bl j => cases ry; exact PySem.EqNone.ne_none_bool (fin_bl I q (by simp))
    | int j => obtain ⟨t', rfl⟩ := ry; exact PySem.EqNone.ne_none_int (fin_bl I q (by simp))
    | str j => obtain ⟨t', rfl⟩ := ry; exact PySem.EqNone.ne_none_str (fin_bl I q (by simp))
    | _ => exact absurd (show false = true from hs) Bool.false_ne_true
  | bl i =>
    cases rx
    cases y with
    | non => cases ry; exact PySem.EqNone.ne_bool_none (fin_bl I q (by simp))
    | bl j => cases ry; exact ne_bool (fin_bl I q (congrArg not dec_bl))
    | str j => obtain ⟨t', rfl⟩ := ry; exact PySem.EqMixed.ne_bool_str (fin_bl I q (by simp))
    | _ => exact absurd (show false = true from hs) Bool.false_ne_true
  | int i =>
    obtain ⟨t, rfl⟩ := rx
    cases y with
    | non => cases ry; exact PySem.EqNone.ne_int_none (fin_bl I q (by simp))
    | int j => obtain ⟨t', rfl⟩ := ry; exact ne_int (fin_bl I q (congrArg not dec_int))
    | str j => obtain ⟨t', rfl⟩ := ry; exact PySem.EqMixed.ne_int_str (fin_bl I q (by simp))
    | _ => exact absurd (show false = true from hs) Bool.false_ne_true
  | str i =>
    obtain ⟨t, rfl⟩ := rx
    cases y with
    | non => cases ry; exact PySem.EqNone.ne_str_none (fin_bl I q (by simp))
    | bl j => cases ry; exact PySem.EqMixed.ne_str_bool (fin_bl I q (by simp))
    | int j => obtain ⟨t', rfl⟩ := ry; exact PySem.EqMixed.ne_str_int (fin_bl I q (by simp))
    | str j => obtain ⟨t', rfl⟩ := ry; exact ne_str (fin_bl I q (congrArg not dec_str))
    | _ => exact absurd (show false = true from hs) Bool.false_ne_true
  | byt i =>
    obtain ⟨t, rfl⟩ := rx
    cases y with
    | byt j => obtain ⟨t', rfl⟩ := ry; exact PySem.W.ne_bytes (fin_bl I q (congrArg not dec_byt))
    | _ => exact absurd (show false = true from hs) Bool.false_ne_true
  | _ => cases y <;> exact absurd (show false = true from hs) Bool.false_ne_true

theorem op_lt : OpR X (compareOp .Lt) (rI0 fun i j => .bl (decide (i < j))) := opB0 fun _ _ _ _ _ _ _ q => lt_int q
theorem op_le : OpR X (compareOp .LtE) (rI0 fun i j => .bl (decide (i ≤ j))) := opB0 fun _ _ _ _ _ _ _ q => le_int q
theorem op_gt : OpR X (compareOp .Gt) (rI0 fun i j => .bl (decide (j < i))) := opB0 fun _ _ _ _ _ _ _ q => gt_int q
theorem op_ge : OpR X (compareOp .GtE) (rI0 fun i j => .bl (decide (j ≤ i))) := opB0 fun _ _ _ _ _ _ _ q => ge_int q




theorem nomark (b : Expr) {op : CmpOp} (h : op ≠ .In := by decide) (h2 : op ≠ .NotIn := by decide) : behindInMarks op b = false := by
  have e1 : (op == CmpOp.In) = false := by cases op <;> first | rfl | exact absurd rfl h
  have e2 : (op == CmpOp.NotIn) = false := by cases op <;> first | rfl | exact absurd rfl h2
  cases b <;> simp [behindInMarks, e1, e2]
/-- a comparison as a value; hm: nomark b, or (for in, not in) by with_unfolding_all rfl -/
theorem pe_cmpR {op : CmpOp} {r : R2} (ho : OpR X (compareOp op) r) (ha : PE X a ta) (hb : PE X b tb) (hm : behindInMarks op b = false) : PE X (.Compare a [op] [b] pos) (tOp r ta tb) := by
  intro pins s σ H Q I h
  exact wpAny_Compare1 (binT ha hb I h fun v u s2 x y H2 I2 rx ry q => ho pins s2 σ H2 x y v u Q I2 rx ry q) hm
/-- a reading of a value as a test -/
def tTest (t : TE) : TT := fun σ H Q => t σ H fun x H' => ∃ k, x = .bl k ∧ Q k H'
theorem pt_cmpR {op : CmpOp} {r : R2} (ho : OpR X (compareOp op) r) (ha : PE X a ta) (hb : PE X b tb) (hm : behindInMarks op b = false) : PT X (.Compare a [op] [b] pos) (tTest (tOp r ta tb)) := by
  intro pins s σ H Q I h
  refine wpAny_isTrue_Compare1 (thn (ha pins s σ H _ I h) fun v s1 ⟨x, H1, I1, r1, q1⟩ => thn (hb pins s1 σ H1 _ I1 q1) fun u s2 ⟨y, H2, I2, r2, q2⟩ =>
    thn (ho pins s2 σ H2 x y v u _ I2 r1 r2 q2) fun c s3 ⟨z, H3, I3, r3, k, e, q3⟩ => ?_) hm
  subst e
  cases r3
  exact wpAny_truthy_bool ⟨H3, I3, q3⟩
/-- a op1 b op2 c -/
def tChain (r r' : R2) (ta tb tc : TE) : TE := fun σ H Q => ta σ H fun x H1 => tb σ H1 fun y H2 => r x y H2 fun z H3 => ∃ k, z = .bl k ∧
  (if k = true then tc σ H3 fun w' H4 => r' y w' H4 Q else Q (.bl false) H3)
theorem pe_chain {op op' : CmpOp} {r r' : R2} (ho : OpR X (compareOp op) r) (ho' : OpR X (compareOp op') r') (ha : PE X a ta) (hb : PE X b tb) (hc : PE X c tc)
    (hm : lastMarks [op, op'] [b, c] = false := by with_unfolding_all rfl) : PE X (.Compare a [op, op'] [b, c] pos) (tChain r r' ta tb tc) := by
  intro pins s σ H Q I h
  refine Compare_chain (thn (ha pins s σ H _ I h) fun v s1 ⟨x, H1, I1, r1, q1⟩ => chain_link (thn (hb pins s1 σ H1 _ I1 q1) fun u s2 ⟨y, H2, I2, r2, q2⟩ =>
    thn (ho pins s2 σ H2 x y v u _ I2 r1 r2 q2) fun d s3 ⟨z, H3, I3, r3, k, e, q3⟩ => ?_)) hm
  subst e
  cases r3
  refine wpAny_truthy_bool ?_
  cases k with
  | false => exact ite_ff ⟨.bl false, H3, I3, rfl, q3⟩
  | true => exact ite_tt (chain_last (thn (hc pins s3 σ H3 _ I3 q3) fun w' s4 ⟨z', H4, I4, r4, q4⟩ => ho' pins s4 σ H4 y z' u w' Q I4 r2 r4 q4))
theorem pt_chain {op op' : CmpOp} {r r' : R2} (ho : OpR X (compareOp op) r) (ho' : OpR X (compareOp op') r') (ha : PE X a ta) (hb : PE X b tb) (hc : PE X c tc)
    (hm : lastMarks [op, op'] [b, c] = false := by with_unfolding_all rfl) : PT X (.Compare a [op, op'] [b, c] pos) (tTest (tChain r r' ta tb tc)) := by
  intro pins s σ H Q I h
  refine isTrue_chain (thn (ha pins s σ H _ I h) fun v s1 ⟨x, H1, I1, r1, q1⟩ => test_link (thn (hb pins s1 σ H1 _ I1 q1) fun u s2 ⟨y, H2, I2, r2, q2⟩ =>
    thn (ho pins s2 σ H2 x y v u _ I2 r1 r2 q2) fun d s3 ⟨z, H3, I3, r3, k, e, q3⟩ => ?_)) hm
  subst e
  cases r3
  refine wpAny_truthy_bool ?_
  cases k with
  | false =>
    obtain ⟨k', e', q'⟩ := q3
    cases e'
    exact ite_ff ⟨H3, I3, q'⟩
  | true =>
    refine ite_tt (test_last (thn (hc pins s3 σ H3 _ I3 q3) fun w' s4 ⟨z', H4, I4, r4, q4⟩ => thn (ho' pins s4 σ H4 y z' u w' _ I4 r2 r4 q4) fun d' s5 ⟨z2, H5, I5, r5, k2, e2, q5⟩ => ?_))
    subst e2
    cases r5
    exact wpAny_truthy_bool ⟨H5, I5, q5⟩

/-! ### truth -/
theorem line63 : (sizeLine : Nat) < 2 ^ 63 := by rw [sizeLine_eq]; decide

/-! ### strs and bytes -/


/-! ### scalar builtins, by CallR -/
theorem vals1 {x : V} {us : List Value} (r : Vals [x] us) : ∃ u, us = [u] ∧ RelV x u := by
  cases r with
  | cons r1 r2 => cases r2; exact ⟨_, rfl, r1⟩
theorem vals2 {x y : V} {us : List Value} (r : Vals [x, y] us) : ∃ u w', us = [u, w'] ∧ RelV x u ∧ RelV y w' := by
  cases r with
  | cons r1 r2 =>
    cases r2 with
    | cons r3 r4 => cases r4; exact ⟨_, _, rfl, r1, r3⟩
theorem call_max2 (hc : X.calm = true) : CallR X (.builtin "max") (fun xs H Q => ∃ i j, xs = [.int i, .int j] ∧ Q (.int (if j > i then j else i)) H) := by
  intro pins s σ H xs us Q I r h
  obtain ⟨i, j, rfl, q⟩ := h
  obtain ⟨u, w', rfl, ⟨t, rfl⟩, ⟨t', rfl⟩⟩ := vals2 r
  refine max_two_ints (I.ok.hd hc) fun h' tk k => ⟨_, H, I.kept k, ?_, q⟩
  by_cases hj : j > i
  · rw [if_pos hj, if_pos hj]; exact ⟨_, rfl⟩
  · rw [if_neg hj, if_neg hj]; exact ⟨_, rfl⟩
end
end L2

namespace L2
open PySem PySem.Spec PyProof.Rows

/-! ### an instance, its attributes a map -/
structure ObjM (h : Heap) (x dx C : Addr) (mA : Str → Option Value) : Prop where
  obj : h.get? x = some (PySem.W.instObj C dx)
  ns : h.Ns1 dx mA
  ne : dx ≠ x

theorem lookIn_ns {h : Heap} {dx : Addr} {mA : Str → Option Value} (n : h.Ns1 dx mA) : ∃ od, h.get? dx = some od ∧ ∀ name, PySem.W.lookIn name od = some (mA name) := by
  obtain ⟨o, es, ep, ho, hd, hk, _, hm⟩ := n
  refine ⟨o, ho, fun name => ?_⟩
  have e := hm name
  unfold nsFind findBy at e
  rw [← Array.find?_toList] at e
  unfold PySem.W.lookIn
  rw [hd]
  dsimp only
  split
  · rename_i y q
    rw [q] at e
    exact congrArg some e
  · rename_i q
    rw [q] at e
    have a : es.toList.any (·.refKey) = false := by
      rw [List.any_eq_false]
      intro y hy
      obtain ⟨z, t, hkey⟩ := hk y (Array.mem_toList_iff.mp hy)
      simp [DictEntry.refKey, hkey]
    have a' : ¬ es.toList.any (·.refKey) = true := by rw [a]; exact Bool.false_ne_true
    rw [if_neg a']
    exact congrArg some e

theorem ObjM.look {h : Heap} {x dx C : Addr} {mA : Str → Option Value} (I : ObjM h x dx C mA) : ∃ od, PySem.W.InstAt h x (PySem.W.instObj C dx) C (some od) ∧ ∀ name, PySem.W.lookIn name od = some (mA name) :=
  let ⟨od, ho, hl⟩ := lookIn_ns I.ns
  ⟨od, ⟨I.obj, rfl, rfl, ho⟩, hl⟩

section
variable {prog : Program} {w : World} {A : Around} {E : Value → Shared → Prop} {s : Shared} {K : PySem.W.Frag} {x dx C f : Addr} {mA : Str → Option Value} {name : Str} {v : Value}

theorem get_map {expr : Bool} {Q : Value → Shared → Prop} (X : K.In s.heap) (I : ObjM s.heap x dx C mA) (hg : PySem.W.plainGet K C name = true) (hh : PySem.W.hasDictIn K C = true)
    (ha : PySem.W.findIn K (.ref C) name = some none) (hv : mA name = some v) (hv' : PySem.W.handedIn v = true) (h : Q v { s with toks := s.toks + 1 }) :
    wpAny (model prog w) A (getAttr (.ref x) name expr) Q E s := by
  obtain ⟨od, J, hl⟩ := I.look
  exact PySem.W.get_value X J (PySem.W.plainGet_of hg).1 (PySem.W.findObj_own hh ha rfl (by rw [hl, hv])) hv' h


theorem get_meth {pl : Sem Bool} {Q : Value × List Value → Shared → Prop} (X : K.In s.heap) (I : ObjM s.heap x dx C mA) (hg : PySem.W.plainGet K C name = true)
    (hf : PySem.W.findIn K (.ref C) name = some (some (.ref f))) (ht : PySem.W.isFn K (.ref f) = true) (hv : mA name = none) (h : Q (.ref f, [.ref x]) s) :
    wpAny (model prog w) A (getMethod (.ref x) name pl) Q E s := by
  obtain ⟨od, J, hl⟩ := I.look
  exact PySem.W.method_fn X J (PySem.W.plainGet_of hg).1 (PySem.W.plainGet_of hg).2 hf (beq_iff_eq.mp ht) (by show (PySem.W.lookIn name od).map (·.isSome) = some false; rw [hl, hv]; rfl) h

theorem set_map {ns : List Str} {Q : Unit → Shared → Prop} (X : K.In s.heap) (I : ObjM s.heap x dx C mA)
    (hs : PySem.W.findIn K (.ref C) "__setattr__" = some (some (.builtin "object.__setattr__"))) (hp : PySem.W.plainOver K C = true) (ht : PySem.W.takerIn K C name = some none) (hh : PySem.W.hasDictIn K C = true)
    (hw : PySem.Within mA ns) (hsz : ns.length ≤ sizeLine)
    (h : ∀ h', ObjM h' x dx C (fun y => if y = name then some v else mA y) → Heap.SameBut dx s.heap h' → Q () { s with heap := h', toks := s.toks + 2 }) :
    wpAny (model prog w) A (setAttr (.ref x) name v) Q E s := by
  obtain ⟨od, J, hl⟩ := I.look
  refine PySem.W.set_plain X J hs (PySem.W.osa_open (s := { s with toks := s.toks + 1 }) (r := none) X J hp ht fun b => ?_)
  obtain ⟨cd, hc, hd'⟩ := PySem.W.any_some hh
  have hx : s.heap.get? x = some ⟨.ref C, some dx, .plain, #[]⟩ := I.obj
  refine wpAny_bind (wpAny_pure (wpAny_bind (wpAny_bind (wpAny_loadPart hx (wpAny_bind (PySem.W.Looks.here (s := { s with toks := s.toks + 1 }) (PySem.W.looks_clsIn X hc) ?_))))))
  rw [hd']
  refine wpAny_pure (a := some dx) (wpAny_bind (wpAny_pure (wpAny_bind ?_)))
  refine wpAny_nsSet1 (s := { s with toks := s.toks + 1 }) I.ns fun h' hn2 hs2 => ?_
  obtain ⟨oD, esD, epD, hoD, hdD, hcD⟩ := hn2.count (PySem.Within.cons name v hw)
  refine wpAny_bind (wpAny_lookBehind hoD (by rw [hdD]; exact pastItsLine_dict (Nat.le_trans hcD (by rw [List.length_cons]; omega))) ?_)
  exact wpAny_pure (h _ ⟨(hs2.2 _ (Ne.symm I.ne)).trans I.obj, hn2, I.ne⟩ hs2)

/-- C(..): the dict at the heap's end, the instance behind it; then its __init__ -/
theorem make_map {R : Result → Shared → Prop} {vs : List Value} {kw : List (Str × Value)} (X : K.In s.heap) (hm : PySem.W.makesIn K C = true)
    (hi : PySem.W.findIn K (.ref C) "__init__" = some (some (.ref f))) (hf : PySem.W.typeIn K (.ref f) = some (.type "function"))
    (h : codeAny (model prog w) (A.under (.builtin "type.__call__" ⟨.ref C :: vs, kw⟩)) (.call (.ref f) ⟨.ref (s.heap.objs.size + 1) :: vs, kw⟩) (PySem.W.InitBack (s.heap.objs.size + 1) R)
      { s with heap := (s.heap.push PySem.W.emptyDict).push (PySem.W.instObj C s.heap.objs.size) }) :
    codeAny (model prog w) A (.call (.ref C) ⟨vs, kw⟩) R s := by
  obtain ⟨hh, g, d, t, os⟩ := s
  exact PySem.W.make_core (PySem.W.makes_of X hm) (PySem.W.looks_findIn X hi) (fun self => PySem.W.bind_fn X self hf) (.inl rfl) h
end

/-! ### the attributes as a list of pairs -/
def putF (f : Str) (v : V) : List (Str × V) → List (Str × V)
  | [] => [(f, v)]
  | (g, x) :: r => if g = f then (g, v) :: r else (g, x) :: putF f v r
theorem lookup_putF (f g : Str) (v : V) : ∀ fs : List (Str × V), (putF f v fs).lookup g = if g = f then some v else fs.lookup g
  | [] => by
    show List.lookup g [(f, v)] = _
    by_cases h : g = f
    · have hb : (g == f) = true := beq_iff_eq.mpr h
      simp only [List.lookup, hb, if_pos h]
    · have hb : (g == f) = false := beq_eq_false_iff_ne.mpr h
      simp only [List.lookup, hb, if_neg h]
  | (k, x) :: r => by
    have ih := lookup_putF f g v r
    rw [show putF f v ((k, x) :: r) = (if k = f then (k, v) :: r else (k, x) :: putF f v r) from rfl]
    by_cases hk : k = f
    · rw [if_pos hk]
      by_cases h : g = k
      · have hb : (g == k) = true := beq_iff_eq.mpr h
        simp only [List.lookup, hb, if_pos (h.trans hk)]
      · have hb : (g == k) = false := beq_eq_false_iff_ne.mpr h
        simp only [List.lookup, hb, if_neg (fun e : g = f => h (e.trans hk.symm))]
    · rw [if_neg hk]
      by_cases h : g = k
      · have hb : (g == k) = true := beq_iff_eq.mpr h
        simp only [List.lookup, hb, if_neg (fun e : g = f => hk (h.symm.trans e))]
      · have hb : (g == k) = false := beq_eq_false_iff_ne.mpr h
        simp only [List.lookup, hb]
        exact ih
theorem keys_putF (f : Str) (v : V) : ∀ fs : List (Str × V), f ∈ (putF f v fs).map (·.1) ∧ ∀ g, g ∈ fs.map (·.1) → g ∈ (putF f v fs).map (·.1)
  | [] => ⟨by simp [putF], fun g h => by simp at h⟩
  | (k, x) :: r => by
    obtain ⟨i1, i2⟩ := keys_putF f v r
    rw [show putF f v ((k, x) :: r) = (if k = f then (k, v) :: r else (k, x) :: putF f v r) from rfl]
    by_cases hk : k = f
    · rw [if_pos hk]
      subst hk
      exact ⟨by simp, fun g h => by simpa using h⟩
    · rw [if_neg hk]
      refine ⟨?_, fun g h => ?_⟩
      · rw [List.map_cons]
        exact List.mem_cons_of_mem _ i1
      · rw [List.map_cons] at h ⊢
        rcases List.mem_cons.mp h with e | e
        · exact List.mem_cons.mpr (.inl e)
        · exact List.mem_cons_of_mem _ (i2 g e)
theorem length_putF (f : Str) (v : V) : ∀ fs : List (Str × V), (putF f v fs).length ≤ fs.length + 1
  | [] => by simp [putF]
  | (k, x) :: r => by
    have ih := length_putF f v r
    rw [show putF f v ((k, x) :: r) = (if k = f then (k, v) :: r else (k, x) :: putF f v r) from rfl]
    by_cases hk : k = f
    · rw [if_pos hk, List.length_cons, List.length_cons]; omega
    · rw [if_neg hk, List.length_cons, List.length_cons]; omega

theorem RelO.some_of {v : V} {o : Option Value} (r : RelO (some v) o) : ∃ u, o = some u ∧ RelV v u := by
  cases o with
  | none => exact (show False from r).elim
  | some u => exact ⟨u, rfl, r⟩
theorem RelO.none_of {o : Option Value} (r : RelO none o) : o = none := by
  cases o with
  | none => rfl
  | some u => exact (show False from r).elim
theorem handed_of {v : V} {u : Value} (r : RelV v u) : PySem.W.handedIn u = true := by
  cases v with
  | non => cases (show u = Value.none from r); rfl
  | bl b => cases (show u = Value.bool b from r); rfl
  | int i => obtain ⟨t, e⟩ := (show ∃ t, u = Value.int i t from r); cases e; rfl
  | str x => obtain ⟨t, e⟩ := (show ∃ t, u = Value.str x t from r); cases e; rfl
  | byt b => obtain ⟨t, e⟩ := (show ∃ t, u = Value.bytes b t from r); cases e; rfl
  | flt b => obtain ⟨t, e⟩ := (show ∃ t, u = Value.float b t from r); cases e; rfl
  | ref a => cases (show u = Value.ref a from r); rfl
  | ty n => cases (show u = Value.type n from r); rfl

section
variable {P : Program} {w : World} {H H' : Hp} {h h' : Heap} {a C dx : Addr} {fs fs' : List (Str × V)}
theorem ins_get (hok : HOk P w H h) (e : H a = some (.ins C dx fs)) : ∃ mA, ObjM h a dx C mA ∧ (∀ f, RelO (fs.lookup f) (mA f)) ∧ PySem.Within mA (fs.map (·.1)) ∧ fs.length ≤ 1000 ∧ H dx = some (.own a) := by
  obtain ⟨d, z, ne, ob, mA, n, r, q⟩ := (show ObjOk P w H h a (.ins C dx fs) from hok a _ e)
  exact ⟨mA, ⟨ob, n, ne⟩, r, q, z, d⟩
end

/-! ### what of the text a class must have -/
structure Cls (K : PySem.W.Frag) (C : Addr) : Prop where
  pg : PySem.W.plainGet K C Str.empty = true
  hd : PySem.W.hasDictIn K C = true
  po : PySem.W.plainOver K C = true
  sa : PySem.W.findIn K (.ref C) "__setattr__" = some (some (.builtin "object.__setattr__"))
theorem Cls.get {K : PySem.W.Frag} {C : Addr} (c : Cls K C) (f : Str) : PySem.W.plainGet K C f = true := c.pg
/-- no class of it has the name -/
def NoAttr (K : PySem.W.Frag) (C : Addr) (f : Str) : Prop := PySem.W.findIn K (.ref C) f = some none
theorem NoAttr.taker {K : PySem.W.Frag} {C : Addr} {f : Str} (n : NoAttr K C f) : PySem.W.takerIn K C f = some none := by
  unfold PySem.W.takerIn
  rw [show PySem.W.findIn K (.ref C) f = some none from n]
  rfl
/-- a constant of the class -/
structure Con (K : PySem.W.Frag) (C : Addr) (f : Str) (v : V) (u : Value) : Prop where
  at_ : PySem.W.findIn K (.ref C) f = some (some u)
  rel : RelV v u
  get : PySem.W.specialIn K u "__get__" = some none
  cp : PySem.W.copiedNames.contains f = false
/-- a method: a plain def of the class or of one above it -/
structure Meth (K : PySem.W.Frag) (C : Addr) (m : Str) (f : Addr) : Prop where
  at_ : PySem.W.findIn K (.ref C) m = some (some (.ref f))
  fn : PySem.W.isFn K (.ref f) = true
  kp : PySem.W.keepIn K (.ref f) = true

section
variable {X : Cx} {pins : List (Addr × Obj)} {σ : St} {H : Hp} {s : Shared} {a C dx : Addr} {fs : List (Str × V)} {f : Str} {v : V} {A : Around} {E : Value → Shared → Prop}

theorem getattr_ok {b : Bool} {Q : Value → Shared → Prop} (I : Inv X pins σ H s) (e : H a = some (.ins C dx fs)) (c : Cls X.K C) (n : NoAttr X.K C f) (l : fs.lookup f = some v)
    (h : ∀ u s', Inv X pins σ H s' → RelV v u → Q u s') : wpAny (model X.prog X.w) A (getAttr (.ref a) f b) Q E s := by
  obtain ⟨mA, O, r, _, _, _⟩ := ins_get I.hok e
  obtain ⟨u, hu, ru⟩ := RelO.some_of (v := v) (o := mA f) (by rw [← l]; exact r f)
  exact get_map I.kIn O (c.get f) c.hd n hu (handed_of ru) (h u _ (I.tok _) ru)


theorem getmeth_ok {m : Str} {g : Addr} {pl : Sem Bool} {Q : Value × List Value → Shared → Prop} (I : Inv X pins σ H s) (e : H a = some (.ins C dx fs)) (c : Cls X.K C) (k : Meth X.K C m g) (l : fs.lookup m = none)
    (h : Q (.ref g, [.ref a]) s) : wpAny (model X.prog X.w) A (getMethod (.ref a) m pl) Q E s := by
  obtain ⟨mA, O, r, _, _, _⟩ := ins_get I.hok e
  have hn : mA m = none := RelO.none_of (by rw [← l]; exact r m)
  exact get_meth I.kIn O (c.get m) k.at_ k.fn hn h

theorem setattr_ok {y : V} {u : Value} {Q : Unit → Shared → Prop} (I : Inv X pins σ H s) (e : H a = some (.ins C dx fs)) (c : Cls X.K C) (n : NoAttr X.K C f) (hl : fs.length < 1000) (ry : RelV y u)
    (h : ∀ s', Inv X pins σ (upd H a (.ins C dx (putF f y fs))) s' → Q () s') : wpAny (model X.prog X.w) A (setAttr (.ref a) f u) Q E s := by
  obtain ⟨mA, O, r, wi, _, ho⟩ := ins_get I.hok e
  have hz : (fs.map (·.1)).length ≤ sizeLine := by rw [List.length_map, sizeLine_eq]; omega
  refine set_map I.kIn O c.sa c.po n.taker c.hd wi hz fun h' O' sb => h _ ?_
  have hd : ∃ o, h'.get? dx = some o := let ⟨o, _, _, e', _⟩ := O'.ns; ⟨o, e'⟩
  refine I.write (x := a) (e := dx) (by rw [e]; exact True.intro) (.inr ho) (fun b q hb z => (sb.2 b hb).trans z) hd ?_
  refine ⟨by rw [upd_ne O.ne]; exact ho, ?_, O.ne, O'.obj, _, O'.ns, fun g => ?_, fun g hg => ?_⟩
  · have := length_putF f y fs; omega
  · show RelO ((putF f y fs).lookup g) (if g = f then some u else mA g)
    rw [lookup_putF]
    by_cases q : g = f
    · rw [if_pos q, if_pos q]; exact ry
    · rw [if_neg q, if_neg q]; exact r g
  · by_cases q : g = f
    · rw [q]; exact (keys_putF f y fs).1
    · refine (keys_putF f y fs).2 g (wi g fun z => hg ?_)
      show (if g = f then some u else mA g) = none
      rw [if_neg q]; exact z

/-- a new instance, tracked, without attributes -/
theorem Inv.made (I : Inv X pins σ H s) : Inv X pins σ (upd (upd H s.heap.objs.size (.own (s.heap.objs.size + 1))) (s.heap.objs.size + 1) (.ins C s.heap.objs.size []))
    { s with heap := (s.heap.push PySem.W.emptyDict).push (PySem.W.instObj C s.heap.objs.size) } := by
  have e1 : (s.heap.push PySem.W.emptyDict).get? s.heap.objs.size = some PySem.W.emptyDict := Heap.get?_push_size s.heap rfl
  have e2 : ((s.heap.push PySem.W.emptyDict).push (PySem.W.instObj C s.heap.objs.size)).get? (s.heap.objs.size + 1) = some (PySem.W.instObj C s.heap.objs.size) := by
    have := Heap.get?_push_size (s.heap.push PySem.W.emptyDict) (o := PySem.W.instObj C s.heap.objs.size) rfl
    rwa [Heap.size_push] at this
  have e3 : (s.heap.push PySem.W.emptyDict).Ns s.heap.objs.size (fun _ => none) := ⟨PySem.W.emptyDict, #[], _, e1, rfl, (fun e he => absurd he (by simp)), fun _ => rfl⟩
  have I1 := I.laid (a := s.heap.objs.size) (o := .own (s.heap.objs.size + 1)) (h' := s.heap.push PySem.W.emptyDict) (t' := s.toks) (fun b u q => Heap.get?_push_of_some _ q) (Nat.le_refl _) ⟨_, e1⟩
  refine I1.laid (a := s.heap.objs.size + 1) (o := .ins C s.heap.objs.size []) (t' := s.toks) (fun b u q => Heap.get?_push_of_some _ q) (Nat.le_of_eq (Heap.size_push _ _)) ?_
  have ne : s.heap.objs.size ≠ s.heap.objs.size + 1 := Nat.ne_of_lt (Nat.lt_succ_self _)
  refine ⟨by rw [upd_ne ne, upd_same], Nat.zero_le _, ne, e2, fun _ => none, (Heap.Ns1.of_empty e3).at fun o q => Heap.get?_push_of_some _ q, fun _ => True.intro, fun y hy => absurd rfl hy⟩

/-- e.f where nothing but the object is asked: through attributeBase (super) and the last hold -/
theorem attr_of {prog : Program} {w : World} {env : Env} {e : Expr} {f : Str} {pos : Pos} {s : Shared} {Q : Value → Shared → Prop} (hb : attributeBase e f env (eval e env) = eval e env)
    (h : wpAny (model prog w) A (eval e env) (fun o s₁ => wpAny (model prog w) A (getAttr o f true) Q E s₁) E s) : wpAny (model prog w) A (eval (.Attribute e f pos) env) Q E s :=
  Attribute_any_ h (by rw [arm_eval_Attribute, hb])
end

/-! ### readings and rules -/
/-- e.f, an attribute of the instance -/
def tFld (K : PySem.W.Frag) (ta : TE) (f : Str) : TE := fun σ H Q => ta σ H fun x H1 => ∃ a C dx fs v, x = .ref a ∧ H1 a = some (.ins C dx fs) ∧ Cls K C ∧ NoAttr K C f ∧ fs.lookup f = some v ∧ Q v H1
/-- e.f = value -/
def sFld (K : PySem.W.Frag) (ta tv : TE) (f : Str) : TS := fun D σ H => tv σ H fun y H1 => ta σ H1 fun x H2 => ∃ a C dx fs, x = .ref a ∧ H2 a = some (.ins C dx fs) ∧ Cls K C ∧ NoAttr K C f ∧ fs.length < 1000 ∧
  D.nx σ (upd H2 a (.ins C dx (putF f y fs)))

section
variable {X : Cx} {o e value : Expr} {f : Str} {pos pos' tpos : Pos} {ta tv : TE}
theorem pe_fld (he : PE X e ta) (hb : attributeBase e f X.env (eval e X.env) = eval e X.env) : PE X (.Attribute e f pos) (tFld X.K ta f) := by
  intro pins s σ H Q I h
  refine attr_of hb (thn (he pins s σ H _ I h) fun u s1 ⟨x, H1, I1, rx, a, C, dx, fs, v, ex, ea, c, n, l, q⟩ => ?_)
  subst ex
  obtain rfl : u = Value.ref a := rx
  exact getattr_ok I1 ea c n l fun u' s2 I2 ru => ⟨v, H1, I2, ru, q⟩
theorem ps_fld (ha : PE X o ta) (hv : PE X value tv) (hs : swapsWith value (some (.Attribute o f pos')) pos.line X.env = pure false) : PS X (.Assign [.Attribute o f pos'] value pos) (sFld X.K ta tv f) := by
  intro pins s σ H D I h
  refine plainObj_wpAny_Assign_Attribute (thn (hv pins s σ H _ I h) fun u s1 ⟨y, H1, I1, ry, q⟩ => thn (ha pins s1 σ H1 _ I1 q) fun ov s2 ⟨x, H2, I2, rx, a, C, dx, fs, ex, ea, c, n, l, q2⟩ => ?_) hs
  subst ex
  obtain rfl : ov = Value.ref a := rx
  exact setattr_ok I2 ea c n l ry fun s3 I3 => ⟨σ, _, I3, q2⟩

end

/-! ### isinstance -/
section
variable {X : Cx} {pins : List (Addr × Obj)} {σ : St} {H : Hp} {s : Shared} {A : Around} {E : Value → Shared → Prop} {Q : Value → Shared → Prop} {c : Value} {b : Bool}
/-- the type of a value, as the fragment's deciders take it; for an instance its class -/
inductive TyOf (K : PySem.W.Frag) (H : Hp) : V → Value → Prop where
  | non : TyOf K H .non (.type "NoneType")
  | bl (x : Bool) : TyOf K H (.bl x) (.type "bool")
  | int (i : Int) : TyOf K H (.int i) (.type "int")
  | str (x : Str) : TyOf K H (.str x) (.type "str")
  | flt (x : UInt64) : TyOf K H (.flt x) (.type "float")
  | lst {a : Addr} {xs : List V} (e : H a = some (.lst xs)) : TyOf K H (.ref a) (.type "list")
  | frz {a : Addr} {o : Obj} {xs : List V} (e : H a = some (.frz o (.lst xs))) : TyOf K H (.ref a) (.type "list")
  | tup {a : Addr} {xs : List V} (e : H a = some (.tup xs)) : TyOf K H (.ref a) (.type "tuple")
  | dK {a : Addr} {kvs : List (Key × V)} (e : H a = some (.dK kvs)) : TyOf K H (.ref a) (.type "dict")
  | dT {a : Addr} {kvs : List (List Key × V)} (e : H a = some (.dT kvs)) : TyOf K H (.ref a) (.type "dict")
  | ins {a C dx : Addr} {fs : List (Str × V)} (e : H a = some (.ins C dx fs)) (cl : Cls K C) (ha : PySem.W.findIn K (.ref C) "__class__" = some (some (.builtin "object.__class__")))
      (hn : PySem.W.specialIn K (.builtin "object.__class__") "__get__" = some (some (.builtin "getset_descriptor.__get__"))) (htk : PySem.W.takesIn K (.builtin "object.__class__") = some true)
      (hm : PySem.W.mroIn K C (.type "object") = some true) : TyOf K H (.ref a) (.ref C)
/-- isinstance(x, c) for one class c, a built-in or an own one: kitOne's answer -/
theorem isinst_ok {x : V} {u t : Value} (I : Inv X pins σ H s) (rx : RelV x u) (ty : TyOf X.K H x t) (e : PySem.W.kitOne X.K t c = some b) (h : ∀ tk, Q (.bool b) { s with toks := tk }) :
    wpAny (model X.prog X.w) A (call (.builtin "isinstance") [u, c]) Q E s := by
  cases ty with
  | non => cases (show u = Value.none from rx); exact PySem.W.kia_one PySem.W.kitx_none I.kIn True.intro e (fun z => nomatch z) h
  | bl y => cases (show u = Value.bool y from rx); exact PySem.W.kia_one PySem.W.kitx_bool I.kIn True.intro e (fun z => nomatch z) h
  | int i => obtain ⟨t, q⟩ := (show ∃ t, u = Value.int i t from rx); cases q; exact PySem.W.kia_one PySem.W.kitx_int I.kIn True.intro e (fun z => nomatch z) h
  | str y => obtain ⟨t, q⟩ := (show ∃ t, u = Value.str y t from rx); cases q; exact PySem.W.kia_one PySem.W.kitx_str I.kIn True.intro e (fun z => nomatch z) h
  | flt y => obtain ⟨t, q⟩ := (show ∃ t, u = Value.float y t from rx); cases q; exact PySem.W.kia_one PySem.W.kitx_float I.kIn True.intro e (fun z => nomatch z) h
  | @lst a xs ea =>
    cases (show u = Value.ref a from rx)
    obtain ⟨_, _, n, _, h1⟩ := (show ObjOk X.prog X.w H s.heap a (.lst xs) from I.hok a _ ea)
    exact PySem.W.kia_one PySem.W.kitx_list I.kIn ⟨_, h1, rfl⟩ e (fun z => nomatch z) h
  | @frz a ob xs ea =>
    cases (show u = Value.ref a from rx)
    obtain ⟨_, _, _, n, _, h1⟩ := (show ObjOk X.prog X.w H s.heap a (.frz ob (.lst xs)) from I.hok a _ ea)
    exact PySem.W.kia_one PySem.W.kitx_list I.kIn ⟨_, h1, rfl⟩ e (fun z => nomatch z) h
  | @tup a xs ea =>
    cases (show u = Value.ref a from rx)
    obtain ⟨_, _, _, p⟩ := (show ObjOk X.prog X.w H s.heap a (.tup xs) from I.hok a _ ea)
    obtain ⟨o, h1, h2, _⟩ := p
    exact PySem.W.kia_one PySem.W.kitx_tuple I.kIn ⟨o, h1, h2⟩ e (fun z => nomatch z) h
  | @dK a kvs ea =>
    cases (show u = Value.ref a from rx)
    obtain ⟨_, _, vs, _, p⟩ := (show ObjOk X.prog X.w H s.heap a (.dK kvs) from I.hok a _ ea)
    obtain ⟨o, es, ep, h1, h2, _⟩ := p
    exact PySem.W.kia_one PySem.W.kitx_dict I.kIn ⟨o, h1, h2.1⟩ e (fun z => nomatch z) h
  | @dT a kvs ea =>
    cases (show u = Value.ref a from rx)
    obtain ⟨_, _, xs, _, o, es, ep, h1, h2, _⟩ := (show ObjOk X.prog X.w H s.heap a (.dT kvs) from I.hok a _ ea)
    exact PySem.W.kia_one PySem.W.kitx_dict I.kIn ⟨o, h1, h2.1⟩ e (fun z => nomatch z) h
  | @ins a C dx fs ea cl ha hn htk hm =>
    cases (show u = Value.ref a from rx)
    obtain ⟨mA, O, _⟩ := ins_get I.hok ea
    obtain ⟨od, J, _⟩ := O.look
    exact PySem.W.kia_one (PySem.W.kitx_own (cl.get _) cl.hd ha hn htk hm) I.kIn J e (fun z => nomatch z) h
end
end L2

namespace L2
open PySem PySem.Spec PyProof.Rows

/-! ### room -/
structure Room (k : Nat) (A : Around) : Prop where
  hd : A.handled = none
  dp : A.depth + 3 * k + 5 < recursionLimit
  un : A.units + 16 * k + 200 < cLine
theorem Room.mono {j k : Nat} {A : Around} (r : Room k A) (h : j ≤ k) : Room j A := ⟨r.hd, by have := r.dp; omega, by have := r.un; omega⟩
theorem Room.deeper {k : Nat} {A : Around} (r : Room (k + 1) A) (env : Env) : Room k (A.deeper env) :=
  ⟨r.hd, by have := r.dp; show A.depth + 1 + 3 * k + 5 < _; omega, by have := r.un; show A.units + 3 + 16 * k + 200 < _; omega⟩
theorem make_depth {A : Around} {C : Addr} {us : List Value} {kw : List (Str × Value)} : (A.under (.builtin "type.__call__" ⟨.ref C :: us, kw⟩)).depth = A.depth + 1 := by
  first | rfl | simp [Around.under, Code.weight, Code.isCreation, Code.isGuard, Code.isCaller, Code.frames, Code.isFrame, guardIds]
theorem make_units {A : Around} {C : Addr} {us : List Value} {kw : List (Str × Value)} : (A.under (.builtin "type.__call__" ⟨.ref C :: us, kw⟩)).units = A.units + 1 := by
  first | rfl | simp [Around.under, Code.cUnits, Code.frames, Code.isFrame]
theorem Room.make {k : Nat} {A : Around} (r : Room (k + 1) A) (C : Addr) (us : List Value) (kw : List (Str × Value)) : Room k (A.under (.builtin "type.__call__" ⟨.ref C :: us, kw⟩)) :=
  ⟨r.hd, by have := r.dp; rw [make_depth]; omega, by have := r.un; rw [make_units]; omega⟩
theorem Room.depth {k : Nat} {A : Around} (r : Room k A) : A.depth < recursionLimit := by have := r.dp; omega

/-! ### argument lists and displays -/
def tNil : TA := fun _ H Q => Q [] H
def tCons (ta : TE) (tr : TA) : TA := fun σ H Q => ta σ H fun x H1 => tr σ H1 fun xs H2 => Q (x :: xs) H2
section
variable {X : Cx} {e : Expr} {es : List Expr} {te : TE} {t : TA} {pos : Pos}
theorem pa_nil : PA X [] tNil := fun _ _ _ _ H Q I h => Calls.spliced_nil ⟨[], H, I, .nil, h⟩
theorem pa_cons (ha : PE X e te) (hr : PA X es t) (hs : starEach (e :: es) X.env = (false, eval e X.env) :: starEach es X.env := by rfl) : PA X (e :: es) (tCons te t) := by
  intro pos pins s σ H Q I h
  rw [hs]
  show wpAny _ _ (spliced ((false, eval e X.env) :: backTo pos (starEach es X.env))) _ _ s
  refine Calls.spliced_cons (thn (ha pins s σ H _ I h) fun u s1 ⟨x, H1, I1, r1, q1⟩ => ?_)
  exact thn (hr pos pins s1 σ H1 _ I1 q1) fun us s2 ⟨xs, H2, I2, r2, q2⟩ => ⟨x :: xs, H2, I2, .cons r1 r2, q2⟩

/-- a tuple, a list of written items -/
def tTup (t : TA) : TE := fun σ H Q => t σ H fun xs H1 => xs.length ≤ sizeLine ∧ ∀ p, H1 p = none → Q (.ref p) (upd H1 p (.tup xs))
def tLst (t : TA) : TE := fun σ H Q => t σ H fun xs H1 => xs.length ≤ sizeLine ∧ ∀ p, H1 p = none → Q (.ref p) (upd H1 p (.lst xs))
theorem pe_tup {x1} (h : PA X es t) : PE X (.Tuple es x1 pos) (tTup t) := by
  intro pins s σ H Q I hq
  refine wpAny_Tuple_spliced (thn (h pos pins s σ H _ I hq) fun us s1 ⟨xs, H1, I1, r, z, q⟩ => ⟨by rw [← r.length]; exact z, ?_⟩)
  have hf : H1 s1.heap.objs.size = none := I1.hok.fresh (Nat.le_refl _)
  refine ⟨.ref s1.heap.objs.size, upd H1 s1.heap.objs.size (.tup xs), I1.laid (t' := s1.toks) (fun b u e => Heap.get?_push_of_some _ e) (Nat.le_refl _) ?_, rfl, q _ hf⟩
  exact ⟨z, us, r, ⟨_, Heap.get?_push_size _ rfl, rfl, _, rfl⟩⟩
theorem pe_lst (h : PA X es t) : PE X (.List es pos) (tLst t) := by
  intro pins s σ H Q I hq
  refine wpAny_List_spliced (thn (h pos pins s σ H _ I hq) fun us s1 ⟨xs, H1, I1, r, z, q⟩ => ⟨by rw [← r.length]; exact z, ?_⟩)
  have hf : H1 s1.heap.objs.size = none := I1.hok.fresh (Nat.le_refl _)
  refine ⟨.ref s1.heap.objs.size, upd H1 s1.heap.objs.size (.lst xs), I1.laid (t' := s1.toks) (fun b u e => Heap.get?_push_of_some _ e) (Nat.le_refl _) ?_, rfl, q _ hf⟩
  exact ⟨z, us, 0, r, Heap.get?_push_size _ rfl⟩
end

/-! ### what a def promises -/
/-- a def's promise: the bound arguments in the parameters' order, the heap, the wanted end, the wanted exception -/
abbrev Sp := List V → Hp → VK → XK → Prop
/-- how an exception lies behind a call (file 08 gives it): the callers' frames, abstract heap and state ahead of the call, the wish, the exception, the state -/
abbrev CXT := List Env → Hp → Shared → XK → Value → Shared → Prop

/-- the state at a call -/
structure Env0 (P : Program) (w : World) (K : PySem.W.Frag) (mg : Str → Option Value) (base : Heap) (A : Around) (outer : List Env) (s : Shared) (H : Hp) : Prop where
  frames : A.frames = some outer
  mod : Mod K mg base
  bs : ∀ b o, base.get? b = some o → s.heap.get? b = some o ∧ H b = none
  bsz : base.objs.size ≤ s.heap.objs.size
  funs : s.heap.FunFrames base outer
  frf : ∀ b ∈ frs outer, H b = none
  hok : HOk P w H s.heap
  bare : AllBare s.gens
/-- a call's end -/
def CE (outer : List Env) (P : Program) (w : World) (H : Hp) (s : Shared) (Q : VK) (u : Value) (s' : Shared) : Prop :=
  ∃ v H', s'.os = s.os ∧ AllBare s'.gens ∧ Un (frs outer) [] H H' s.heap s'.heap ∧ HOk P w H' s'.heap ∧ RelV v u ∧ Q v H'
def CR (CX : CXT) (outer : List Env) (P : Program) (w : World) (H : Hp) (s : Shared) (Q : VK) (E : XK) (r : Result) (s' : Shared) : Prop :=
  match r with
  | .ok (.ret u) => CE outer P w H s Q u s'
  | .ok _ => False
  | .error e => CX outer H s E e s'
structure FnOk (P : Program) (w : World) (K : PySem.W.Frag) (mg : Str → Option Value) (base : Heap) (CX : CXT) (k : Nat) (f : Addr) (fd : FuncData) (ps : List Str) (sp : Sp) : Prop where
  len : ∀ vs H Q E, sp vs H Q E → vs.length = ps.length
  run : ∀ (A : Around) (outer : List Env) (s : Shared) (H : Hp) (args : Args) (us : List Value) (vs : List V) (Q : VK) (E : XK), Room k A → Env0 P w K mg base A outer s H → BindsTo s fd args (ps.zip us) → Vals vs us → sp vs H Q E →
    codeAny (model P w) A (.call (.ref f) args) (CR CX outer P w H s Q E) s
theorem FnOk.mono {P : Program} {w : World} {K : PySem.W.Frag} {mg : Str → Option Value} {base : Heap} {CX : CXT} {j k : Nat} {f : Addr} {fd : FuncData} {ps : List Str} {sp : Sp} (F : FnOk P w K mg base CX j f fd ps sp) (h : j ≤ k) :
    FnOk P w K mg base CX k f fd ps sp := ⟨F.len, fun A outer s H args us vs Q E hr => F.run A outer s H args us vs Q E (hr.mono h)⟩

theorem Env0.make {P : Program} {w : World} {K : PySem.W.Frag} {mg : Str → Option Value} {base : Heap} {A : Around} {outer : List Env} {s : Shared} {H : Hp} (e : Env0 P w K mg base A outer s H) (C : Addr) (us : List Value) (kw : List (Str × Value)) :
    Env0 P w K mg base (A.under (.builtin "type.__call__" ⟨.ref C :: us, kw⟩)) outer s H := ⟨by first | exact e.frames | (simpa [Around.under, Code.envs, Code.isFrame, pushEnvs] using e.frames), e.mod, e.bs, e.bsz, e.funs, e.frf, e.hok, e.bare⟩

section
variable {X : Cx} {pins : List (Addr × Obj)} {σ : St} {H : Hp} {s s' : Shared}
/-- from a body: what a callee wants -/
theorem Inv.env0 (I : Inv X pins σ H s) : Env0 X.prog X.w X.K X.mg X.base X.A X.stack s H :=
  ⟨I.ok.frames, I.ok.mod, I.bs, Nat.le_trans I.ok.bsz I.sz, I.stack, I.stkFree, I.hok, I.bare⟩
/-- behind a call -/
theorem Inv.after {Q : VK} {u : Value} (I : Inv X pins σ H s) (h : CE X.stack X.prog X.w H s Q u s') : EP X pins σ Q u s' := by
  obtain ⟨v, H', os, bare, un, hok, r, q⟩ := h
  obtain ⟨hh, g, d, t, os'⟩ := s'
  obtain rfl : os' = s.os := os
  exact ⟨v, H', I.call (h' := hh) (g' := g) (d' := d) (t' := t) (ch := []) un hok bare (fun b z => absurd z (by simp)), r, q⟩
end

/-! ### calls -/
/-- f(..): the written arguments, then the defaults dvs; E: what is wanted of an exception -/
def tCall (sp : Sp) (dvs : List V) (E : XK) (t : TA) : TE := fun σ H Q => t σ H fun vs H1 => sp (vs ++ dvs) H1 Q E
/-- o.m(..) of an instance of the class at C -/
def tMeth (C : Addr) (m : Str) (sp : Sp) (dvs : List V) (E : XK) (ta : TE) (t : TA) : TE := fun σ H Q => ta σ H fun x H1 => ∃ a dx fs, x = .ref a ∧ H1 a = some (.ins C dx fs) ∧ fs.lookup m = none ∧
  t σ H1 fun vs H2 => sp (x :: (vs ++ dvs)) H2 Q E
/-- C(..): a new instance and its dict, then __init__ -/
def tMake (C : Addr) (sp : Sp) (dvs : List V) (E : XK) (t : TA) : TE := fun σ H Q => t σ H fun vs H1 => ∀ x dx, H1 x = none → H1 dx = none → dx ≠ x →
  sp (.ref x :: (vs ++ dvs)) (upd (upd H1 dx (.own x)) x (.ins C dx [])) (fun v H2 => v = .non ∧ Q (.ref x) H2) E

/-- how the parameters are bound: us the positional arguments, kw the keywords' values by name, ds the defaults that fill up -/
def Binds (K : PySem.W.Frag) (fd : FuncData) (ps : List Str) (ds : List Value) : Prop :=
  ∀ (s : Shared) (us : List Value), K.In s.heap → (us ++ ds).length = ps.length → BindsTo s fd ⟨us, []⟩ (ps.zip (us ++ ds))
/-- every parameter is given -/
theorem Binds.all {K : PySem.W.Frag} {fd : FuncData} {ps : List Str} (h : ∀ us : List Value, us.length = ps.length → bindArgs fd ⟨us, []⟩ = pure (ps.zip us)) : Binds K fd ps [] := fun s us _ hl => by
  rw [List.append_nil] at hl ⊢
  exact .of_eq (h us hl)

/-- an exception of a callee reaches what this body wants of exceptions -/
def Passes (CX : CXT) (X : Cx) (E : XK) : Prop := ∀ (pins : List (Addr × Obj)) (σ : St) (H : Hp) (s : Shared) (e : Value) (s' : Shared), Inv X pins σ H s → CX X.stack H s E e s' → X.xe e s'

section
variable {X : Cx} {CX : CXT} {k : Nat} {f C : Addr} {fd : FuncData} {ps : List Str} {sp : Sp} {dvs : List V} {ds : List Value} {E : XK} {x m : Str} {p pos apos : Pos} {e o : Expr} {es : List Expr} {ta : TE} {t : TA}

/-- the callee runs -/
theorem run_fn {pins : List (Addr × Obj)} {σ : St} {H : Hp} {s : Shared} {Q : VK} {us : List Value} {vs : List V} (F : FnOk X.prog X.w X.K X.mg X.base CX k f fd ps sp) (hr : Room k X.A) (hb : Binds X.K fd ps ds) (hd : Vals dvs ds) (hx : Passes CX X E)
    (I : Inv X pins σ H s) (r : Vals vs us) (h : sp (vs ++ dvs) H Q E) : wpAny (model X.prog X.w) X.A (call (.ref f) us) (EP X pins σ Q) X.xe s := by
  have r2 : Vals (vs ++ dvs) (us ++ ds) := r.append hd
  have hl : (us ++ ds).length = ps.length := by rw [← r2.length]; exact F.len _ _ _ _ h
  refine wpAny_call (codeAny_mono (F.run X.A X.stack s H ⟨us, []⟩ (us ++ ds) (vs ++ dvs) Q E hr I.env0 (hb s us I.kIn hl) r2 h) fun r s' hq => ?_)
  cases r with
  | error e => exact hx pins σ H s e s' I hq
  | ok fl =>
    cases fl with
    | ret u => exact I.after hq
    | next => exact False.elim hq
    | brk => exact False.elim hq
    | cont => exact False.elim hq

theorem pe_call (F : FnOk X.prog X.w X.K X.mg X.base CX k f fd ps sp) (hr : Room k X.A) (hg : Gl X x) (hm : X.mg x = some (.ref f)) (hk : PySem.W.keepIn X.K (.ref f) = true) (hb : Binds X.K fd ps ds) (hd : Vals dvs ds) (hx : Passes CX X E)
    (ha : PA X (e :: es) t) (hdb : (x == ("__debug__" : Str)) = false := by decide) (he : starEach (e :: es) X.env = (false, eval e X.env) :: starEach es X.env := by rfl) (hpl : (backTo pos (starEach es X.env)).any (·.1) = false := by rfl) :
    PE X (.Call (.Name x p) (e :: es) [] pos) (tCall sp dvs E t) := by
  intro pins s σ H Q I h
  refine wpAny_Call_Name_kw (ld_glob I hg hm ?_ hdb)
  refine PySem.W.callWith_K (h₀ := X.base) I.ok.mod.kin hk (thn (ha pos pins s σ H _ I h) fun us s1 ⟨vs, H1, I1, r, q⟩ => ⟨I1.kIn, ?_⟩) he hpl
  exact run_fn F hr hb hd hx I1 r q

/-- o.m(e, ..) -/
theorem pe_meth {pl : Sem Bool} (he : PE X o ta) (c : Cls X.K C) (hm : Meth X.K C m f) (F : FnOk X.prog X.w X.K X.mg X.base CX k f fd ps sp) (hr : Room k X.A) (hb : Binds X.K fd ps ds) (hd : Vals dvs ds) (hx : Passes CX X E) (ha : PA X (e :: es) t)
    (hst : starEach (e :: es) X.env = (false, eval e X.env) :: starEach es X.env := by rfl) (hpl : (backTo pos (starEach es X.env)).any (·.1) = false := by rfl)
    (ht : eval (.Call (.Attribute o m apos) (e :: es) [] pos) X.env = (do
      let ov ← eval o X.env
      standAt apos.atName
      let (f, first) ← holding [ov] (getMethod ov m pl)
      callWith pos f first (backTo pos (starEach (e :: es) X.env)) (backToKw pos (keywordEach [] X.env))) := by rfl) :
    PE X (.Call (.Attribute o m apos) (e :: es) [] pos) (tMeth C m sp dvs E ta t) := by
  intro pins s σ H Q I h
  refine PySem.W.methodCall_KW (pl := pl) (thn (he pins s σ H _ I h) fun u s1 ⟨x, H1, I1, rx, a, dx, fs, ex, ea, l, q⟩ => ?_) ht
  subst ex
  obtain rfl : u = Value.ref a := rx
  refine getmeth_ok I1 ea c hm l ?_
  refine PySem.W.callWith_K (first := [.ref a]) (h₀ := X.base) I.ok.mod.kin hm.kp (thn (ha pos pins s1 σ H1 _ I1 q) fun us s2 ⟨vs, H2, I2, r, q2⟩ => ⟨I2.kIn, ?_⟩) hst hpl
  exact run_fn (us := .ref a :: us) (vs := .ref a :: vs) F hr hb hd hx I2 (.cons rfl r) q2
/-- o.m() -/
theorem pe_meth0 {pl : Sem Bool} (he : PE X o ta) (c : Cls X.K C) (hm : Meth X.K C m f) (F : FnOk X.prog X.w X.K X.mg X.base CX k f fd ps sp) (hr : Room k X.A) (hb : Binds X.K fd ps ds) (hd : Vals dvs ds) (hx : Passes CX X E)
    (ht : eval (.Call (.Attribute o m apos) [] [] pos) X.env = (do
      let ov ← eval o X.env
      standAt apos.atName
      let (f, first) ← holding [ov] (getMethod ov m pl)
      callWith pos f first (backTo pos (starEach [] X.env)) (backToKw pos (keywordEach [] X.env))) := by rfl) :
    PE X (.Call (.Attribute o m apos) [] [] pos) (tMeth C m sp dvs E ta tNil) := by
  intro pins s σ H Q I h
  refine PySem.W.methodCall_KW (pl := pl) (thn (he pins s σ H _ I h) fun u s1 ⟨x, H1, I1, rx, a, dx, fs, ex, ea, l, q⟩ => ?_) ht
  subst ex
  obtain rfl : u = Value.ref a := rx
  refine getmeth_ok I1 ea c hm l ?_
  exact PySem.W.callWith_K0 (first := [.ref a]) I1.kIn hm.kp (run_fn (us := [.ref a]) (vs := [.ref a]) F hr hb hd hx I1 (.cons rfl .nil) q)

/-- what a class must have to be made -/
structure Mk (K : PySem.W.Frag) (C f : Addr) : Prop where
  makes : PySem.W.makesIn K C = true
  init : PySem.W.findIn K (.ref C) "__init__" = some (some (.ref f))
  fn : PySem.W.isFn K (.ref f) = true
  kp : PySem.W.keepIn K (.ref C) = true

theorem run_make {pins : List (Addr × Obj)} {σ : St} {H : Hp} {s : Shared} {Q : VK} {us : List Value} {vs : List V} (M : Mk X.K C f) (F : FnOk X.prog X.w X.K X.mg X.base CX k f fd ps sp) (hr : Room (k + 1) X.A) (hb : Binds X.K fd ps ds) (hd : Vals dvs ds)
    (hx : Passes CX X E) (I : Inv X pins σ H s) (r : Vals vs us)
    (h : ∀ x dx, H x = none → H dx = none → dx ≠ x → sp (.ref x :: (vs ++ dvs)) (upd (upd H dx (.own x)) x (.ins C dx [])) (fun v H2 => v = .non ∧ Q (.ref x) H2) E) :
    wpAny (model X.prog X.w) X.A (call (.ref C) us) (EP X pins σ Q) X.xe s := by
  have hq := h (s.heap.objs.size + 1) s.heap.objs.size (I.hok.fresh (Nat.le_succ _)) (I.hok.fresh (Nat.le_refl _)) (Nat.ne_of_lt (Nat.lt_succ_self _))
  have I2 := Inv.made (C := C) I
  have r2 : Vals (V.ref (s.heap.objs.size + 1) :: (vs ++ dvs)) (Value.ref (s.heap.objs.size + 1) :: (us ++ ds)) := .cons rfl (r.append hd)
  have hl : (Value.ref (s.heap.objs.size + 1) :: us ++ ds).length = ps.length := by
    have e := r2.length
    rw [F.len _ _ _ _ hq] at e
    exact e.symm
  refine wpAny_call (make_map (f := f) I.kIn M.makes M.init (beq_iff_eq.mp M.fn) (codeAny_mono (F.run _ X.stack _ _ ⟨Value.ref (s.heap.objs.size + 1) :: us, []⟩ (Value.ref (s.heap.objs.size + 1) :: (us ++ ds)) _ _ E (hr.make C us [])
    (I2.env0.make C us []) (hb _ (Value.ref (s.heap.objs.size + 1) :: us) I2.kIn hl) r2 hq) fun r s' hq' => ?_))
  cases r with
  | error e => exact hx pins σ _ _ e s' I2 hq'
  | ok fl =>
    cases fl with
    | ret u =>
      obtain ⟨v, H', I3, rv, ev, q3⟩ := I2.after hq'
      subst ev
      exact ⟨rv, ⟨V.ref (s.heap.objs.size + 1), H', I3, rfl, q3⟩⟩
    | next => exact False.elim hq'
    | brk => exact False.elim hq'
    | cont => exact False.elim hq'
theorem pe_make (M : Mk X.K C f) (F : FnOk X.prog X.w X.K X.mg X.base CX k f fd ps sp) (hr : Room (k + 1) X.A) (hg : Gl X x) (hm : X.mg x = some (.ref C)) (hb : Binds X.K fd ps ds) (hd : Vals dvs ds) (hx : Passes CX X E)
    (ha : PA X (e :: es) t) (hdb : (x == ("__debug__" : Str)) = false := by decide) (he : starEach (e :: es) X.env = (false, eval e X.env) :: starEach es X.env := by rfl) (hpl : (backTo pos (starEach es X.env)).any (·.1) = false := by rfl) :
    PE X (.Call (.Name x p) (e :: es) [] pos) (tMake C sp dvs E t) := by
  intro pins s σ H Q I h
  refine wpAny_Call_Name_kw (ld_glob I hg hm ?_ hdb)
  refine PySem.W.callWith_K (h₀ := X.base) I.ok.mod.kin M.kp (thn (ha pos pins s σ H _ I h) fun us s1 ⟨vs, H1, I1, r, q⟩ => ⟨I1.kIn, ?_⟩) he hpl
  exact run_make M F hr hb hd hx I1 r q
end

/-! ### keywords -/
section
variable {X : Cx} {CX : CXT} {k : Nat} {f C : Addr} {fd : FuncData} {ps ks : List Str} {sp : Sp} {E : XK} {x m : Str} {p pos apos kpos : Pos} {e o : Expr} {es : List Expr} {kws : List Keyword} {te ta : TE} {t tk : TA} {nm : Option Str}

/-- how a call with keywords binds: g puts the positional values us and the keywords' values ws (names ks) in the parameters' order, defaults among them -/
structure KBinds (K : PySem.W.Frag) (fd : FuncData) (ps ks : List Str) (g : List Value → List Value → List Value) (gV : List V → List V → List V) : Prop where
  to : ∀ (s : Shared) (us ws : List Value), K.In s.heap → (g us ws).length = ps.length → BindsTo s fd ⟨us, ks.zip ws⟩ (ps.zip (g us ws))
  rel : ∀ {vs : List V} {us : List Value} {zs : List V} {ws : List Value}, Vals vs us → Vals zs ws → Vals (gV vs zs) (g us ws)
variable {g : List Value → List Value → List Value} {gV : List V → List V → List V}
end

/-! ### a def's body keeps its promise -/
/-- names: the parameters first -/
structure FnScope (N P : List Str) (sc : Scope) : Prop where
  kind : sc.kind = .function
  co : sc.isCoroutine = false
  gen : sc.isGenerator = false
  nd : N.Nodup
  pre : N.take P.length = P
  par : ∀ x ∈ P, sc.names.lookup x = some .local ∨ sc.names.lookup x = some .cell
  nofree : ∀ y ∈ sc.names, y.2 ≠ .free

theorem bindL_out {kindOf : Str → Option NameKind} {x : Str} : ∀ {binds : List (Str × Value)} {m : Str → Option Value}, (∀ v, (x, v) ∉ binds) → bindL kindOf binds m x = m x
  | [], _, _ => rfl
  | (n, v) :: r, m, h => by
    unfold bindL
    rw [bindL_out fun w hw => h w (List.mem_cons_of_mem _ hw)]
    split
    · have : x ≠ n := by rintro rfl; exact h v List.mem_cons_self
      simp [this]
    · rfl
theorem bindC_out {kindOf : Str → Option NameKind} {x : Str} : ∀ {binds : List (Str × Value)} {m : Str → Option Value}, (∀ v, (x, v) ∉ binds) → bindC kindOf binds m x = m x
  | [], _, _ => rfl
  | (n, v) :: r, m, h => by
    unfold bindC
    rw [bindC_out fun w hw => h w (List.mem_cons_of_mem _ hw)]
    split
    · rfl
    · have : x ≠ n := by rintro rfl; exact h v List.mem_cons_self
      simp [this]
theorem bindL_get {kindOf : Str → Option NameKind} {x : Str} {v : Value} : ∀ {P : List Str} {vs : List Value} {i : Nat} {m : Str → Option Value}, P.Nodup → P[i]? = some x → vs[i]? = some v → kindOf x = some .local →
    bindL kindOf (P.zip vs) m x = some v
  | [], _, _, _, _, h, _, _ => by simp at h
  | _ :: _, [], _, _, _, _, h, _ => by simp at h
  | p :: P, w :: vs, 0, m, nd, h1, h2, hk => by
    simp at h1 h2; subst h1; subst h2
    show bindL kindOf ((p, w) :: P.zip vs) m p = _
    unfold bindL
    rw [bindL_out fun v hv => (List.nodup_cons.mp nd).1 (List.of_mem_zip hv).1, if_pos hk]
    simp
  | p :: P, w :: vs, i + 1, m, nd, h1, h2, hk => by
    show bindL kindOf ((p, w) :: P.zip vs) m x = _
    unfold bindL
    exact bindL_get (i := i) (List.nodup_cons.mp nd).2 (by simpa using h1) (by simpa using h2) hk
theorem bindC_get {kindOf : Str → Option NameKind} {x : Str} {v : Value} : ∀ {P : List Str} {vs : List Value} {i : Nat} {m : Str → Option Value}, P.Nodup → P[i]? = some x → vs[i]? = some v → kindOf x ≠ some .local →
    bindC kindOf (P.zip vs) m x = some v
  | [], _, _, _, _, h, _, _ => by simp at h
  | _ :: _, [], _, _, _, _, h, _ => by simp at h
  | p :: P, w :: vs, 0, m, nd, h1, h2, hk => by
    simp at h1 h2; subst h1; subst h2
    show bindC kindOf ((p, w) :: P.zip vs) m p = _
    unfold bindC
    rw [bindC_out fun v hv => (List.nodup_cons.mp nd).1 (List.of_mem_zip hv).1, if_neg hk]
    simp
  | p :: P, w :: vs, i + 1, m, nd, h1, h2, hk => by
    show bindC kindOf ((p, w) :: P.zip vs) m x = _
    unfold bindC
    exact bindC_get (i := i) (List.nodup_cons.mp nd).2 (by simpa using h1) (by simpa using h2) hk

/-- the names' values at the entry -/
def start (N : List Str) (vs : List V) : St := vs.map some ++ List.replicate (N.length - vs.length) none

/-- the context of a def's body, at its entry; an exception leaves the frame, then lies as CX says -/
def cxOf (CX : CXT) (P : Program) (w : World) (K : PySem.W.Frag) (mg : Str → Option Value) (base : Heap) (N : List Str) (qual : Str) (scope : Scope) (f : Addr) (cd : Value) (A : Around) (outer : List Env) (s : Shared) (H : Hp) (E : XK) : Cx where
  prog := P
  w := w
  K := K
  mg := mg
  base := base
  A := A.deeper (envOfC qual scope s.heap.objs.size f cd)
  N := N
  s₀ := s
  H₀ := H
  env := envOfC qual scope s.heap.objs.size f cd
  outer := outer
  stack := envOfC qual scope s.heap.objs.size f cd :: outer
  ex := []
  calm := true
  fn := fun _ => true
  pn := []
  xe := fun e s' => wpAny (model P w) (A.deeper (envOfC qual scope s.heap.objs.size f cd)) (leaving (envOfC qual scope s.heap.objs.size f cd) e) (fun _ s'' => CX outer H s E e s'') (fun e' s'' => CX outer H s E e' s'') s'

theorem cell_has {sc : Scope} {n : Nat} {x : Str} (h : sc.names.lookup x = some .cell) : ∃ c, (cellsFrom n sc.names []).lookup x = some c := by
  have q := PySem.W.cellsFrom_some sc.names n [] (.inl h)
  exact Option.isSome_iff_exists.mp q

theorem inv_start {CX : CXT} {P : Program} {w : World} {K : PySem.W.Frag} {mg : Str → Option Value} {base : Heap} {N ps : List Str} {qual : Str} {scope : Scope} {f : Addr} {cd : Value} {A : Around} {outer : List Env} {s s1 : Shared} {H : Hp} {E : XK} {us : List Value} {vs : List V}
    (S : FnScope N ps scope) (hd : A.handled = none) (e0 : Env0 P w K mg base A outer s H) (hl : vs.length = ps.length) (r : Vals vs us)
    (x : InCallC s s.heap.objs.size (bindL (envOfC qual scope s.heap.objs.size f cd).kindOf (ps.zip us) fun _ => none) (cellsFrom (s.heap.objs.size + 1) scope.names []) (bindC (envOfC qual scope s.heap.objs.size f cd).kindOf (ps.zip us) fun _ => none) s1) :
    Inv (cxOf CX P w K mg base N qual scope f cd A outer s H E) [] (start N vs) H s1 := by
  have hpl : ps.length ≤ N.length := by have := congrArg List.length S.pre; rw [List.length_take] at this; omega
  obtain ⟨h1, tk, rfl, hk⟩ := x.done
  have noA : ∀ b : Addr, b ∉ (cxOf CX P w K mg base N qual scope f cd A outer s H E).ex := fun b z => absurd (show b ∈ ([] : List Addr) from z) (by simp)
  refine ⟨⟨e0.mod, S.kind, rfl, rfl, Nat.le_refl _, fun y z c h1 h2 => ?_, fun y hy => ?_, fun y c _ h => ?_, fun _ => hd, Around.frames_deeper e0.frames, .inr ⟨rfl, rfl⟩, fun b z => absurd z (noA b), e0.bs, e0.bsz, fun b _ _ => noA b, fun b z => absurd z (noA b), e0.funs, e0.frf⟩,
    rfl, e0.bare, Un.kept hk, ⟨_, x.toInCall.ns, fun i y v h1 h2 h3 => ?_⟩, fun y c h => ⟨_, x.cell y c h⟩, e0.hok.fresh (Nat.le_refl _), fun y c h => ?_, fun p hp => absurd (show p ∈ ([] : List (Addr × Obj)) from hp) (by simp), e0.hok.kept hk, ?_⟩
  · exact name_of_addr x.apart (PySem.mem_of_lookup h1) (PySem.mem_of_lookup h2)
  · have hy : scope.names.lookup y = some .cell ∨ scope.names.lookup y = some .free := hy
    rcases hy with hy | hy
    · exact cell_has hy
    · exact absurd rfl (S.nofree _ (PySem.mem_of_lookup hy))
  · exact Nat.le_of_lt (x.above y c (PySem.mem_of_lookup h))
  · have hi : i < vs.length := by
      unfold start at h2
      by_cases hi : i < vs.length
      · exact hi
      · rw [List.getElem?_append_right (by simpa using hi)] at h2
        rw [List.getElem?_replicate] at h2
        split at h2 <;> cases h2
    have ha : vs[i]? = some v := by
      unfold start at h2
      rw [List.getElem?_append_left (by simpa using hi), List.getElem?_map] at h2
      cases e : vs[i]? with
      | none => rw [e] at h2; cases h2
      | some a => rw [e] at h2; cases h2; rfl
    obtain ⟨u, hu, rv⟩ := r.get ha
    have hp : ps[i]? = some y := by
      rw [← S.pre, List.getElem?_take_of_lt (by omega)]; exact h1
    have ndP : ps.Nodup := by rw [← S.pre]; exact S.nd.sublist (List.take_sublist _ _)
    refine ⟨u, rv, ?_⟩
    rcases S.par y (List.mem_of_getElem? hp) with k | k
    · exact .inl ⟨k, bindL_get ndP hp hu k⟩
    · obtain ⟨c, e⟩ := cell_has (n := s.heap.objs.size + 1) k
      refine .inr ⟨.inl k, c, e, ?_⟩
      have q := x.cell y c e
      rw [bindC_get ndP hp hu (by show scope.names.lookup y ≠ _; rw [k]; decide)] at q
      exact q
  · exact e0.hok.fresh (Nat.le_of_lt (x.above y c (PySem.mem_of_lookup h)))
  · unfold start
    show _ = N.length
    rw [List.length_append, List.length_map, List.length_replicate]
    omega

/-- THE RULE: a def (or a method) of the text, by its body. The body's reading t is chosen for each entry; it is run at the parameters' values -/
theorem fn_of {CX : CXT} {P : Program} {w : World} {K : PySem.W.Frag} {mg : Str → Option Value} {base : Heap} {k : Nat} {f : Addr} {name qual : Str} {params : Arguments} {body : List Stmt} {scope : Scope} {dV kV doc pm cdv ct oc : Value} {an od : Option Addr}
    {osl : Array (Option Value)} {N ps : List Str} {sp : Sp} (lk : K.lookup f = some ⟨oc, od, .func (PySem.W.fnOf name qual params body scope dV kV doc pm an cdv ct), osl⟩) (hcd : PySem.W.codeIn K cdv qual = true) (S : FnScope N ps scope)
    (len : ∀ vs H Q E, sp vs H Q E → vs.length = ps.length)
    (hbody : ∀ (A : Around) (outer : List Env) (s : Shared) (H : Hp) (vs : List V) (Q : VK) (E : XK), Room k (A.deeper (envOfC qual scope s.heap.objs.size f cdv)) → sp vs H Q E →
      ∃ t, PSs (cxOf CX P w K mg base N qual scope f cdv A outer s H E) body t ∧ t { nx := fun _ H' => Q .non H', rt := Q } (start N vs) H) :
    FnOk P w K mg base CX (k + 1) f (PySem.W.fnOf name qual params body scope dV kV doc pm an cdv ct) ps sp := by
  refine ⟨len, fun A outer s H args us vs Q E hr e0 hb r hsp => ?_⟩
  have hl := len _ _ _ _ hsp
  have KX : K.In s.heap := e0.mod.kin.keeps fun b o e => (e0.bs b o e).1
  have lim : s.heap.NoLimit := e0.mod.nolimit.keeps fun b o e => (e0.bs b o e).1
  have hkind : ∀ y ∈ ps.zip us, scope.names.lookup y.1 = some .local ∨ (scope.names.lookup y.1 = some .cell ∧ ((cellsFrom (s.heap.objs.size + 1) scope.names []).lookup y.1).isSome = true) := fun ⟨n, v⟩ hy => by
    rcases S.par n (List.of_mem_zip hy).1 with q | q
    · exact .inl q
    · exact .inr ⟨q, PySem.W.cellsFrom_some _ _ _ (.inl q)⟩
  refine codeAny_call_function hr.depth (KX _ _ lk) rfl S.co S.gen rfl (PySem.W.codeRec_of KX hcd) (hb _ _ _ _ ?_)
  refine wpAny_newFunctionEnv_cells S.kind hkind fun env he s1 x => ?_
  subst he
  refine ⟨lim.keeps x.toInCall.keep, codeAny_func ?_⟩
  obtain ⟨t, ht, hq⟩ := hbody A outer s H vs Q E (hr.deeper _) hsp
  have I : Inv (cxOf CX P w K mg base N qual scope f cdv A outer s H E) [] (start N vs) H s1 := inv_start S hr.hd e0 hl r x
  refine wpAny_mono (ht [] s1 (start N vs) H _ I hq) (fun fl s' hs => ?_) fun e s' hs => hs
  have fin : ∀ {σ' : St} {H' : Hp} {v : V} {u : Value}, Inv (cxOf CX P w K mg base N qual scope f cdv A outer s H E) [] σ' H' s' → RelV v u → Q v H' → CE outer P w H s Q u s' :=
    fun {σ' H' v u} J rv q => ⟨v, H', J.os, J.bare, J.base, J.hok, rv, q⟩
  cases fl with
  | ret u =>
    obtain ⟨v, σ', H', J, rv, q⟩ := hs
    exact fin J rv q
  | next =>
    obtain ⟨σ', H', J, q⟩ := hs
    exact fin (v := V.non) (u := Value.none) J rfl q
  | brk =>
    obtain ⟨_, _, _, q⟩ := hs
    exact False.elim q
  | cont =>
    obtain ⟨_, _, _, q⟩ := hs
    exact False.elim q
end L2

namespace L2
open PySem PySem.Spec PyProof.Rows
section
variable {X : Cx} {x : Str} {p pos : Pos} {e : Expr} {es : List Expr} {t : TA} {id T : String} {r : List V → Hp → VK → Prop}

def tCB (r : List V → Hp → VK → Prop) (t : TA) : TE := fun σ H Q => t σ H fun vs H1 => r vs H1 Q
/-- f(e, ..), f a built-in function -/
theorem pe_callB (hc : CallR X (.builtin id) r) (hg : Gl X x) (hm : X.mg x = none) (hv : bootBuiltins x = some (.builtin id)) (ha : PA X (e :: es) t) (hn : x ≠ "__name__" := by decide) (hdb : (x == ("__debug__" : Str)) = false := by decide)
    (he : starEach (e :: es) X.env = (false, eval e X.env) :: starEach es X.env := by rfl) (hpl : (backTo pos (starEach es X.env)).any (·.1) = false := by rfl) : PE X (.Call (.Name x p) (e :: es) [] pos) (tCB r t) := by
  intro pins s σ H Q I h
  refine wpAny_Call_Name_kw (ld_blt I hg hm hv ?_ hn hdb)
  exact PyProof.Rows.callWith_builtin1 (thn (ha pos pins s σ H _ I h) fun us s1 ⟨vs, H1, I1, r1, q1⟩ => hc pins s1 σ H1 vs us Q I1 r1 q1) he hpl
/-- T(e, ..), T a built-in type -/
theorem pe_callTy (hc : CallR X (.type T) r) (hg : Gl X x) (hm : X.mg x = none) (hv : bootBuiltins x = some (.type T)) (ha : PA X (e :: es) t) (hn : x ≠ "__name__" := by decide) (hdb : (x == ("__debug__" : Str)) = false := by decide)
    (he : starEach (e :: es) X.env = (false, eval e X.env) :: starEach es X.env := by rfl) (hpl : (backTo pos (starEach es X.env)).any (·.1) = false := by rfl) : PE X (.Call (.Name x p) (e :: es) [] pos) (tCB r t) := by
  intro pins s σ H Q I h
  refine wpAny_Call_Name_kw (ld_blt I hg hm hv ?_ hn hdb)
  exact PyProof.Rows.callWith_type1 (thn (ha pos pins s σ H _ I h) fun us s1 ⟨vs, H1, I1, r1, q1⟩ => hc pins s1 σ H1 vs us Q I1 r1 q1) he hpl
end
end L2

namespace HT
open PySem PyProof.Rows



section
open PySem.SeqAt
open PySem.AutoSeq1 (wpAny_loadPart')
open PySem.MeetsSeq PySem.MeetsSeq2 PySem.MeetsSeq3

end

section
variable {prog : Program} {w : World} {A : Around} {E : Value → Shared → Prop} {s : Shared}



/-! ### t[a:b], not the whole -/
/-- a slice's bound as a place among n (d where it is left out) -/
def sIx (n d : Nat) : Option Int → Nat
  | none => d
  | some v => if v < 0 then (v + (n : Int)).toNat else min v.toNat n
theorem sIx_nat (n d k : Nat) : sIx n d (some (k : Int)) = min k n := by
  show (if (k : Int) < 0 then ((k : Int) + (n : Int)).toNat else min (k : Int).toNat n) = min k n
  rw [if_neg (by omega), Int.toNat_natCast]

end
end HT

namespace L2
open PySem PySem.Spec PyProof.Rows

/-! ### the parts of a slice -/
abbrev TO := St → Hp → (Option Int → Hp → Prop) → Prop
/-- a slice's part (left out, or an int) -/
def PO (X : Cx) (e : Option Expr) (t : TO) : Prop :=
  ∀ (pins : List (Addr × Obj)) (s : Shared) (σ : St) (H : Hp) (Q : Option Int → Hp → Prop), Inv X pins σ H s → t σ H Q →
    wpAny (model X.prog X.w) X.A (evalPart e X.env) (fun u s' => ∃ o H', Inv X pins σ H' s' ∧ IsPart u o ∧ Q o H') X.xe s
def tNoPart : TO := fun _ H Q => Q none H
def tPart (t : TE) : TO := fun σ H Q => t σ H fun x H1 => ∃ i, x = .int i ∧ Q (some i) H1

theorem intsAre_of {ns : List Int} : ∀ {us : List Value}, Vals (ns.map V.int) us → IntsAre us ns := by
  induction ns with
  | nil => intro us r; rw [List.map_nil] at r; cases r; exact .nil
  | cons n ns ih =>
    intro us r
    rw [List.map_cons] at r
    cases r with
    | cons r1 r2 =>
      obtain ⟨t, e⟩ := r1
      subst e
      exact .cons n t (ih r2)

section
variable {X : Cx} {e : Expr} {te : TE} {lo hi : Option Expr} {tl th : TO} {pos p2 : Pos}

theorem po_none : PO X none tNoPart := by
  intro pins s σ H Q I h
  rw [evalPart_none]
  exact wpAny_pure ⟨none, H, I, .none, h⟩
theorem po_some (h : PE X e te) : PO X (some e) (tPart te) := by
  intro pins s σ H Q I hw
  rw [evalPart_some]
  refine thn (h pins s σ H _ I hw) fun u s1 ⟨x, H1, I1, r1, q1⟩ => ?_
  obtain ⟨i, rfl, q⟩ := q1
  obtain ⟨t, rfl⟩ := r1
  exact ⟨some i, H1, I1, .int i t, q⟩

/-- what a slice of a value is, by values: the slice object stands at sl -/
def SlR (X : Cx) (r : V → Option Int → Option Int → Hp → VK → Prop) : Prop :=
  ∀ (pins : List (Addr × Obj)) (s : Shared) (σ : St) (H : Hp) (x : V) (v vl vu : Value) (lo hi : Option Int) (sl : Addr) (Q : VK), Inv X pins σ H s → RelV x v → s.heap.IsSliceOf sl vl vu .none → IsPart vl lo → IsPart vu hi → r x lo hi H Q →
    ∃ T id, typeLookup (.type T) "__getitem__" = pure (some (.builtin id)) ∧ s.TypeIs v T ∧ wpAny (model X.prog X.w) X.A (getItem v (.ref sl)) (EP X pins σ Q) X.xe s
def tSl (r : V → Option Int → Option Int → Hp → VK → Prop) (te : TE) (tl th : TO) : TE := fun σ H Q => te σ H fun x H1 => tl σ H1 fun l H2 => th σ H2 fun u H3 => r x l u H3 Q
/-- a[lo:hi], any a -/
theorem pe_slice {r : V → Option Int → Option Int → Hp → VK → Prop} (hr : SlR X r) (he : PE X e te) (hl : PO X lo tl) (hu : PO X hi th) : PE X (.Subscript e (.Slice lo hi none p2) pos) (tSl r te tl th) := by
  intro pins s σ H Q I h
  refine Subscript_ (thn (he pins s σ H _ I h) fun v s1 ⟨x, H1, I1, r1, q1⟩ => ?_)
  refine wpAny_Slice (thn (hl pins s1 σ H1 _ I1 q1) fun vl s2 ⟨l, H2, I2, pl, q2⟩ => thn (hu pins s2 σ H2 _ I2 q2) fun vu s3 ⟨u, H3, I3, pu, q3⟩ => ?_)
  rw [evalPart_none]
  refine wpAny_pure ?_
  have I4 : Inv X pins σ H3 { s3 with heap := s3.heap.push { cls := .type "slice", data := .fields #[vl, vu, .none] } } := I3.kept (t' := s3.toks) fun b ob q => Heap.get?_push_of_some _ q
  obtain ⟨T, id, hT, ht, hg⟩ := hr pins { s3 with heap := s3.heap.push { cls := .type "slice", data := .fields #[vl, vu, .none] } } σ H3 x v vl vu l u s3.heap.objs.size Q I4 r1 (Heap.IsSliceOf.new ..) pl pu q3
  show wpAny (model X.prog X.w) X.A (subscriptTail e (.Slice lo hi none p2) v (.ref s3.heap.objs.size)) (EP X pins σ Q) X.xe { s3 with heap := s3.heap.push { cls := .type "slice", data := .fields #[vl, vu, .none] } }
  exact tail_any (ops := [.ref s3.heap.objs.size, v]) ht hT hg (by with_unfolding_all rfl)

/-- the items of xs[lo:hi] -/
def cutV (xs : List V) (lo hi : Option Int) : List V := (xs.drop (HT.sIx xs.length 0 lo)).take (HT.sIx xs.length xs.length hi - HT.sIx xs.length 0 lo)
theorem cutV_length (xs : List V) (lo hi : Option Int) : (cutV xs lo hi).length ≤ xs.length := by
  unfold cutV
  rw [List.length_take, List.length_drop]
  omega

/-! ### t < u, t + u -/
end
end L2

namespace L2
open PySem PySem.Spec PyProof.Rows

/-! ### places -/
/-- the place that an index of any sign means -/
def ixN (n : Nat) (i : Int) : Option Nat := if 0 ≤ i then (if i < n then some i.toNat else none) else if -(n : Int) ≤ i then some (i + n).toNat else none
def atI {α : Type} (xs : List α) (i : Int) : Option α := (ixN xs.length i).bind fun j => xs[j]?
theorem ixN_seq {n : Nat} {i : Int} {j : Nat} (h : ixN n i = some j) : seqIndex? i n = some j ∧ j < n ∧ -(n : Int) ≤ i ∧ i < n := by
  unfold ixN at h
  by_cases h0 : 0 ≤ i
  · rw [if_pos h0] at h
    by_cases h1 : i < n
    · rw [if_pos h1] at h
      have e : i.toNat = j := Option.some.inj h
      exact ⟨by rw [seqIndex_of h0 h1, e], by omega, by omega, h1⟩
    · rw [if_neg h1] at h; cases h
  · rw [if_neg h0] at h
    by_cases h1 : -(n : Int) ≤ i
    · rw [if_pos h1] at h
      have e : (i + n).toNat = j := Option.some.inj h
      exact ⟨by rw [seqIndex_neg (by omega) h1, e], by omega, h1, by omega⟩
    · rw [if_neg h1] at h; cases h
theorem atI_get {α : Type} {xs : List α} {i : Int} {v : α} (h : atI xs i = some v) : ∃ j, seqIndex? i xs.length = some j ∧ xs[j]? = some v ∧ j < xs.length ∧ -(xs.length : Int) ≤ i ∧ i < xs.length := by
  unfold atI at h
  cases e : ixN xs.length i with
  | none => rw [e] at h; cases h
  | some j =>
    rw [e] at h
    obtain ⟨h1, h2, h3, h4⟩ := ixN_seq e
    exact ⟨j, h1, h, h2, h3, h4⟩
theorem atI_nat {α : Type} {xs : List α} {j : Nat} {v : α} (h : xs[j]? = some v) : atI xs (j : Int) = some v := by
  have hj : j < xs.length := (List.getElem?_eq_some_iff.mp h).1
  have e : ixN xs.length (j : Int) = some j := by
    unfold ixN
    rw [if_pos (by omega), if_pos (by omega)]; simp
  unfold atI; rw [e]; exact h

/-! ### what may be subscripted -/
/-- what stands as an index of a plain subscript -/
def PlainIx (b : Expr) : Prop := ∀ o i, subscripted b false o i = operate [o, i] (getItem o i)
/-- a subscript by values -/
def IxR (X : Cx) (r : R2) : Prop :=
  ∀ (value slice : Expr) (pins : List (Addr × Obj)) (s : Shared) (σ : St) (H : Hp) (x y : V) (v u : Value) (Q : VK), Inv X pins σ H s → RelV x v → RelV y u → r x y H Q →
    subscripted slice false v u = operate [v, u] (getItem v u) → wpAny (model X.prog X.w) X.A (subscriptTail value slice v u) (EP X pins σ Q) X.xe s
/-- a call of a builtin's method by values: the receiver, the arguments -/
def MtR (X : Cx) (id : String) (r : V → List V → Hp → VK → Prop) : Prop :=
  ∀ (pins : List (Addr × Obj)) (s : Shared) (σ : St) (H : Hp) (x : V) (xs : List V) (v : Value) (us : List Value) (Q : VK), Inv X pins σ H s → RelV x v → Vals xs us → r x xs H Q →
    wpAny (model X.prog X.w) X.A (call (.builtin id) (v :: us)) (EP X pins σ Q) X.xe s
section
variable {X : Cx} {a b : Expr} {ta tb : TE} {pos : Pos}
/-- a[b] -/
theorem pe_ix {r : R2} (hr : IxR X r) (ha : PE X a ta) (hb : PE X b tb) (hs : PlainIx b) : PE X (.Subscript a b pos) (tOp r ta tb) := by
  intro pins s σ H Q I h
  exact Subscript_ (binT ha hb I h fun v u s2 x y H2 I2 rx ry q => hr a b pins s2 σ H2 x y v u Q I2 rx ry q (hs _ _))

def rIxL (K : PySem.W.Frag) : R2 := fun x y H Q => ∃ p xs i v, x = .ref p ∧ y = .int i ∧ SqL K H p xs ∧ atI xs i = some v ∧ Q v H
def rIxT (K : PySem.W.Frag) : R2 := fun x y H Q => ∃ p xs i v, x = .ref p ∧ y = .int i ∧ SqT K H p xs ∧ atI xs i = some v ∧ Q v H
theorem ix_list : IxR X (rIxL X.K) := by
  intro value slice pins s σ H x y v u Q I rx ry h hs
  obtain ⟨p, xs, i, z, rfl, rfl, hq, he, q⟩ := h
  cases rx
  obtain ⟨t, rfl⟩ := ry
  obtain ⟨its, r, pl, hz⟩ := I.list hq
  obtain ⟨j, h1, h2, h3, h4, h5⟩ := atI_get he
  obtain ⟨w, ew, rw'⟩ := r.get h2
  have hl := r.length
  have hn := line63
  have fin : EP X pins σ Q w s := ⟨z, H, I, rw', q⟩
  by_cases h0 : 0 ≤ i
  · have hj : i.toNat = j := by
      rw [seqIndex_of h0 h5] at h1
      exact Option.some.inj h1
    exact item_listR pl.isList h0 (by omega) (by rw [hj]; simpa using ew) fin hs
  · have hj : (i + (its.toArray.size : Int)).toNat = j := by
      rw [seqIndex_neg (by omega) h4] at h1
      rw [List.size_toArray, ← hl]
      exact Option.some.inj h1
    exact subscriptTail_builtinR (x := w) pl.isList.typeIs slot_list_getitem.lookup
      (wpAny_getItem_list_neg (Q := fun r s' => r = w ∧ EP X pins σ Q r s') pl.isList (by omega) (by rw [List.size_toArray] <;> omega) (by omega) (by rw [hj]; simpa using ew) ⟨rfl, fin⟩) hs
theorem ix_tup : IxR X (rIxT X.K) := by
  intro value slice pins s σ H x y v u Q I rx ry h hs
  obtain ⟨p, xs, i, z, rfl, rfl, hq, he, q⟩ := h
  cases rx
  obtain ⟨t, rfl⟩ := ry
  obtain ⟨its, r, pl, hz⟩ := I.tuple hq
  obtain ⟨j, h1, h2, h3, h4, h5⟩ := atI_get he
  obtain ⟨w, ew, rw'⟩ := r.get h2
  have hl := r.length
  have hn := line63
  have fin : EP X pins σ Q w s := ⟨z, H, I, rw', q⟩
  exact subscriptTail_builtinR (x := w) pl.typeIs slot_tuple_getitem.lookup
    (getItem_tuple (j := j) (Q := fun r s' => r = w ∧ EP X pins σ Q r s') pl (by omega) (by omega) (by rw [List.size_toArray, ← hl]; exact h1) (by simpa using ew) ⟨rfl, fin⟩) hs

/-! ### xs[i] = v, any sign -/

/-! ### slices -/
theorem slice_bounds (lo hi : Option Int) (n : Nat) : (sliceBounds lo hi none n).1 = ((HT.sIx n 0 lo : Nat) : Int) ∧ (sliceBounds lo hi none n).2.1 = ((HT.sIx n n hi : Nat) : Int) ∧ (sliceBounds lo hi none n).2.2 = 1 := by
  refine ⟨?_, ?_, rfl⟩
  · cases lo with
    | none => simp [sliceBounds, HT.sIx]
    | some i =>
      simp only [sliceBounds, HT.sIx, Option.getD_none, show (1 : Int) > 0 by decide, if_true]
      by_cases h : i < 0
      · simp only [h, if_true] <;> omega
      · simp only [h, if_false] <;> omega
  · cases hi with
    | none => simp [sliceBounds, HT.sIx]
    | some i =>
      simp only [sliceBounds, HT.sIx, Option.getD_none, show (1 : Int) > 0 by decide, if_true]
      by_cases h : i < 0
      · simp only [h, if_true] <;> omega
      · simp only [h, if_false] <;> omega
theorem slicePick_cut (its : List Value) (lo hi : Option Int) : slicePick its.toArray lo hi none = ((its.drop (HT.sIx its.length 0 lo)).take (HT.sIx its.length its.length hi - HT.sIx its.length 0 lo)).toArray := by
  obtain ⟨h1, h2, h3⟩ := slice_bounds lo hi its.toArray.size
  unfold slicePick
  rw [h1, h2, h3]
  simp only [sliceRange_one, pick_run, List.size_toArray] <;> rfl
/-- xs[lo:hi] of a list: a new list -/
def rSlL (K : PySem.W.Frag) : V → Option Int → Option Int → Hp → VK → Prop := fun x lo hi H Q => ∃ a xs, x = .ref a ∧ SqL K H a xs ∧ ∀ p, H p = none → Q (.ref p) (upd H p (.lst (cutV xs lo hi)))
theorem sl_list : SlR X (rSlL X.K) := by
  intro pins s σ H x v vl vu lo hi sl Q I rx hs pl pu h
  obtain ⟨a, xs, rfl, hx, q⟩ := h
  cases rx
  obtain ⟨its, r, ht, hz⟩ := I.list hx
  have hlen := r.length
  refine ⟨"list", _, slot_list_getitem.lookup, ht.isList.typeIs, ?_⟩
  refine wpAny_getItem_list_slice ht.isList hs pl pu .none (by simp) ?_ (by rw [List.size_toArray] <;> omega)
  rw [slicePick_cut, ← hlen]
  refine ⟨.ref s.heap.objs.size, _, I.laid (t' := s.toks) (o := .lst (cutV xs lo hi)) (fun b ob q => Heap.get?_push_of_some _ q) (Nat.le_refl _) ?_, rfl, q _ (I.hok.fresh (Nat.le_refl _))⟩
  exact ⟨Nat.le_trans (cutV_length xs lo hi) hz, _, 0, (r.drop (HT.sIx xs.length 0 lo)).take (HT.sIx xs.length xs.length hi - HT.sIx xs.length 0 lo), Heap.get?_push_size _ rfl⟩

/-! ### in, not in: flat items -/
def flatV : V → Bool
  | .non => true
  | .bl _ => true
  | .int _ => true
  | .str _ => true
  | _ => false
/-- == of flat values -/
def eqV : V → V → Bool
  | .non, .non => true
  | .bl a, .bl b => a == b
  | .bl a, .int b => (if a then 1 else 0) == b
  | .int a, .bl b => a == (if b then 1 else 0)
  | .int a, .int b => a == b
  | .str a, .str b => a == b
  | _, _ => false
theorem eqAt_V {A : Around} {s : Shared} {y x : V} {u v : Value} (ry : RelV y u) (rx : RelV x v) (fy : flatV y = true) (fx : flatV x = true) : SeqAt.EqAt A s u v (eqV y x) := by
  cases y with
  | non =>
    cases ry
    cases x with
    | non => cases rx; exact SeqAt.EqAt.same _
    | bl b => cases rx; exact SeqAt.EqAt.none_bool b
    | int b => obtain ⟨t, rfl⟩ := rx; exact SeqAt.EqAt.none_int b t
    | str b => obtain ⟨t, rfl⟩ := rx; exact SeqAt.EqAt.none_str b t
    | _ => exact absurd (show false = true from fx) Bool.false_ne_true
  | bl a =>
    cases ry
    cases x with
    | non => cases rx; exact SeqAt.EqAt.bool_none a
    | bl b => cases rx; exact SeqAt.EqAt.bool_bool a b
    | int b => obtain ⟨t, rfl⟩ := rx; exact SeqAt.EqAt.bool_int a b t
    | str b => obtain ⟨t, rfl⟩ := rx; exact SeqAt.EqAt.bool_str a b t
    | _ => exact absurd (show false = true from fx) Bool.false_ne_true
  | int a =>
    obtain ⟨t', rfl⟩ := ry
    cases x with
    | non => cases rx; exact SeqAt.EqAt.int_none a t'
    | bl b => cases rx; exact SeqAt.EqAt.int_bool a t' b
    | int b => obtain ⟨t, rfl⟩ := rx; exact SeqAt.EqAt.int_int a t' b t
    | str b => obtain ⟨t, rfl⟩ := rx; exact SeqAt.EqAt.int_str a t' b t
    | _ => exact absurd (show false = true from fx) Bool.false_ne_true
  | str a =>
    obtain ⟨t', rfl⟩ := ry
    cases x with
    | non => cases rx; exact SeqAt.EqAt.str_none a t'
    | bl b => cases rx; exact SeqAt.EqAt.str_bool a t' b
    | int b => obtain ⟨t, rfl⟩ := rx; exact SeqAt.EqAt.str_int a t' b t
    | str b => obtain ⟨t, rfl⟩ := rx; exact SeqAt.EqAt.str_str a t' b t
    | _ => exact absurd (show false = true from fx) Bool.false_ne_true
  | _ => exact absurd (show false = true from fy) Bool.false_ne_true
/-- the items' answers, read off the values (a value's own answer does not lean on its token) -/
def eqU (x : V) (u : Value) : Bool := match u with
  | .none => eqV .non x
  | .bool b => eqV (.bl b) x
  | .int i _ => eqV (.int i) x
  | .str z _ => eqV (.str z) x
  | _ => false
theorem eqU_of {x y : V} {u : Value} (r : RelV y u) (f : flatV y = true) : eqU x u = eqV y x := by
  cases y with
  | non => cases r; rfl
  | bl b => cases r; rfl
  | int i => obtain ⟨t, rfl⟩ := r; rfl
  | str z => obtain ⟨t, rfl⟩ := r; rfl
  | _ => exact absurd (show false = true from f) Bool.false_ne_true
theorem any_eqU {x : V} : ∀ {xs : List V} {us : List Value}, Vals xs us → xs.all flatV = true → us.any (eqU x) = xs.any fun y => eqV y x
  | _, _, .nil, _ => rfl
  | y :: xs, u :: us, .cons r t, f => by
    rw [List.all_cons, Bool.and_eq_true] at f
    rw [List.any_cons, List.any_cons, eqU_of r f.1, any_eqU t f.2]
theorem mem_eqAt {A : Around} {s : Shared} {x : V} {v : Value} (rx : RelV x v) (fx : flatV x = true) : ∀ {xs : List V} {us : List Value}, Vals xs us → xs.all flatV = true → ∀ u ∈ us, SeqAt.EqAt A s u v (eqU x u)
  | _, _, .nil, _ => fun u hu => by cases hu
  | y :: xs, u :: us, .cons r t, f => fun u' hu => by
    rw [List.all_cons, Bool.and_eq_true] at f
    rcases List.mem_cons.mp hu with rfl | hu
    · rw [eqU_of r f.1]; exact eqAt_V r rx f.1 fx
    · exact mem_eqAt rx fx t f.2 u' hu
def inV (x : V) (xs : List V) : Bool := xs.any fun y => eqV y x
/-- x in a list or tuple of flat items -/
def rIn (K : PySem.W.Frag) (neg : Bool) : R2 := fun x y H Q => ∃ p xs, y = .ref p ∧ (SqL K H p xs ∨ SqT K H p xs) ∧ flatV x = true ∧ xs.all flatV = true ∧ Q (.bl (if neg then !inV x xs else inV x xs)) H
theorem op_in_seq : OpR X (compareOp .In) (rIn X.K false) := by
  intro pins s σ H x y v u Q I rx ry h
  obtain ⟨p, xs, rfl, hq, fx, fs, q⟩ := h
  cases ry
  rcases hq with hq | hq
  · obtain ⟨its, r, pl, hz⟩ := I.list hq
    refine SeqAt.in_listAt (eqU x) pl.isList (fun w hw => mem_eqAt rx fx r fs w (by simpa using hw)) ⟨.bl _, H, I, rfl, ?_⟩
    rw [show its.toArray.any (eqU x) = its.any (eqU x) by simp, any_eqU r fs]
    exact q
  · obtain ⟨its, r, pl, hz⟩ := I.tuple hq
    refine SeqAt.in_tupleAt (eqU x) pl (fun w hw => mem_eqAt rx fx r fs w (by simpa using hw)) ⟨.bl _, H, I, rfl, ?_⟩
    rw [show its.toArray.any (eqU x) = its.any (eqU x) by simp, any_eqU r fs]
    exact q

/-! ### len, list(x), tuple(x) of any list or tuple that is read -/
theorem call_len_seq : CallR X (.builtin "len") (fun xs H Q => ∃ p ys, xs = [.ref p] ∧ (SqL X.K H p ys ∨ SqT X.K H p ys) ∧ Q (.int ys.length) H) := by
  intro pins s σ H xs us Q I r h
  obtain ⟨p, ys, rfl, hq, q⟩ := h
  obtain ⟨u, rfl, rx⟩ := vals1 r
  cases rx
  have hn := line63
  rcases hq with hq | hq
  · obtain ⟨its, r', pl, hz⟩ := I.list hq
    have hlen := r'.length
    exact Calls.call_len_list pl.isList (by simp only [List.size_toArray] <;> omega) ⟨.int ys.length, H, I.tok _, ⟨s.toks + 1, by rw [List.size_toArray, hlen]⟩, q⟩
  · obtain ⟨its, r', pl, hz⟩ := I.tuple hq
    have hlen := r'.length
    exact len_tuple pl (by simp only [List.size_toArray] <;> omega) ⟨.int ys.length, H, I.tok _, ⟨s.toks + 1, by rw [List.size_toArray, hlen]⟩, q⟩
theorem call_list_of : CallR X (.type "list") (fun xs H Q => ∃ p ys, xs = [.ref p] ∧ (SqL X.K H p ys ∨ SqT X.K H p ys) ∧ ∀ l, H l = none → Q (.ref l) (upd H l (.lst ys))) := by
  intro pins s σ H xs us Q I r h
  obtain ⟨p, ys, rfl, hq, q⟩ := h
  obtain ⟨u, rfl, rx⟩ := vals1 r
  cases rx
  have fin : ∀ (its : List Value), Vals ys its → ys.length ≤ sizeLine → ∀ (h' : Heap) (c' : Nat), (∀ b o', s.heap.get? b = some o' → h'.get? b = some o') →
      h'.get? s.heap.objs.size = some { cls := .type "list", dict := none, data := .seq its.toArray c', slots := #[] } → EP X pins σ Q (.ref s.heap.objs.size) { s with heap := h' } := fun its r' hz h' c' kp e =>
    ⟨.ref s.heap.objs.size, _, I.laid (t' := s.toks) kp (Nat.le_refl _) (show ObjOk X.prog X.w _ h' _ (.lst ys) from ⟨hz, its, c', r', e⟩), rfl, q _ (I.hok.fresh (Nat.le_refl _))⟩
  rcases hq with hq | hq
  · obtain ⟨its, r', pl, hz⟩ := I.list hq
    have hlen := r'.length
    obtain ⟨o, ho, hc, n, hd⟩ := pl.isList
    exact call_list_seq p (.inl rfl) ho hc hd (fun h' c' kp e => fin its r' hz h' c' kp e) (by simp only [List.size_toArray] <;> omega)
  · obtain ⟨its, r', pl, hz⟩ := I.tuple hq
    have hlen := r'.length
    obtain ⟨o, ho, hc, n, hd⟩ := pl
    exact call_list_seq p (.inr rfl) ho hc hd (fun h' c' kp e => fin its r' hz h' c' kp e) (by simp only [List.size_toArray] <;> omega)
theorem call_tuple_of : CallR X (.type "tuple") (fun xs H Q => ∃ p ys, xs = [.ref p] ∧ ((SqL X.K H p ys ∧ ∀ l, H l = none → Q (.ref l) (upd H l (.tup ys))) ∨ (SqT X.K H p ys ∧ Q (.ref p) H))) := by
  intro pins s σ H xs us Q I r h
  obtain ⟨p, ys, rfl, h⟩ := h
  obtain ⟨u, rfl, rx⟩ := vals1 r
  cases rx
  rcases h with ⟨hq, q⟩ | ⟨hq, q⟩
  · obtain ⟨its, r', pl, hz⟩ := I.list hq
    have hlen := r'.length
    refine call_tuple_list pl.isList (fun h' kp => ?_) (by simp only [List.size_toArray] <;> omega)
    have I1 : Inv X pins σ H { s with heap := h' } := I.kept (t' := s.toks) kp
    have I2 : Inv X pins σ (upd H h'.objs.size (.tup ys)) { s with heap := h'.push { cls := .type "tuple", data := .seq its.toArray } } :=
      I1.laid (t' := s.toks) (fun b o e => Heap.get?_push_of_some _ e) (Nat.le_refl _) (show ObjOk X.prog X.w _ _ _ (.tup ys) from ⟨hz, its, r', IsTup.new _ _⟩)
    exact ⟨.ref h'.objs.size, _, I2, rfl, q _ (I1.hok.fresh (Nat.le_refl _))⟩
  · obtain ⟨its, r', pl, hz⟩ := I.tuple hq
    exact call_tuple_same pl ⟨.ref p, H, I, rfl, q⟩

/-! ### the call of a builtin's method: o.m(..) -/
/-- the value is of that builtin type -/
def tyV (K : PySem.W.Frag) (T : String) (x : V) (H : Hp) : Prop := match x with
  | .str _ => T = "str"
  | .int _ => T = "int"
  | .ref p => (T = "list" ∧ ∃ xs, SqL K H p xs) ∨ (T = "tuple" ∧ ∃ o, K.lookup p = some o ∧ o.cls = .type "tuple" ∧ o.dict = none) ∨
      (T = "dict" ∧ ((∃ kvs, H p = some (.dK kvs)) ∨ ∃ kvs, H p = some (.dT kvs))) ∨ (T = "set" ∧ ∃ S n, H p = some (.set S n))
  | _ => False
theorem tyV_is {pins : List (Addr × Obj)} {σ : St} {H : Hp} {s : Shared} {T : String} {x : V} {v : Value} (I : Inv X pins σ H s) (r : RelV x v) (ty : tyV X.K T x H) :
    s.TypeIs v T ∧ ∀ a, v = .ref a → ∃ ob, s.heap.get? a = some ob ∧ ob.dict = none := by
  cases x with
  | str z =>
    obtain ⟨t, rfl⟩ := r
    cases (show T = "str" from ty)
    exact ⟨typeIs_str s z t, fun _ e => nomatch e⟩
  | int i =>
    obtain ⟨t, rfl⟩ := r
    cases (show T = "int" from ty)
    exact ⟨typeIs_int s i t, fun _ e => nomatch e⟩
  | ref p =>
    cases r
    rcases ty with ⟨rfl, xs, hq⟩ | ⟨rfl, o, hk, hc, hd⟩ | ⟨rfl, hk⟩ | ⟨rfl, S, n, hk⟩
    · obtain ⟨its, _, pl, _⟩ := I.list hq
      refine ⟨pl.isList.typeIs, fun a e => ?_⟩
      cases e
      obtain ⟨o, n, e, c, hd, _⟩ := pl
      exact ⟨o, e, hd⟩
    · refine ⟨⟨o, I.kIn p o hk, hc⟩, fun a e => ?_⟩
      cases e
      exact ⟨o, I.kIn _ o hk, hd⟩
    · have z : ∃ o, s.heap.get? p = some o ∧ o.ExactDict := by
        rcases hk with ⟨kvs, hk⟩ | ⟨kvs, hk⟩
        · obtain ⟨_, _, _, _, o, _, _, e, ex, _⟩ := I.hok p _ hk
          exact ⟨o, e, ex⟩
        · obtain ⟨_, _, _, _, o, _, _, e, ex, _⟩ := I.hok p _ hk
          exact ⟨o, e, ex⟩
      obtain ⟨o, e, ex⟩ := z
      refine ⟨⟨o, e, ex.1⟩, fun a e2 => ?_⟩
      cases e2
      exact ⟨o, e, ex.2.1⟩
    · obtain ⟨o, _, _, _, e, ex, _⟩ := I.hok p _ hk
      refine ⟨⟨o, e, ex.1⟩, fun a e2 => ?_⟩
      cases e2
      exact ⟨o, e, ex.2.1⟩
  | _ => exact False.elim ty
def tBM (K : PySem.W.Frag) (T : String) (r : V → List V → Hp → VK → Prop) (to : TE) (t : TA) : TE := fun σ H Q => to σ H fun x H1 => tyV K T x H1 ∧ t σ H1 fun xs H2 => r x xs H2 Q
variable {o e : Expr} {es : List Expr} {to : TE} {t : TA} {name : Str} {apos cpos : Pos} {T id : String} {r : V → List V → Hp → VK → Prop}
theorem pe_bm (pa : PlainAttrs T) (slot : Slot T name id) (hty : typeOf (.builtin id) = pure (.type "method_descriptor")) (hm : MtR X id r) (ho : PE X o to) (ha : PA X (e :: es) t)
    (hbase : attributeBase o name X.env (eval o X.env) = eval o X.env := by rfl)
    (hfew : ((backTo cpos (starEach (e :: es) X.env)).all (fun x => !x.1) && (backToKw cpos (keywordEach [] X.env)).all (fun x => x.1.isSome)
      && decide ((e :: es).length + ([] : List Keyword).length + (if ([] : List Keyword).isEmpty then 0 else 1) < 30)) = true := by rfl)
    (hline : (apos.endLine == cpos.line) = true := by rfl) (hs : starEach (e :: es) X.env = (false, eval e X.env) :: starEach es X.env := by rfl) (hplain : (backTo cpos (starEach es X.env)).any (·.1) = false := by rfl) :
    PE X (.Call (.Attribute o name apos) (e :: es) [] cpos) (tBM X.K T r to t) := by
  intro pins s σ H Q I h
  refine wpAny_Call_method_late hbase hfew hline rfl (thn (ho pins s σ H _ I h) fun v s1 ⟨x, H1, I1, r1, ty, q1⟩ => ?_)
  obtain ⟨h1, h2⟩ := tyV_is I1 r1 ty
  refine ⟨T, id, pa, slot, hty, h1, h2, ?_⟩
  have hA := ha cpos pins s1 σ H1 _ I1 q1
  rw [hs] at hA ⊢
  refine Calls.callWith_builtin (by show (false || (backTo cpos (starEach es X.env)).any (·.1)) = false; rw [hplain] <;> rfl) (Calls.evalArgs_plain ?_)
  exact thn hA fun us s2 ⟨vs, H2, I2, r2, q2⟩ => hm pins s2 σ H2 x vs v us Q I2 r1 r2 q2
/- xs.append(e), list.index on a module's tuple .. are MtR facts of 06m -/
end
end L2

namespace L2
open PySem PySem.Spec PyProof.Rows

def MtM (X : Cx) (id : String) (r : V → List V → Hp → VK → Prop) : Prop :=
  ∀ (pins : List (Addr × Obj)) (s : Shared) (σ : St) (H : Hp) (x : V) (xs : List V) (v : Value) (us : List Value) (Q : VK), Inv X pins σ H s → RelV x v → Vals xs us → r x xs H Q →
    wpAny (model X.prog X.w) X.A (call (.builtin id) (v :: us)) (EP X pins σ Q) X.xe s

/-! ### lists of values -/
theorem Vals.one : ∀ {x : V} {us : List Value}, Vals [x] us → ∃ u, us = [u] ∧ RelV x u
  | _, _, .cons r .nil => ⟨_, rfl, r⟩

section
variable {X : Cx} {pins : List (Addr × Obj)} {σ : St} {H : Hp} {s : Shared} {l b : Addr} {xs ys zs : List V}

/-! ### the two steps: a tracked list is rewritten, a new list is laid -/
theorem Inv.lset {its its' : List Value} {n : Nat} {f : Array Value → Array Value} {t' : Nat} (I : Inv X pins σ H s) (hH : H l = some (.lst xs))
    (e : s.heap.get? l = some { cls := .type "list", data := .seq its.toArray n }) (hf : f its.toArray = its'.toArray) (hv : Vals ys its') (hz : ys.length ≤ sizeLine) :
    Inv X pins σ (upd H l (.lst ys)) { s with heap := s.heap.update l (Obj.mapSeq f), toks := t' } := by
  have q := PySem.IsL.update e f
  rw [hf] at q
  refine I.write (x := l) (e := l) (by rw [hH]; exact trivial) (.inl rfl) (fun b' u hb hu => (Heap.get?_update_other s.heap (Obj.mapSeq f) (Ne.symm hb)).trans hu) ⟨_, q⟩ ?_
  exact ⟨hz, its', _, hv, q⟩
theorem Inv.lstM (I : Inv X pins σ H s) (hH : H l = some (.lst xs)) : xs.length ≤ sizeLine ∧ ∃ (its : List Value) (n : Nat), Vals xs its ∧ xs.length = its.length ∧ s.heap.get? l = some { cls := .type "list", data := .seq its.toArray n } := by
  obtain ⟨z, its, n, r, e⟩ := I.hok l _ hH
  exact ⟨z, its, n, r, r.length, e⟩

end

section
variable {X : Cx}

/-! ### methods -/
def rAppend : V → List V → Hp → VK → Prop := fun x vs H Q => ∃ l xs y, x = .ref l ∧ vs = [y] ∧ H l = some (.lst xs) ∧ xs.length < sizeLine ∧ Q .non (upd H l (.lst (xs ++ [y])))
theorem mt_append : MtM X "list.append" rAppend := by
  intro pins s σ H x vs v us Q I rx rv h
  obtain ⟨l, xs, y, rfl, rfl, hH, hz, q⟩ := h
  cases rx
  obtain ⟨u, rfl, ru⟩ := rv.one
  obtain ⟨z, its, n, r, hl, e⟩ := I.lstM hH
  refine call_meets F.slot_list_append ⟨_, e, rfl⟩ F.entry_list_append (F.args_list_append_2 _ _) (PySem.list_append l its.toArray n u (by rw [List.size_toArray]; omega)) ⟨e, ?_⟩
  refine ⟨.non, _, I.lset (its' := its ++ [u]) hH e (by simp) (r.append (.cons ru .nil)) ?_, rfl, q⟩
  rw [List.length_append, List.length_singleton]
  omega






/-! ### list + list, list += list, list * int -/

/-! ### del xs[i] -/
end

/-! ### xs[a:b] = ys -/
section
variable {prog : Program} {w : World} {A : Around} {E : Value → Shared → Prop} {s : Shared}
end

section
variable {X : Cx}
end
end L2

namespace L2
open PySem PySem.Spec PyProof.Rows

/-! ### lists of pairs as tables -/
section
variable {κ : Type} [DecidableEq κ]



end


/-! ### a tracked dict, its keys ints and texts or tuples of these -/


section
variable {P : Program} {w : World} {H : Hp} {h : Heap} {a : Addr}
end



section
variable {X : Cx} {pins : List (Addr × Obj)} {σ : St} {H : Hp} {s : Shared} {a : Addr} {y v : V} {u r : Value} {o : Option V} {A : Around} {E : Value → Shared → Prop}


end

section
variable {X : Cx} {pins : List (Addr × Obj)} {σ : St} {H : Hp} {s : Shared} {a : Addr} {kvs : List (Key × V)} {k : Key} {u : Value} {A : Around} {E : Value → Shared → Prop}
end


/-! ### readings and rules -/



section
variable {X : Cx} {o i e value : Expr} {pos pos' tpos : Pos} {td ty tv : TE}
end


/-! ### displays -/
section
variable {X : Cx} {pos : Pos}
end




/-! ### methods -/
/-- a method call o.m(e) of a built-in, with one argument: what must be seen of the text -/
structure M1 (X : Cx) (o : Expr) (m : Str) (apos : Pos) (e : Expr) (cpos : Pos) : Prop where
  base : attributeBase o m X.env (eval o X.env) = eval o X.env
  few : ((backTo cpos (starEach [e] X.env)).all (fun x => !x.1) && (backToKw cpos (keywordEach [] X.env)).all (fun x => x.1.isSome)
    && decide (([e] : List Expr).length + ([] : List Keyword).length + (if ([] : List Keyword).isEmpty then 0 else 1) < 30)) = true
  line : (apos.endLine == cpos.line) = true
  trees : backTo cpos (starEach [e] X.env) = [(false, eval e X.env)]
structure M2 (X : Cx) (o : Expr) (m : Str) (apos : Pos) (e f : Expr) (cpos : Pos) : Prop where
  base : attributeBase o m X.env (eval o X.env) = eval o X.env
  few : ((backTo cpos (starEach [e, f] X.env)).all (fun x => !x.1) && (backToKw cpos (keywordEach [] X.env)).all (fun x => x.1.isSome)
    && decide (([e, f] : List Expr).length + ([] : List Keyword).length + (if ([] : List Keyword).isEmpty then 0 else 1) < 30)) = true
  line : (apos.endLine == cpos.line) = true
  trees : backTo cpos (starEach [e, f] X.env) = [(false, eval e X.env), (false, eval f X.env)]


section
variable {X : Cx} {pins : List (Addr × Obj)} {σ : St} {H : Hp} {s : Shared} {a : Addr} {y d : V} {u r : Value} {o : Option V} {A : Around} {E : Value → Shared → Prop}
end

section
variable {X : Cx} {o e f : Expr} {apos cpos : Pos} {td ty tx : TE}
end

/-! ### dict(d): a copy -/
section
variable {X : Cx} {pins : List (Addr × Obj)} {σ : St} {H : Hp} {s : Shared} {a : Addr} {kvs : List (Key × V)} {A : Around} {E : Value → Shared → Prop}
end


section
variable {X : Cx} {pins : List (Addr × Obj)} {σ : St} {H : Hp} {s : Shared} {a : Addr} {y : V} {u : Value} {A : Around} {E : Value → Shared → Prop}
end
end L2

namespace Att
open PySem PySem.W PySem.Calls PyProof.Rows

/-! ### the script -/
theorem ints_of_wellAll {P : Params} {h : Heap} : ∀ (ns : List Int) (vs : List Value), WellAll P h vs (ns.map WData.int) → IntsAre vs ns := by
  intro ns
  induction ns with
  | nil =>
    intro vs w
    rw [List.map_nil] at w
    cases w
    exact .nil
  | cons n ns ih =>
    intro vs w
    rw [List.map_cons] at w
    cases w with
    | cons a b =>
      cases a
      exact .cons _ _ (ih _ b)

theorem script_of {l : OpenLaw} {n : Nat} (hn : l.most = some n) {P : Params} {h : Heap} {args : List WData} {vals : List Value}
    (hpre : l.row.toRowW.claim.pre args = true) (hwl : WellAll P h vals args) :
    ∃ a vs ns, vals = [Value.ref a] ∧ args = [WData.list (ns.map WData.int)] ∧ h.get? a = some { cls := .type "list", data := .seq vs.toArray } ∧ IntsAre vs ns ∧ ns.length ≤ n := by
  have hsh : WShape.hasAll [] args [.list .int] = true := (pre_splitW hpre).1
  have hc : l.pre.holds [] { args := args } = true := (pre_splitW hpre).2
  obtain ⟨d, r, rfl, h1, h2⟩ := hasAllW_cons hsh
  obtain rfl := hasAllW_nil h2
  obtain ⟨xs, rfl, h3⟩ := hasW_list h1
  obtain ⟨ns, rfl⟩ := items_int h3
  have hlen : ns.length ≤ n := by
    unfold OpenLaw.pre at hc
    have h4 : (WTm.not (.lt (.lit (.int (n : Int))) (.len (.arg 0)))).holds [] { args := [.list (ns.map .int)] } = true := by
      have h4 := (holds_andW hc).1
      rw [hn] at h4
      exact h4
    have h5 := condW_of h4 (w_not (w_lt w_lit (w_len_list (w_arg rfl))))
    rw [List.length_map] at h5
    refine Nat.le_of_not_lt fun q => ?_
    have q' : (n : Int) < ((ns.length : Nat) : Int) := by omega
    first
      | (rw [decide_eq_true q'] at h5; exact absurd h5 (by decide))
      | (simp at h5; omega)
  cases hwl with
  | cons w1 w2 =>
    cases w2
    cases w1 with
    | list ho hall => exact ⟨_, _, ns, rfl, rfl, ho, ints_of_wellAll ns _ hall, hlen⟩

theorem post_true (l : OpenLaw) (args : List WData) : l.row.toRowW.claim.post args (.bool true) args = true :=
  postW_of (r := l.row.toRowW) (X := (true == true))
    (show WShape.has [] (.bool true) .bool = true by first | rfl | decide | simp [WShape.has, WShape.arms, WShape.armsAll])
    (show (WTm.eq .res (.lit (.bool true))).value [] { args := args, res := some (.bool true), after := args } = some (.bool (true == true)) from w_eq_bool (w_res rfl) w_lit) rfl

/-! ### the attachment: holds_open's last premise (the goal 'hc' behind k_head) from a wpAny of the law's body -/

/-- the same from a codeAny of the CALL (for a layer whose function contracts speak of calls) -/
theorem attach_call {l : OpenLaw} {n : Nat} {q : Program} {loose : List Str} {XP : (Str → Option Value) → Heap → Prop} {YP : World → Heap → Prop} {d : DefRec}
    (hn : l.most = some n) (hdf : d.params.defaults = [])
    (call : ∀ (w : World) (s₀ s₁ : Shared) (mg mb : Str → Option Value) (fa : Addr) (o : Obj) (pm cd doc : Value) (a : Addr) (vs : List Value) (ns : List Int),
      Ground q loose [] XP w s₀ mg mb s₁.heap → YP w s₁.heap →
      s₁.heap.get? fa = some o → o.data = .func (docDef d.name d.params d.body d.scope pm cd doc) → s₁.heap.CodeRec cd d.name → mg d.name = some (.ref fa) →
      s₁.heap.get? a = some { cls := .type "list", data := .seq vs.toArray } → IntsAre vs ns → ns.length ≤ n → s₁.gens = #[] →
      codeAny (model l.prog w) callerA (.call (.ref fa) ⟨[.ref a], []⟩) (fun r s' => r = .ok (.ret (.bool true)) ∧ OldK s₁.heap s'.heap ∧ s'.os = s₁.os ∧ AllBare s'.gens) s₁) :
    WalkO q loose XP YP l.row.toRowW d [] (fun f vs => PySem.call f vs) := by
  intro w s₀ s₁ mg mb G Y fa o pm cd doc dV kV ho hd hcd hD hmg hg args vals as hpre hlay hrd hwl hlo
  obtain rfl : dV = .none := Dflts.none hD hdf
  obtain rfl : kV = .none := Dflts.noKw hD
  obtain ⟨a, vs, ns, rfl, rfl, hobj, hints, hlen⟩ := script_of hn hpre hwl
  refine enter_call (codeAny_mono (call w s₀ s₁ mg mb fa o pm cd doc a vs ns G Y ho (fd_plain hd) hcd hmg hobj hints hlen hg) fun r s' hq => ?_)
  obtain ⟨rfl, h2, h3, h4⟩ := hq
  exact ⟨.inl ⟨.bool true, .bool true, [], rfl, fun _ => rfl, .bool true, post_true l _, fun _ => ⟨List.Pairwise.nil, fun _ hm => (nomatch hm)⟩⟩, h2, h3, h4⟩


/-! ### rules over ANY heap (no ledger) from facts about the written part K: the library's own take a ledger (News) for what they write -/
section
variable {prog : Program} {w : World} {A : Around} {E : Value → Shared → Prop} {s : Shared} {K : Frag}





/-! the whole heap as the ledger: makes every rule that writes through a ledger a rule over any heap -/

end
end Att

namespace L2
open PySem PySem.Spec PyProof.Rows

theorem vals_ints : ∀ {vs : List Value} {ns : List Int}, IntsAre vs ns → Vals (ns.map V.int) vs
  | _, _, .nil => .nil
  | _, _, .cons n t h => .cons ⟨t, rfl⟩ (vals_ints h)

/-- nothing is tracked but the script, known to the object (or it is an object of the module) -/
def Only (H : Hp) : Prop := ∀ b, H b = none ∨ ∃ o xs, H b = some (.frz o (.lst xs))

/-- THE HEAD: the law's promise, at the heap behind the top. F, the promise of the law's def, may use that base is part of the heap (so K.In base, base.Ns mainGlobals mg stand in Mod) -/
theorem law_call {P : Program} {w : World} {K : PySem.W.Frag} {mg mb : Str → Option Value} {CX : CXT} {k : Nat} {fa a : Addr} {fd : FuncData} {x : Str} {sp : Sp} {s₁ : Shared} {vs : List Value} {ns : List Int}
    (KX : K.In s₁.heap) (hns : s₁.heap.Ns mainGlobals mg) (hb : s₁.heap.Ns builtinsNs mb) (hbb : ∀ x : Str, x ≠ "__name__" → mb x = bootBuiltins x) (hlim : s₁.heap.NoLimit) (hg : s₁.gens = #[])
    (ha : s₁.heap.get? a = some { cls := .type "list", data := .seq vs.toArray }) (hi : IntsAre vs ns) (hl : ns.length ≤ sizeLine) (hr : Room k callerA)
    (F : ∀ base : Heap, K.In base → base.Ns mainGlobals mg → FnOk P w K mg base CX k fa fd [x] sp) (hbind : ∀ (s : Shared) (u : Value), BindsTo s fd ⟨[u], []⟩ [(x, u)])
    (hsp : ∀ H : Hp, Only H → SqL K H a (ns.map V.int) → sp [.ref a] H (fun v _ => v = .bl true) fun _ _ _ => False)
    (hCX : ∀ H e s', CX [] H s₁ (fun _ _ _ => False) e s' → False) :
    codeAny (model P w) callerA (.call (.ref fa) ⟨[.ref a], []⟩) (fun r s' => r = .ok (.ret (.bool true)) ∧ OldK s₁.heap s'.heap ∧ s'.os = s₁.os ∧ AllBare s'.gens) s₁ := by
  have rv := vals_ints hi
  have lenV := hi.length
  -- from an abstract heap in which nothing but the script may be tracked
  have core : ∀ H : Hp, Only H → SqL K H a (ns.map V.int) → HOk P w H s₁.heap → (∀ b, H b ≠ none → b = a) → (H a ≠ none → K.lookup a = none) →
      codeAny (model P w) callerA (.call (.ref fa) ⟨[.ref a], []⟩) (fun r s' => r = .ok (.ret (.bool true)) ∧ OldK s₁.heap s'.heap ∧ s'.os = s₁.os ∧ AllBare s'.gens) s₁ := by
    intro H hO hS hok hA hK
    have base_of : ∀ {b : Addr} {o : Obj}, s₁.heap.get? b = some o → H b = none → (hidT s₁.heap H).get? b = some o := fun e n => hidT_get e n
    have noA : ∀ {b : Addr} {o : Obj} {es : Array DictEntry} {ep : Nat}, s₁.heap.get? b = some o → o.data = .dict es ep → H b = none := fun {b o es ep} e d => by
      cases q : H b with
      | none => rfl
      | some u =>
        have e' : b = a := hA b (by rw [q]; simp)
        subst e'
        rw [ha] at e; cases e
        have d' : Data.seq vs.toArray _ = Data.dict es ep := d
        cases d'
    have nsK : ∀ {b : Addr} {m : Str → Option Value}, s₁.heap.Ns b m → (hidT s₁.heap H).Ns b m := fun {b m} ⟨o, es, ep, e, d, r⟩ => ⟨o, es, ep, base_of e (noA e d), d, r⟩
    have hKb : K.In (hidT s₁.heap H) := fun b o e => base_of (KX b o e) (by
      cases q : H b with
      | none => rfl
      | some u =>
        have e' : b = a := hA b (by rw [q]; simp)
        subst e'
        rw [hK (by rw [q]; simp)] at e; cases e)
    have hM : Mod K mg (hidT s₁.heap H) := ⟨hKb, nsK hns, ⟨mb, nsK hb, hbb⟩, let ⟨mc, h1, h2⟩ := hlim; ⟨mc, nsK h1, h2⟩⟩
    have e0 : Env0 P w K mg (hidT s₁.heap H) callerA [] s₁ H := ⟨rfl, hM, fun b o e => of_hidT e, Nat.le_of_eq (hidT_size _ _), trivial, fun b hb => absurd (show b ∈ ([] : List Addr) from hb) (by simp), hok, .of_eq hg⟩
    refine codeAny_mono ((F _ hKb (nsK hns)).run callerA [] s₁ H ⟨[.ref a], []⟩ [.ref a] [.ref a] _ _ hr e0 (hbind s₁ (.ref a)) (.cons rfl .nil) (hsp H hO hS)) fun r s' h => ?_
    cases r with
    | error e => exact (hCX H e s' h).elim
    | ok fl =>
      cases fl with
      | next => exact False.elim h
      | brk => exact False.elim h
      | cont => exact False.elim h
      | ret u =>
        obtain ⟨v, H', os, bare, un, hok', r', q⟩ := h
        have q' : v = .bl true := q
        subst q'
        obtain rfl : u = Value.bool true := r'
        refine ⟨rfl, OldK.of_keep fun b o e => ?_, os, bare⟩
        cases q : H b with
        | none => exact un.keep b o e q (by intro z; exact absurd (show b ∈ ([] : List Addr) from z) (by simp)) (by simp)
        | some u =>
          rcases hO b with z | ⟨ob, xs, z⟩
          · rw [q] at z; cases z
          · have z2 := un.frzs b ob _ z
            obtain ⟨e1, _⟩ := hok b _ z
            obtain ⟨e2, _⟩ := hok' b _ z2
            rw [e] at e1; cases e1
            exact e2
  cases hk : K.lookup a with
  | some o =>
    -- the script is one of the module's own objects
    have e := KX a o hk
    rw [ha] at e
    cases e
    refine core (fun _ => none) (fun _ => .inl rfl) (.inr ⟨_, vs.toArray, _, hk, rfl, rfl, rfl, by rw [List.size_toArray, lenV]; exact hl, by simpa using rv⟩) (fun b u z => by have z' : (none : Option HO) = some u := z; cases z') (fun b z => absurd rfl z) fun z => absurd rfl z
  | none =>
    refine core (fun b => if b = a then some (.frz { cls := .type "list", data := .seq vs.toArray } (.lst (ns.map V.int))) else none) (fun b => ?_) (.inl (.inr ⟨{ cls := .type "list", data := .seq vs.toArray }, if_pos rfl⟩)) (fun b u z => ?_) (fun b z => ?_) fun _ => hk
    · by_cases hb : b = a
      · exact .inr ⟨_, _, if_pos hb⟩
      · exact .inl (if_neg hb)
    · by_cases hb : b = a
      · have z' := (if_pos hb).symm.trans z
        cases z'
        subst hb
        exact ⟨ha, by rw [List.length_map]; exact hl, vs, _, rv, ha⟩
      · have z' := (if_neg hb).symm.trans z
        cases z'
    · by_cases hb : b = a
      · exact hb
      · exact absurd (if_neg hb) z
end L2

namespace L2
open PySem PySem.Spec PyProof.Rows


/-- the goal that k_head leaves (case hc), from the law's promise. F gives the function object fd (K's own) once, then the promise over every base -/
theorem walk_of {l : PySem.W.OpenLaw} {n k : Nat} {q : Program} {loose : List Str} {XP : (Str → Option Value) → Heap → Prop} {YP : World → Heap → Prop} {d : DefRec} {K : Params → PySem.W.Frag} {CX : World → CXT} {sp : World → Sp} {x : Str}
    (hn : l.most = some n) (hn2 : n ≤ sizeLine) (hdf : d.params.defaults = []) (hr : Room k callerA)
    (hY : ∀ (w : World) (h : Heap), YP w h → (K w.params).In h)
    (F : ∀ (w : World) (mg : Str → Option Value) (fa : Addr) (h : Heap), (K w.params).In h → h.Ns mainGlobals mg → mg d.name = some (.ref fa) →
      ∃ fd : FuncData, (∀ (s : Shared) (u : Value), BindsTo s fd ⟨[u], []⟩ [(x, u)]) ∧
        ∀ base : Heap, (K w.params).In base → base.Ns mainGlobals mg → FnOk l.prog w (K w.params) mg base (CX w) k fa fd [x] (sp w))
    (hsp : ∀ (w : World) (H : Hp) (a : Addr) (ns : List Int), ns.length ≤ n → Only H → SqL (K w.params) H a (ns.map V.int) → sp w [.ref a] H (fun v _ => v = .bl true) fun _ _ _ => False)
    (hCX : ∀ (w : World) (H : Hp) (s : Shared) (e : Value) (s' : Shared), CX w [] H s (fun _ _ _ => False) e s' → False) :
    PySem.W.WalkO q loose XP YP l.row.toRowW d [] (fun f vs => PySem.call f vs) := by
  refine Att.attach_call hn hdf fun w s₀ s₁ mg mb fa o pm cd doc a vs ns G Y ho hd hcd hmg hobj hints hlen hg => ?_
  have KX := hY w _ Y
  obtain ⟨fd, hb, hF⟩ := F w mg fa _ KX G.T.g hmg
  exact law_call KX G.T.g G.T.b G.T.builtins G.T.nolimit hg hobj hints (Nat.le_trans hlen hn2) hr hF hb (fun H hO hS => hsp w H a ns hlen hO hS) fun H e s' => hCX w H s₁ e s'
end L2

/- THE LAST THEOREM (shape; LID, My.* are yours):
   My.Adr: a structure of the addresses that your layer names (classes, functions); My.Txt K t: a structure (Prop) of the equations over K;
   My.txt_mk : {K} {implicit addresses ..} (e1 : nsIn K mainGlobals "law" = some (some (.ref f))) (e2 : K.lookup f = some ⟨oc, od, .func (fnOf "law" "law" params body scope dV kV doc pm an cdv ct), sl⟩) (e3 : codeIn K cdv "law" = true) .. : ∃ t, My.Txt K t

set_option maxHeartbeats 0 in
theorem PySem.Challenge.cw_LID_holds : PySem.Challenge.rw_LID.Holds := by
  w_on; o_law; k_head; (case hw => w_witness2)
  k_fill
  refine L2.walk_of (l := PySem.Challenge.rw_LID) (n := 63) (k := 40) (x := "script") (CX := fun w => ..) (sp := fun _ => My.sp_law) rfl (by decide) rfl ⟨rfl, by decide, by decide⟩ (fun w h Y => PySem.W.kIn_of Y) ?F ?S ?C
  case F =>
    intro w mg fa h KX G hmg
    have T : ∃ t, My.Txt (L2.KOf KX) t := by
      dsimp only [L2.KOf]                          -- K must stand as «<heap const> w.params» for k_is
      refine' My.txt_mk ?e1 ?e2 ?e3 ..
      (case e1 => PySem.W.k_is)                    -- in the order: a name -> its address -> its object -> its parts
      (case e2 => PySem.W.k_is)
      ..
    obtain ⟨t, T⟩ := T
    have e0 := hmg.symm.trans (PySem.W.mg_of KX G T.law)
    cases e0                                       -- fa is the law's own address
    exact ⟨_, fun s u => .of_eq rfl, fun base kb nb => My.law_fn T kb nb⟩     -- if «.of_eq rfl» comes too early: refine' ⟨_, ?b, fun base kb nb => My.law_fn T kb nb⟩; exact fun s u => .of_eq rfl
  case S => exact fun w H a ns hl hO hS => ..
  case C => exact ..
(the tactic k_is has no namespace: write k_is) -/

/-! SHORT WORDS over the layer: a def of the text, its body, what a loop and a test want. -/
namespace L2
open PySem PySem.Spec PyProof.Rows

/-! ### the text by places -/
/-- the j-th statement of a class's body -/
def inClass (s : Stmt) (j : Nat) : Stmt := match s with
  | .ClassDef _ _ _ body _ _ _ _ _ _ _ => body.getD j (.Pass ⟨0, 0, 0, 0⟩)
  | _ => .Pass ⟨0, 0, 0, 0⟩
def defArgs (s : Stmt) : Arguments := match s with
  | .FunctionDef _ a _ _ _ _ _ _ _ _ => a
  | _ => { posonlyargs := [], args := [], vararg := none, kwonlyargs := [], kw_defaults := [], kwarg := none, defaults := [] }
def defBody (s : Stmt) : List Stmt := match s with
  | .FunctionDef _ _ b _ _ _ _ _ _ _ => b
  | _ => []
def defScope (s : Stmt) : Scope := match s with
  | .FunctionDef _ _ _ _ _ _ sc _ _ _ => sc
  | _ => { kind := .function, names := [], isGenerator := false, isCoroutine := false }

/-! ### no exception leaves a def -/
abbrev CX0 : CXT := fun _ _ _ _ _ _ => False
abbrev E0 : XK := fun _ _ _ => False
theorem pass0 {X : Cx} : Passes CX0 X E0 := fun _ _ _ _ _ _ _ h => h.elim

/-! ### a def (or method) of the text as it stands behind the top -/
structure Fun (K : PySem.W.Frag) (x qual : Str) (st : Stmt) (f : Addr) (fd : FuncData) : Prop where
  ex : ∃ (oc : Value) (od : Option Addr) (kV doc pm : Value) (an : Option Addr) (cdv ct : Value) (osl : Array (Option Value)),
    fd = PySem.W.fnOf x qual (defArgs st) (defBody st) (defScope st) .none kV doc pm an cdv ct ∧ K.lookup f = some ⟨oc, od, .func fd, osl⟩ ∧ PySem.W.codeIn K cdv qual = true
  kp : PySem.W.keepIn K (.ref f) = true
section
variable {P : Program} {w : World} {K : PySem.W.Frag} {mg : Str → Option Value} {base : Heap}
/-- THE RULE for a def: its body as a term of rules, and the reading of that term -/
theorem Fun.ok {x qual : Str} {st : Stmt} {f : Addr} {fd : FuncData} {N ps : List Str} {k : Nat} {sp : Sp} (F : Fun K x qual st f fd) (S : FnScope N ps (defScope st)) (len : ∀ vs H Q E, sp vs H Q E → vs.length = ps.length)
    (hbody : ∀ (cdv : Value) (A : Around) (outer : List Env) (s : Shared) (H : Hp) (vs : List V) (Q : VK) (E : XK), Room k (A.deeper (envOfC qual (defScope st) s.heap.objs.size f cdv)) → sp vs H Q E →
      ∃ t, PSs (cxOf CX0 P w K mg base N qual (defScope st) f cdv A outer s H E).nox (defBody st) t ∧ t { nx := fun _ H' => Q .non H', rt := Q } (start N vs) H) : FnOk P w K mg base CX0 (k + 1) f fd ps sp := by
  obtain ⟨oc, od, kV, doc, pm, an, cdv, ct, osl, rfl, lk, hcd⟩ := F.ex
  refine fn_of lk hcd S len fun A outer s H vs Q E hr hsp => ?_
  obtain ⟨t, h, q⟩ := hbody cdv A outer s H vs Q E hr hsp
  exact ⟨t, h.nox, q⟩
/-- how its arguments bind (no defaults): h is «fun _ _ _ _ _ _ us hl => match us, hl with | [_, _], _ => rfl», one _ a parameter -/
theorem Fun.binds {x qual : Str} {st : Stmt} {f : Addr} {fd : FuncData} {ps : List Str} (F : Fun K x qual st f fd)
    (h : ∀ (kV doc pm : Value) (an : Option Addr) (cdv ct : Value) (us : List Value), us.length = ps.length → bindArgs (PySem.W.fnOf x qual (defArgs st) (defBody st) (defScope st) .none kV doc pm an cdv ct) ⟨us, []⟩ = pure (ps.zip us)) : Binds K fd ps [] := by
  obtain ⟨oc, od, kV, doc, pm, an, cdv, ct, osl, rfl, lk, hcd⟩ := F.ex
  exact .all (h kV doc pm an cdv ct)
theorem fun_mk {x qual : Str} {st : Stmt} {f : Addr} {oc : Value} {od an : Option Addr} {osl : Array (Option Value)} {kV doc pm cdv ct : Value} (l : K.lookup f = some ⟨oc, od, .func (PySem.W.fnOf x qual (defArgs st) (defBody st) (defScope st) .none kV doc pm an cdv ct), osl⟩)
    (c : PySem.W.codeIn K cdv qual = true) (k : PySem.W.keepIn K (.ref f) = true) : Fun K x qual st f (PySem.W.fnOf x qual (defArgs st) (defBody st) (defScope st) .none kV doc pm an cdv ct) := ⟨⟨oc, od, kV, doc, pm, an, cdv, ct, osl, rfl, l, c⟩, k⟩
end
theorem small1000 {n : Nat} (h : n ≤ 1000) : n < sizeLine := Nat.lt_of_le_of_lt h (by decide)

/-! ### expressions in short: the name that stands in the i-th slot -/
section
variable {X : Cx}
theorem pv (i : Nat) {x : Str} {pos : Pos} (hN : X.N[i]? = some x := by rfl) (hv : Vis X.env.scope x := by first | exact Or.inl rfl | exact Or.inr (Or.inl rfl) | exact Or.inr (Or.inr rfl)) (hd : (x == ("__debug__" : Str)) = false := by decide)
    (hcd : (x == ("__classdict__" : Str)) = false := by decide) : PE X (.Name x pos) (tVar i) := pe_var hN hv hd hcd
end

/-! ### tests -/
theorem iteF {A B : Prop} (h : B) : if false = true then A else B := by
  rw [if_neg Bool.false_ne_true]
  exact h
theorem iteT {A B : Prop} (h : A) : if true = true then A else B := by
  rw [if_pos rfl]
  exact h
theorem ite2 {c A B : Prop} [Decidable c] (h1 : c → A) (h2 : ¬ c → B) : if c then A else B := by
  by_cases h : c
  · rw [if_pos h]
    exact h1 h
  · rw [if_neg h]
    exact h2 h
theorem iteNS {c A B : Prop} [Decidable c] (hc : c) (h : B) : if (!decide c) = true then A else B := by
  rw [decide_eq_true hc]
  exact iteF h

/-! ### heaps -/
/-- all that was tracked is as it was -/
def Same (H H' : Hp) : Prop := ∀ b o, H b = some o → H' b = some o
theorem Same.refl (H : Hp) : Same H H := fun _ _ h => h
theorem Same.trans {H H1 H2 : Hp} (a : Same H H1) (b : Same H1 H2) : Same H H2 := fun c o h => b c o (a c o h)
theorem Same.free {H H' : Hp} (e : Same H H') {l : Addr} (h : H' l = Option.none) : H l = Option.none := by
  cases q : H l with
  | none => rfl
  | some o =>
    rw [e l o q] at h
    cases h
theorem Same.seq {K : PySem.W.Frag} {H H' : Hp} {a : Addr} {xs : List V} (e : Same H H') (h : SqL K H a xs) : SqL K H' a xs := by
  rcases h with (h | ⟨o, h⟩) | h
  · exact .inl (.inl (e _ _ h))
  · exact .inl (.inr ⟨o, e _ _ h⟩)
  · exact .inr h

/-! ### a dict's pairs: keys that differ -/
section
variable {κ : Type} [DecidableEq κ]
end
end L2

set_option maxHeartbeats 4000000
namespace L2
open PySem PySem.Spec PyProof.Rows

/-! ### comprehensions -/
/-- the context of a comprehension's block -/
def cxC (X : Cx) (scope : Scope) (cl : List (Str × Addr)) (C : Addr) (N' : List Str) (s : Shared) (H : Hp) (fp : List Addr) (E : Value → Shared → Prop) : Cx where
  prog := X.prog
  w := X.w
  K := X.K
  mg := X.mg
  base := X.base
  A := X.A
  N := N'
  s₀ := s
  H₀ := H
  env := compEnvC scope cl C X.env
  outer := X.stack
  stack := X.stack
  ex := fp
  fn := fun _ => false
  calm := X.calm
  pn := []
  xe := E

theorem forIn_cells {env : Env} (f : Str × NameKind → List (Str × Addr) → Sem (ForInStep (List (Str × Addr)))) (hf : ∀ n k cs, f (n, k) cs = if (k == NameKind.free) = true then (cellOf env n >>= fun a => pure (ForInStep.yield ((n, a) :: cs))) else pure (ForInStep.yield cs)) :
    ∀ (l : List (Str × NameKind)) (cs : List (Str × Addr)), (∀ n, (n, NameKind.free) ∈ l → ∃ c, env.cells.lookup n = some c) → (∀ n c, cs.lookup n = some c → env.cells.lookup n = some c) →
      ∃ cl, forIn l cs f = (pure cl : Sem _) ∧ (∀ n c, cl.lookup n = some c → env.cells.lookup n = some c) ∧ (∀ n, (n, NameKind.free) ∈ l → ∃ c, cl.lookup n = some c) ∧ (∀ n c, cs.lookup n = some c → ∃ c', cl.lookup n = some c')
  | [], cs, _, hc => ⟨cs, rfl, hc, fun n hn => absurd hn (by simp), fun n c e => ⟨c, e⟩⟩
  | (n, k) :: l, cs, h, hc => by
    have hl : ∀ m, (m, NameKind.free) ∈ l → ∃ c, env.cells.lookup m = some c := fun m hm => h m (List.mem_cons_of_mem _ hm)
    by_cases hk : k = .free
    · subst hk
      obtain ⟨c, ec⟩ := h n List.mem_cons_self
      have hc' : ∀ m d, ((n, c) :: cs).lookup m = some d → env.cells.lookup m = some d := fun m d e => by
        rw [List.lookup_cons] at e
        by_cases q : m == n
        · rw [q] at e
          have := beq_iff_eq.mp q
          subst this
          rw [ec]; exact e
        · rw [Bool.eq_false_iff.mpr q] at e
          exact hc m d e
      obtain ⟨cl, e1, e2, e3, e4⟩ := forIn_cells f hf l ((n, c) :: cs) hl hc'
      refine ⟨cl, ?_, e2, fun m hm => ?_, fun m d e => ?_⟩
      · rw [List.forIn_cons, hf, if_pos (show (NameKind.free == NameKind.free) = true from rfl)]
        have : cellOf env n = pure c := by unfold cellOf; rw [ec]
        rw [this]
        exact e1
      · rcases List.mem_cons.mp hm with z | z
        · cases z
          exact e4 n c (by rw [List.lookup_cons]; simp)
        · exact e3 m z
      · by_cases q : m = n
        · subst q; exact e4 m c (by rw [List.lookup_cons]; simp)
        · exact e4 m d (by rw [List.lookup_cons, beq_eq_false_iff_ne.mpr q]; exact e)
    · obtain ⟨cl, e1, e2, e3, e4⟩ := forIn_cells f hf l cs hl hc
      refine ⟨cl, ?_, e2, fun m hm => ?_, e4⟩
      · rw [List.forIn_cons, hf, if_neg (by simpa using hk)]
        exact e1
      · rcases List.mem_cons.mp hm with z | z
        · cases z; exact absurd rfl hk
        · exact e3 m z
theorem closure_of {env : Env} {scope : Scope} (h : ∀ n, (n, NameKind.free) ∈ scope.names → ∃ c, env.cells.lookup n = some c) :
    ∃ cl, closureFor scope env = pure cl ∧ (∀ n c, cl.lookup n = some c → env.cells.lookup n = some c) ∧ (∀ n, (n, NameKind.free) ∈ scope.names → ∃ c, cl.lookup n = some c) := by
  obtain ⟨cl, e1, e2, e3, _⟩ := forIn_cells (env := env) (fun x __s => match x with
    | (name, kind) => if (kind == NameKind.free) = true then (do let a ← cellOf env name; pure (ForInStep.yield ((name, a) :: __s))) else pure (ForInStep.yield __s)) (fun n k cs => rfl) scope.names [] h (fun n c e => nomatch e)
  refine ⟨cl, ?_, e2, e3⟩
  unfold closureFor
  dsimp only
  rw [e1]
  all_goals rfl

/-- the tests of a clause -/
def PIf (X : Cx) (ifs : List Expr) (t : TT) : Prop :=
  ∀ (pins : List (Addr × Obj)) (s : Shared) (σ : St) (H : Hp) (Q : Bool → Hp → Prop), Inv X pins σ H s → t σ H Q →
    wpAny (model X.prog X.w) X.A (forIn ifs true fun c r => if r = true then do let ok ← isTrue c X.env (eval c X.env); pure (ForInStep.yield ok) else pure (ForInStep.yield r)) (TP X pins σ Q) X.xe s
def tYes : TT := fun _ H Q => Q true H
theorem tYes_of {σ : St} {H : Hp} {A B : Hp → Prop} (h : A H) : tYes σ H fun b H3 => if b = true then A H3 else B H3 := by
  show if true = true then A H else B H
  rw [if_pos rfl]
  exact h
theorem pif_nil {X : Cx} : PIf X [] tYes := fun _ _ _ H _ I h => wpAny_tests_nil ⟨H, I, h⟩
theorem pif_one {X : Cx} {c : Expr} {t : TT} (h : PT X c t) : PIf X [c] t := fun pins s σ H Q I hw => wpAny_tests_one (h pins s σ H Q I hw)

theorem compLoop_any {prog : Program} {w : World} {A : Around} {R : Result → Shared → Prop} {s : Shared} {elt target iter : Expr} {ifs : List Expr} {scope : Scope} {pos : Pos} {it acc : Value} {env : Env} (I : Nat → Shared → Prop)
    (turn : ∀ n s, I n s → wpAny (model prog w) A (pyNext it) (fun r s₁ => match r with
      | none => R (.ok .next) s₁
      | some v => wpAny (model prog w) A (letOwnedTupleGo target it v) (fun _ s₁' => wpAny (model prog w) A (assign target env v) (fun _ s₂ =>
          wpAny (model prog w) A (forIn ifs true fun c r => if r = true then do let ok ← isTrue c env (eval c env); pure (ForInStep.yield ok) else pure (ForInStep.yield r)) (fun ok s₃ =>
            if ok = true then wpAny (model prog w) A (eval elt env) (fun x s₄ =>
              wpAny (model prog w) A (call (.builtin "list.append") [acc, x]) (fun _ s₅ => ∃ m, m < n ∧ I m s₅) (notedBy (model prog w) A env fun e s' => R (.error e) s') s₄) (notedBy (model prog w) A env fun e s' => R (.error e) s') s₃
            else ∃ m, m < n ∧ I m s₃) (notedBy (model prog w) A env fun e s' => R (.error e) s') s₂) (notedBy (model prog w) A env fun e s' => R (.error e) s') s₁') (notedBy (model prog w) A env fun e s' => R (.error e) s') s₁) (notedBy (model prog w) A env fun e s' => R (.error e) s') s)
    (n : Nat) (h : I n s) :
    codeAny (model prog w) A (.compLoop (.ListComp elt [⟨target, iter, ifs, 0⟩] scope pos) 0 it acc env) R s := by
  refine codeAny_loop rfl I (fun n s hI => ?_) n h
  show wpAny _ A ((compTurn (.ListComp elt [⟨target, iter, ifs, 0⟩] scope pos) 0 it acc env).onRaise (fun x => do noteFrame x env; theTreesLotGoes x)) _ _ s
  refine wpAny_noted ?_
  rw [compTurn_list]
  refine wpAny_bind (wpAny_standAt (wpAny_bind (wpAny_mono (turn n s hI) (fun r s₁ h₁ => ?_) fun _ _ h' => h')))
  cases r with
  | none => exact wpAny_pure h₁
  | some v =>
    refine wpAny_bind (wpAny_mono h₁ (fun _ s₁' h₁' => ?_) fun _ _ h' => h')
    refine wpAny_bind (wpAny_mono h₁' (fun _ s₂ h₂ => wpAny_bind (wpAny_mono h₂ (fun ok s₃ h₃ => ?_) fun _ _ h' => h')) fun _ _ h' => h')
    cases ok with
    | false => exact wpAny_pure ⟨rfl, h₃⟩
    | true =>
      exact wpAny_bind (wpAny_bind (wpAny_mono h₃ (fun x s₄ h₄ => wpAny_bind (wpAny_mono h₄ (fun _ s₅ h₅ => wpAny_pure (wpAny_pure ⟨rfl, h₅⟩)) fun _ _ h' => h')) fun _ _ h' => h'))

theorem lookup_relabel_free {env : Env} : ∀ {names : List (Str × NameKind)} {x : Str}, names.lookup x = some .free →
    (names.map fun (n, k) => if (k == NameKind.free && env.scope.kind == .function && env.kindOf n == some .cell) then (n, NameKind.cell) else (n, k)).lookup x = some .cell ∨
    (names.map fun (n, k) => if (k == NameKind.free && env.scope.kind == .function && env.kindOf n == some .cell) then (n, NameKind.cell) else (n, k)).lookup x = some .free
  | [], _, h => by simp at h
  | (n, k) :: r, x, h => by
    have ih := @lookup_relabel_free env r x
    show List.lookup x ((if (k == NameKind.free && env.scope.kind == .function && env.kindOf n == some .cell) = true then (n, NameKind.cell) else (n, k)) :: _) = _ ∨ List.lookup x ((if (k == NameKind.free && env.scope.kind == .function && env.kindOf n == some .cell) = true then (n, NameKind.cell) else (n, k)) :: _) = _
    cases hx : x == n with
    | true =>
      simp only [List.lookup_cons, hx] at h
      cases h
      split <;> simp [List.lookup_cons, hx]
    | false =>
      simp only [List.lookup_cons, hx] at h
      by_cases hc : (k == NameKind.free && env.scope.kind == .function && env.kindOf n == some .cell) = true
      · rw [if_pos hc]; simp only [List.lookup_cons, hx]; exact ih h
      · rw [if_neg hc]; simp only [List.lookup_cons, hx]; exact ih h
theorem relabel_cf {env : Env} : ∀ {names : List (Str × NameKind)} {x : Str}, (∀ y ∈ names, y.2 ≠ .cell) →
    ((names.map fun (n, k) => if (k == NameKind.free && env.scope.kind == .function && env.kindOf n == some .cell) then (n, NameKind.cell) else (n, k)).lookup x = some .cell ∨
    (names.map fun (n, k) => if (k == NameKind.free && env.scope.kind == .function && env.kindOf n == some .cell) then (n, NameKind.cell) else (n, k)).lookup x = some .free) → (x, NameKind.free) ∈ names
  | [], _, _, h => by simp at h
  | (n, k) :: r, x, hn, h => by
    have ih := @relabel_cf env r x (fun y hy => hn y (List.mem_cons_of_mem _ hy))
    have h : List.lookup x ((if (k == NameKind.free && env.scope.kind == .function && env.kindOf n == some .cell) = true then (n, NameKind.cell) else (n, k)) :: _) = _ ∨ List.lookup x ((if (k == NameKind.free && env.scope.kind == .function && env.kindOf n == some .cell) = true then (n, NameKind.cell) else (n, k)) :: _) = _ := h
    cases hx : x == n with
    | true =>
      have e := beq_iff_eq.mp hx
      subst e
      have hk : k = .free := by
        by_cases hc : (k == NameKind.free && env.scope.kind == .function && env.kindOf x == some .cell) = true
        · simp only [Bool.and_eq_true, beq_iff_eq] at hc
          exact hc.1.1
        · rw [if_neg hc] at h
          simp only [List.lookup_cons, hx] at h
          rcases h with h | h
          · exact absurd (Option.some.inj h) (hn (x, k) List.mem_cons_self)
          · exact Option.some.inj h
      subst hk
      exact List.mem_cons_self
    | false =>
      refine List.mem_cons_of_mem _ (ih ?_)
      by_cases hc : (k == NameKind.free && env.scope.kind == .function && env.kindOf n == some .cell) = true
      · rw [if_pos hc] at h; simp only [List.lookup_cons, hx] at h; exact h
      · rw [if_neg hc] at h; simp only [List.lookup_cons, hx] at h; exact h

def capN (N : List Str) (js : List Nat) : List Str := js.map fun j => N.getD j Str.empty
def capSt (σ : St) (js : List Nat) : St := js.map fun j => (σ[j]?).getD none
/-- the names that the block takes from around it -/
def capOk (N : List Str) (osc sc : Scope) (js : List Nat) : Bool :=
  js.all fun j => decide (j < N.length) && (osc.names.lookup (N.getD j Str.empty) == some .cell || osc.names.lookup (N.getD j Str.empty) == some .free) && sc.names.lookup (N.getD j Str.empty) == some .free
def scOk (osc sc : Scope) (x : Str) : Bool :=
  sc.kind == .function && sc.names.all (fun y => y.2 != .cell) && sc.names.all (fun y => y.2 != .local || sc.names.lookup y.1 == some .local) && sc.names.lookup x == some .local &&
    sc.names.all (fun y => y.2 != .free || (osc.names.lookup y.1 == some .cell || osc.names.lookup y.1 == some .free))

def LcLoop (J : It) (cap : St) (tt : TT) (te : TE) (H : Hp) (P : List V → Hp → Prop) : Prop :=
  ∃ W : Nat → Nat → List V → Hp → Prop, (∃ m, W 0 m [] H) ∧ ∀ i m ys H, W i m ys H →
    (J.stop i H ∧ ys.length ≤ sizeLine ∧ P ys H) ∨ (J.go i H ∧ ys.length < sizeLine ∧ ∃ Nx : List V → Hp → Prop, (∀ ys' H', Nx ys' H' → ∃ m', m' < m ∧ W (i + 1) m' ys' H') ∧
      ∀ x H', J.yld i H x H' → tt (some x :: cap) H' fun b H3 => if b = true then te (some x :: cap) H3 fun v H4 => Nx (ys ++ [v]) H4 else Nx ys H3)


theorem Un.track {fs ex : List Addr} {H H1 : Hp} {h h1 : Heap} {D : Addr} {o : HO} (u : Un fs ex H H1 h h1) (hp : h.objs.size ≤ D) (hn : H1 D = none) : Un fs ex H (upd H1 D o) h h1 where
  keep := u.keep
  slot := u.slot
  free := fun b ob q n hx => by rw [upd_ne (Nat.ne_of_lt (Nat.lt_of_lt_of_le (Heap.lt_size q) hp))]; exact u.free b ob q n hx
  there := u.there
  tups := fun b xs q => by have z := u.tups b xs q; rw [upd_ne (ne_of_none z hn)]; exact z
  frzs := fun b ob xs q => by have z := u.frzs b ob xs q; rw [upd_ne (ne_of_none z hn)]; exact z
  tbls := fun b ps q => by obtain ⟨more, z⟩ := u.tbls b ps q; exact ⟨more, by rw [upd_ne (ne_of_none z hn)]; exact z⟩
theorem HOk.track {P : Program} {w : World} {H : Hp} {h : Heap} {D : Addr} {o : HO} (x : HOk P w H h) (hn : H D = none) (new : ObjOk P w (upd H D o) h D o) : HOk P w (upd H D o) h := fun b u e => by
  by_cases hb : b = D
  · subst hb; rw [upd_same] at e; cases e; exact new
  · rw [upd_ne hb] at e
    exact (x b u e).stay (fun c v _ q => q) (fun c q => by rw [upd_ne (ne_of_none q hn)]; exact q) fun c xs q => by rw [upd_ne (ne_of_none q hn)]; exact q
section
variable {X : Cx} {x : Str} {px : Pos} {iter elt : Expr} {ifs : List Expr} {scope : Scope} {pos : Pos} {js : List Nat} {N : List Str} {osc : Scope} {tt : TT} {te : TE} {cl : List (Str × Addr)}

theorem comp_core {RR : Value → Addr → Result → Shared → Prop} {E : Value → Shared → Prop} {pins : List (Addr × Obj)} {σ : St} {H2 : Hp} {s2 : Shared} {it : Addr} {fp : List Addr} {tn : Nat → Heap → Prop} {J : It} {P : List V → Hp → Prop}
    (hN : X.N = N) (hsc : X.env.scope = osc) (hcap : capOk N osc scope js = true) (hs1 : scOk osc scope x = true) (hnd : (x :: capN N js).Nodup) (hc : X.calm = true)
    (hin : ∀ C s H fp E, PIf (cxC X scope cl C (x :: capN N js) s H fp E) ifs tt ∧ PE (cxC X scope cl C (x :: capN N js) s H fp E) elt te)
    (I2 : Inv X pins σ H2 s2) (T : Turn X.prog X.w X.K (.Name x px) J fp it tn) (st : tn 0 s2.heap) (f2 : ∀ b ∈ fp, FpOk X pins H2 b)
    (cl1 : ∀ n c, cl.lookup n = some c → X.env.cells.lookup n = some c) (cl2 : ∀ n, (n, NameKind.free) ∈ scope.names → ∃ c, cl.lookup n = some c)
    (h : LcLoop J (capSt σ js) tt te H2 P)
    (hRR : ∀ D C ys H' s', P ys H' → H' D = none → Inv X pins σ (upd H' D (.lst ys)) s' → (∃ m, s'.heap.Ns C m) → C ≠ X.env.locals → X.s₀.heap.objs.size ≤ C → (∀ y c, X.env.cells.lookup y = some c → c ≠ C) → (∀ p ∈ X.pn ++ pins, p.1 ≠ C) →
      (upd H' D (.lst ys)) C = none → RR (.ref D) C (.ok .next) s') :
    wpAny (model X.prog X.w) X.A (newList []) (fun acc s₃ => wpAny (model X.prog X.w) X.A (newFunctionEnv scope X.env.globals cl [] X.env.qual none .none (some X.env)) (fun cenv s₄ =>
      codeAny (model X.prog X.w) X.A (.compStart (.ListComp elt [⟨.Name x px, iter, ifs, 0⟩] scope pos) 0 (.ref it) acc { cenv with scope := relabel scope X.env }) (RR acc cenv.locals) s₄) E s₃) E s2 := by
  unfold scOk at hs1
  simp only [Bool.and_eq_true, beq_iff_eq, List.all_eq_true] at hs1
  obtain ⟨⟨⟨⟨hkind, hcell0⟩, hnames0⟩, hxl⟩, hfr0⟩ := hs1
  have hcell : ∀ y ∈ scope.names, y.2 ≠ .cell := fun y hy e => by
    have := hcell0 y hy
    rw [e] at this
    simp at this
  refine wpAny_newObj_type (wpAny_newFunctionEnv hcell (by intro y hy; simp at hy) (fun h₁ hns₁ hsb₁ => ?_) hkind)
  dsimp only at hns₁ hsb₁ ⊢
  generalize hHp : s2.heap.push { cls := .type "list", dict := none, data := .seq ([] : List Value).toArray } = Hh at hns₁ hsb₁ ⊢
  have hC : Hh.objs.size = s2.heap.objs.size + 1 := by rw [← hHp, Heap.size_push]
  generalize hD : s2.heap.objs.size = D at hC ⊢
  generalize hCC : Hh.objs.size = C at hC hns₁ hsb₁ ⊢
  have hDC : D ≠ C := by omega
  have below : ∀ b o, s2.heap.get? b = some o → b < D := fun b o e => by rw [← hD]; exact Heap.lt_size e
  have old : ∀ b o, s2.heap.get? b = some o → h₁.get? b = some o := fun b o e =>
    hsb₁.extBut b o (Nat.ne_of_lt (by rw [hC]; exact Nat.lt_succ_of_lt (below b o e))) (Heap.get?_push_of_some _ (by rw [← hHp]; exact Heap.get?_push_of_some _ e))
  have hacc : h₁.get? D = some { cls := .type "list", data := .seq ([] : List Value).toArray } :=
    hsb₁.extBut D _ hDC (Heap.get?_push_of_some _ (by rw [← hHp, ← hD]; exact Heap.get?_push_size _ rfl))
  have fpD : ∀ b ∈ fp, b < D := fun b hb => by
    obtain ⟨o, e, _⟩ := T.obj _ _ st b hb
    exact below b o e
  have ltC : ∀ b : Addr, b < D → b ≠ C := fun b hb => Nat.ne_of_lt (by rw [hC]; exact Nat.lt_succ_of_lt hb)
  have hLt : X.env.locals < D := by rw [← hD]; exact I2.lt
  have cellLt : ∀ y c, X.env.cells.lookup y = some c → c < D := fun y c e => by
    obtain ⟨v, q⟩ := I2.cell y c e
    rw [← hD]; exact q.lt
  have frLt : ∀ b, b ∈ frs X.stack → b < D := fun b hb => by
    obtain ⟨_, o, ho, _⟩ := I2.stack.mem hb
    exact below b o ho
  let E' : Value → Shared → Prop := notedBy (model X.prog X.w) X.A (compEnvC scope cl C X.env) (fun e s' => RR (.ref D) C (.error e) s')
  let X' : Cx := cxC X scope cl C (x :: capN N js) s2 H2 fp E'
  have hok : X'.Ok := {
      mod := I2.ok.mod
      kind := hkind
      glob := I2.ok.glob
      blt := I2.ok.blt
      above := by show s2.heap.objs.size ≤ C; omega
      inj := fun a b c e1 e2 => I2.ok.inj a b c (cl1 _ _ e1) (cl1 _ _ e2)
      has := fun y hy => cl2 y (relabel_cf hcell hy)
      cab := fun _ _ e => nomatch e
      hd := I2.ok.hd
      frames := I2.ok.frames
      stk := .inl rfl
      exf := fun b hb => ⟨ltC b (fpD b hb), fun y c e => (f2 b hb).2.2.2.2.1 y c (cl1 _ _ e)⟩
      bs := I2.bs
      bsz := Nat.le_trans I2.ok.bsz I2.sz
      noex := fun b o e hb => by
        rcases (f2 b hb).2.2.2.1 with z | z
        · exact I2.ok.noex b o e z
        · have := Nat.lt_of_lt_of_le (Heap.lt_size e) I2.ok.bsz
          omega
      exfs := fun b hb z => by
        rcases List.mem_cons.mp (I2.stkSub b z) with e | e
        · exact (f2 b hb).2.1 e
        · exact (f2 b hb).2.2.1 e
      funs := I2.stack
      frf := I2.stkFree }
  have hl0 : (none :: capSt σ js : St).length = X'.N.length := by
    show _ = (x :: capN N js).length
    simp [capSt, capN]
  have nC2 : H2 C = none := I2.hok.fresh (by omega)
  have nD2 : H2 D = none := I2.hok.fresh (by omega)
  have I0 : Inv X' [] (none :: capSt σ js) H2 { s2 with heap := h₁, toks := s2.toks + ([] : List (Str × Value)).length } := by
    refine ⟨hok, rfl, I2.bare, Un.kept old, ⟨_, hns₁, fun i y v h1 h2 h3 => ?_⟩, fun y c e => ?_, nC2, fun y c e => I2.freeC y c (cl1 y c e), fun p hp => absurd (show p ∈ ([] : List (Addr × Obj)) from hp) (by simp), I2.hok.kept old, hl0⟩
    · cases i with
      | zero => simp at h2
      | succ i =>
        have h1' : (capN N js)[i]? = some y := by
          have z : (x :: capN N js)[i + 1]? = some y := h1
          simpa using z
        have h2' : (capSt σ js)[i]? = some (some v) := by simpa using h2
        unfold capN at h1'
        unfold capSt at h2'
        rw [List.getElem?_map] at h1' h2'
        cases ej : js[i]? with
        | none => rw [ej] at h1'; cases h1'
        | some j =>
          rw [ej] at h1' h2'
          have e1 : N.getD j Str.empty = y := Option.some.inj h1'
          have e2 : (σ[j]?).getD none = some v := Option.some.inj h2'
          have hσ : σ[j]? = some (some v) := by
            cases q : σ[j]? with
            | none => rw [q] at e2; cases e2
            | some o => rw [q] at e2; rw [show o = some v from e2]
          have hcj := (List.all_eq_true.mp hcap) j (List.mem_of_getElem? ej)
          simp only [Bool.and_eq_true, Bool.or_eq_true, beq_iff_eq, decide_eq_true_eq] at hcj
          obtain ⟨⟨hjl, hok1⟩, hok2⟩ := hcj
          rw [e1] at hok1 hok2
          have hNj : X.N[j]? = some y := by
            rw [hN, ← e1, List.getD_eq_getElem?_getD]
            simp [hjl]
          obtain ⟨m, hm, hl⟩ := I2.loc
          have hvis : Vis X.env.scope y := by
            rw [hsc]
            rcases hok1 with z | z
            · exact .inr (.inl z)
            · exact .inr (.inr z)
          obtain ⟨u, ru, look⟩ := hl j y v hNj hσ hvis
          refine ⟨u, ru, .inr ⟨lookup_relabel_free hok2, ?_⟩⟩
          rcases look with ⟨lk, _⟩ | ⟨_, c, ec, hcl⟩
          · have lk' : X.env.scope.names.lookup y = some .local := lk
            rw [hsc] at lk'
            rcases hok1 with z | z <;> (rw [z] at lk'; cases lk')
          · obtain ⟨c', ec'⟩ := cl2 y (PySem.mem_of_lookup hok2)
            have := cl1 y c' ec'
            rw [ec] at this
            cases this
            exact ⟨c, ec', let ⟨o, ho, hd⟩ := hcl; ⟨o, old c o ho, hd⟩⟩
    · obtain ⟨v, o, ho, hd⟩ := I2.cell y c (cl1 y c e)
      exact ⟨v, o, old c o ho, hd⟩
  have DfsX : D ∉ X'.fs := fun z => absurd (frLt D z) (Nat.lt_irrefl _)
  have Dfp : D ∉ fp := fun z => absurd (fpD D z) (Nat.lt_irrefl _)
  have Dcell : ∀ y c, X'.env.cells.lookup y = some c → c ≠ D := fun y c e => Nat.ne_of_lt (cellLt y c (cl1 y c e))
  have D0 : X'.s₀.heap.objs.size ≤ D := by show s2.heap.objs.size ≤ D; omega
  have fpOk : ∀ {H : Hp} {pl : List (Addr × Obj)}, (∀ b ∈ fp, H b = none) → (∀ p ∈ pl, p.1 ∉ fp) → ∀ b ∈ fp, FpOk X' pl H b := fun {H pl} hn hp b hb => by
    refine ⟨hn b hb, ltC b (fpD b hb), fun z => ?_, .inl hb, fun y c e => (f2 b hb).2.2.2.2.1 y c (cl1 y c e), fun p q => ?_⟩
    · rcases List.mem_cons.mp (I2.stkSub b z) with e | e
      · exact (f2 b hb).2.1 e
      · exact (f2 b hb).2.2.1 e
    · intro e
      rcases List.mem_append.mp q with q | q
      · exact absurd (show p ∈ ([] : List (Addr × Obj)) from q) (by simp)
      · exact hp p q (by rw [e]; exact hb)
  have hif : PIf X' ifs tt := (hin C s2 H2 fp E').1
  have helt : PE X' elt te := (hin C s2 H2 fp E').2
  obtain ⟨W, ⟨m0, w0⟩, turn⟩ := h
  have loop : ∀ s₃ : Shared, s₃ = { s2 with heap := h₁, toks := s2.toks + ([] : List (Str × Value)).length } →
      codeAny (model X.prog X.w) X.A (.compLoop (.ListComp elt [⟨.Name x px, iter, ifs, 0⟩] scope pos) 0 (.ref it) (.ref D) (compEnvC scope cl C X.env)) (RR (.ref D) C) s₃ := by
    rintro s₃ rfl
    refine compLoop_any (fun n s' => ∃ i ys its nn H', Inv X' [] (none :: capSt σ js) H' s' ∧ tn i s'.heap ∧ (∀ b ∈ fp, H' b = none) ∧ s'.heap.get? D = some { cls := .type "list", data := .seq (its : List Value).toArray nn } ∧ H' D = none ∧ Vals ys its ∧ W i n ys H') ?_ m0
      ⟨0, [], [], 0, H2, I0, T.keep _ _ _ st fun b _ o e => old b o e, fun b hb => (f2 b hb).1, hacc, nD2, .nil, w0⟩
    rintro n s3 ⟨i, ys, its, nn, H3, I3, st3, fr3, hD3, nD3, rv, w3⟩
    have hlen : ys.length = its.length := rv.length
    let ob : Obj := { cls := .type "list", data := .seq its.toArray nn }
    have nocell : ∀ v, ob.data ≠ .cell v := fun v z => nomatch z
    have I3p : Inv X' [(D, ob)] (none :: capSt σ js) H3 s3 := I3.pins_of fun p hp => by
      have e : p = (D, ob) := by simpa using hp
      subst e
      exact ⟨hD3, nD3, hDC, DfsX, nocell⟩
    have pfp : ∀ p ∈ [(D, ob)], p.1 ∉ fp := fun p hp => by
      have e : p = (D, ob) := by simpa using hp
      subst e
      exact Dfp
    rcases turn i n ys H3 w3 with ⟨stop, hz, q⟩ | ⟨go, hz, Nx, hNx, step⟩
    · refine wpAny_mono (T.done X' rfl rfl rfl hc i [(D, ob)] s3 _ H3 E' I3p (fpOk fr3 pfp) st3 stop) (fun r s4 ⟨hr, I4⟩ => ?_) fun _ _ e => e
      subst hr
      have hD4 : s4.heap.get? D = some ob := (I4.pin (D, ob) (by simp)).1
      have un : Un (frs X.stack) fp H2 H3 s2.heap s4.heap := I4.base
      obtain ⟨m, hm, _⟩ := I4.loc
      have nC3 : H3 C = none := I4.free
      refine hRR D C ys H3 s4 q nD3 ?_ ⟨m, hm⟩ (Ne.symm (ltC _ hLt)) (by have := I2.sz; omega) (fun y c e => ltC c (cellLt y c e)) (fun p hp => ?_) (by rw [upd_ne hDC.symm]; exact nC3)
      · refine I2.call' I4.os (un.track (by omega) nD3) (I4.hok.track nD3 ⟨hz, its, nn, rv, hD4⟩) I4.bare fun b hb => ?_
        obtain ⟨_, a2, _, a4, a5, a6⟩ := f2 b hb
        exact ⟨a4, a2, a5, a6⟩
      · exact ltC _ (below _ _ (I2.pin p hp).1)
    · refine wpAny_mono (T.item X' rfl rfl rfl hc i [(D, ob)] s3 _ H3 E' I3p (fpOk fr3 pfp) st3 go) (fun r s4 ⟨u, hr, h4⟩ => ?_) fun _ _ e => e
      subst hr
      refine wpAny_mono h4 (fun _ s5 ⟨xv, H5, I5, r5, y5, st5, fr5⟩ => ?_) fun _ _ e => e
      have I5' := I5.pinned (fpOk fr5 pfp) (T.obj _ _ st5)
      refine wpAny_assign_Name (store_ok (X := X') (i := 0) (x := x) I5' hnd rfl (.inl (lookup_relabel_local hxl)) r5 (fun s6 I6 => ?_) (.inr (lookup_relabel_local hxl)))
      -- behind the element or the test: the next turn
      have next : ∀ {s7 : Shared} {H7 : Hp}, Inv X' ([(D, ob)] ++ pinsAt fp s5.heap) (some xv :: capSt σ js) H7 s7 →
          Inv X' [] (none :: capSt σ js) H7 s7 ∧ tn (i + 1) s7.heap ∧ (∀ b ∈ fp, H7 b = none) ∧ s7.heap.get? D = some ob ∧ H7 D = none := fun {s7 H7} I7 => by
        have pD := I7.pin (D, ob) (List.mem_append_right _ (List.mem_append_left _ (by simp)))
        refine ⟨(I7.weak (σ' := none :: capSt σ js) (by simp) fun j v e => ?_).pins_of (fun p hp => nomatch hp), T.keep _ _ _ st5 fun b hb o e => (I7.pin (b, o) (List.mem_append_right _ (List.mem_append_right _ (mem_pinsAt hb e)))).1, fun b hb => ?_, pD.1, pD.2.1⟩
        · cases j with
          | zero => simp at e
          | succ j => simpa using e
        · obtain ⟨o, e, d⟩ := T.obj _ _ st5 b hb
          exact (I7.pin (b, o) (List.mem_append_right _ (List.mem_append_right _ (mem_pinsAt hb e)))).2.1
      refine wpAny_mono (hif _ s6 _ H5 _ I6 (step xv H5 y5)) (fun b s7 ⟨H7, I7, q7⟩ => ?_) fun _ _ e => e
      cases b with
      | false =>
        rw [if_neg Bool.false_ne_true] at q7 ⊢
        obtain ⟨m', hm, w7⟩ := hNx ys H7 q7
        obtain ⟨a1, a2, a3, a4, a5⟩ := next I7
        exact ⟨m', hm, i + 1, ys, its, nn, H7, a1, a2, a3, a4, a5, rv, w7⟩
      | true =>
        rw [if_pos rfl] at q7 ⊢
        refine wpAny_mono (helt _ s7 _ H7 _ I7 q7) (fun uv s8 ⟨v, H8, I8, r8, q8⟩ => ?_) fun _ _ e => e
        obtain ⟨m', hm, w8⟩ := hNx _ H8 q8
        obtain ⟨a1, a2, a3, a4, a5⟩ := next I8
        refine call_meets F.slot_list_append ⟨_, a4, rfl⟩ F.entry_list_append (F.args_list_append_2 _ _) (PySem.list_append D its.toArray nn uv (by rw [List.size_toArray]; omega)) ⟨a4, ?_⟩
        have q := PySem.IsL.update a4 (·.push uv)
        have e2 : its.toArray.push uv = (its ++ [uv]).toArray := by simp
        rw [e2] at q
        have kk : ∀ b o, b ≠ D → s8.heap.get? b = some o → (s8.heap.update D (Obj.mapSeq (·.push uv))).get? b = some o := fun b o hb e => (Heap.get?_update_other s8.heap _ (Ne.symm hb)).trans e
        refine ⟨m', hm, i + 1, ys ++ [v], its ++ [uv], _, H8, a1.turned (t' := s8.toks) kk a5 hDC (.inr D0) Dcell (fun p hp => ?_), T.keep _ _ _ a2 fun b hb o e => kk b o (fun z => Dfp (z ▸ hb)) e, a3, q, a5, rv.append (.cons r8 .nil), w8⟩
        · exact absurd (show p ∈ ([] : List (Addr × Obj)) from hp) (by simp)
  exact codeAny_compStart_list (loop _ rfl) (T.self X.A 0 _ _ _ (T.keep _ _ _ st fun b _ o e => old b o e) (loop _ rfl))

/-- [elt for x in iter if ..]: js, the slots of the names that the block takes from around it -/
def tLC (wi : TI) (js : List Nat) (tt : TT) (te : TE) : TE := fun σ H Q => wi σ H fun J H1 => LcLoop J (capSt σ js) tt te H1 fun ys H2 => ∀ D, H2 D = none → Q (.ref D) (upd H2 D (.lst ys))
theorem frees_of (hs1 : scOk osc scope x = true) (hsc : X.env.scope = osc) {pins : List (Addr × Obj)} {σ : St} {H : Hp} {s : Shared} (I : Inv X pins σ H s) : ∀ n, (n, NameKind.free) ∈ scope.names → ∃ c, X.env.cells.lookup n = some c := fun n hn => by
  unfold scOk at hs1
  simp only [Bool.and_eq_true, beq_iff_eq, List.all_eq_true] at hs1
  have h := hs1.2 _ hn
  simp only [bne_self_eq_false, Bool.false_or, Bool.or_eq_true, beq_iff_eq] at h
  refine I.ok.has n ?_
  show X.env.scope.names.lookup n = _ ∨ X.env.scope.names.lookup n = _
  rw [hsc]; exact h
theorem scOk.kind (hs1 : scOk osc scope x = true) : scope.kind = .function := by
  unfold scOk at hs1
  simp only [Bool.and_eq_true, beq_iff_eq, List.all_eq_true] at hs1
  exact hs1.1.1.1.1
theorem scOk.names (hs1 : scOk osc scope x = true) : ∀ y ∈ scope.names, y.2 = .local → scope.names.lookup y.1 = some .local := fun y hy e => by
  unfold scOk at hs1
  simp only [Bool.and_eq_true, beq_iff_eq, List.all_eq_true] at hs1
  have := hs1.1.1.2 y hy
  rw [e] at this
  simpa using this
theorem pe_lc {wi : TI} {ps : List Str} (_S : FnScope N ps osc) (js : List Nat) (hi : PI X (.Name x px) iter wi)
    (hin : ∀ cl C s H fp E, PIf (cxC X scope cl C (x :: capN N js) s H fp E) ifs tt ∧ PE (cxC X scope cl C (x :: capN N js) s H fp E) elt te)
    (hN : X.N = N := by rfl) (hsc : X.env.scope = osc := by rfl) (hcap : capOk N osc scope js = true := by decide +kernel) (hs1 : scOk osc scope x = true := by decide +kernel) (hnd : (x :: capN N js).Nodup := by decide +kernel) (hc : X.calm = true := by rfl)
    (hs : ∀ v, foldedSetIterable iter X.env v = pure v := by intro _; rfl) :
    PE X (.ListComp elt [⟨.Name x px, iter, ifs, 0⟩] scope pos) (tLC wi js tt te) := by
  intro pins s σ H Q I h
  obtain ⟨cl, hcl, cl1, cl2⟩ := closure_of (frees_of hs1 hsc I)
  rw [eval_ListComp]
  refine wpAny_comprehension_free (use := none) rfl hs hcl (scOk.kind hs1) (scOk.names hs1) (thn (hi pins s σ H _ I h) fun v s1 h1 => thn h1 fun itv s2 h2 => ?_)
  obtain ⟨it, fp, tn, J, H2, e, I2, T, st2, f2, lp⟩ := h2
  subst e
  refine comp_core (RR := fun acc C => compPost (model X.prog X.w) X.A X.xe none (EP X pins σ Q) acc C) hN hsc hcap hs1 hnd hc (hin cl) I2 T st2 f2 cl1 cl2 lp ?_
  intro D C ys H' s' q nD I' hm hL h0 hce hpi hfree
  refine ⟨hm.choose, hm.choose_spec, fun h' hs' => ⟨.ref D, _, I'.turned (t' := s'.toks) (fun b o hb e => hs'.extBut b o hb e) hfree hL (.inr h0) hce hpi, rfl, q D nD⟩⟩
/-- y = [elt for x in iter if ..], the one-line way -/
theorem ps_lc {wi : TI} {y : Str} {py spos : Pos} {i : Nat} {ps : List Str} (_S : FnScope N ps osc) (js : List Nat) (hn : X.N.Nodup) (hi' : X.N[i]? = some y) (hy : X.env.scope.names.lookup y = some .local) (hi : PI X (.Name x px) iter wi)
    (hin : ∀ cl C s H fp E, PIf (cxC X scope cl C (x :: capN N js) s H fp E) ifs tt ∧ PE (cxC X scope cl C (x :: capN N js) s H fp E) elt te)
    (hN : X.N = N := by rfl) (hsc : X.env.scope = osc := by rfl) (hcap : capOk N osc scope js = true := by decide +kernel) (hs1 : scOk osc scope x = true := by decide +kernel) (hnd : (x :: capN N js).Nodup := by decide +kernel) (hc : X.calm = true := by rfl)
    (hs : ∀ v, foldedSetIterable iter X.env v = pure v := by intro _; rfl)
    (hsw : swapsWith (.ListComp elt [⟨.Name x px, iter, ifs, 0⟩] scope pos) (some (.Name y py)) spos.line X.env = pure true := by rfl) :
    PS X (.Assign [.Name y py] (.ListComp elt [⟨.Name x px, iter, ifs, 0⟩] scope pos) spos) (tAsg (tLC wi js tt te) (gName i)) := by
  intro pins s σ H Dn I h
  obtain ⟨cl, hcl, cl1, cl2⟩ := closure_of (frees_of hs1 hsc I)
  rw [exec_Assign_Name_used _ _ _ _ hsw]
  refine wpAny_bind (wpAny_standAt (wpAny_bind ?_))
  show wpAny _ X.A (do let _ ← comprehension (.ListComp elt [⟨.Name x px, iter, ifs, 0⟩] scope pos) scope X.env _ (newList []) false (eval iter X.env) (some (assign (.Name y py) X.env))) _ _ s
  refine wpAny_bind (wpAny_mono (wpAny_comprehension_free (use := some (assign (.Name y py) X.env)) (Q := fun _ s' => SP X pins Dn .next s') rfl hs hcl (scOk.kind hs1) (scOk.names hs1)
    (thn (hi pins s σ H _ I h) fun v s1 h1 => thn h1 fun itv s2 h2 => ?_)) (fun _ s' hq => wpAny_pure (wpAny_pure hq)) fun _ _ e => e)
  obtain ⟨it, fp, tn, J, H2, e, I2, T, st2, f2, lp⟩ := h2
  subst e
  refine comp_core (RR := fun acc C => compPost (model X.prog X.w) X.A X.xe (some (assign (.Name y py) X.env)) (fun _ s' => SP X pins Dn .next s') acc C) hN hsc hcap hs1 hnd hc (hin cl) I2 T st2 f2 cl1 cl2 lp ?_
  intro D C ys H' s' q nD I' hm hL h0 hce hpi hfree
  show wpAny _ X.A (assign (.Name y py) X.env (.ref D)) _ _ _
  refine wpAny_assign_Name (store_ok2 (v := .ref D) I' hn hi' (.inl hy) rfl (fun s'' I'' hch => ?_) (.inr hy))
  obtain ⟨m, hm⟩ := hm
  obtain ⟨a, sb, ha⟩ := hch
  have hCa : C ≠ a := by
    rcases ha with z | z
    · rw [z]; exact hL
    · exact fun e => hce _ _ z e.symm
  exact ⟨m, hm.sameBut sb hCa, fun h' hs' => ⟨_, _, I''.turned (t' := s''.toks) (fun b o hb e => hs'.extBut b o hb e) hfree hL (.inr h0) hce hpi, q D nD⟩⟩
end
end L2

namespace L2
open PySem PySem.Spec PyProof.Rows

/-! ### isinstance -/
section
variable {X : Cx}
/-- a class as a value -/
inductive ClV : V → Value → Prop where
  | ty (n : String) : ClV (.ty n) (.type n)
  | ref (a : Addr) : ClV (.ref a) (.ref a)
theorem ClV.rel {c : V} {cv u : Value} (h : ClV c cv) (r : RelV c u) : u = cv := by
  cases h with
  | ty n => exact r
  | ref a => exact r
theorem call_isinst : CallR X (.builtin "isinstance") (fun xs H Q => ∃ x c t cv b, xs = [x, c] ∧ ClV c cv ∧ TyOf X.K H x t ∧ PySem.W.kitOne X.K t cv = some b ∧ Q (.bl b) H) := by
  intro pins s σ H xs us Q I r h
  obtain ⟨x, c, t, cv, b, rfl, hc, ht, he, q⟩ := h
  cases r with
  | cons r1 r' =>
    cases r' with
    | cons r2 r'' =>
      cases r''
      obtain rfl := hc.rel r2
      exact isinst_ok I r1 ht he fun tk => ⟨.bl b, H, I.tok tk, rfl, q⟩
end

/-! ### == and != of lists and tuples, by what they stand for -/
/-- what == of two values says, at every heap that H describes -/
def EqD (X : Cx) (H : Hp) (d : Nat) (x y : V) (b : Bool) : Prop :=
  ∀ (A : Around) (s : Shared) (pins : List (Addr × Obj)) (σ : St) (u v : Value), Inv X pins σ H s → A.units + d < cLine → RelV x u → RelV y v → SeqAt.EqAt A s u v b
def RcD (X : Cx) (H : Hp) (d : Nat) (x y : V) (b : Bool) : Prop :=
  ∀ (A : Around) (s : Shared) (pins : List (Addr × Obj)) (σ : St) (u v : Value), Inv X pins σ H s → A.units + d < cLine → RelV x u → RelV y v → SeqAt.RcAt A s u v b ∧ SeqAt.RcNeAt A s u v (!b)
/-- R reads data off a value; two values are equal just if their data are -/
structure EqR (X : Cx) (H : Hp) (d : Nat) {α : Type} [DecidableEq α] (R : V → α → Prop) : Prop where
  eq : ∀ x y a b, R x a → R y b → EqD X H d x y (decide (a = b))
  rc : ∀ x y a b, R x a → R y b → RcD X H d x y (decide (a = b))
  one : ∀ x a b, R x a → R x b → (∃ pins σ s, Inv X pins σ H s) → a = b
section
variable {X : Cx} {H : Hp} {d : Nat}
def isI : V → Int → Prop := fun v i => v = .int i
def isB : V → Bool → Prop := fun v i => v = .bl i
theorem EqR.int : EqR X H d isI := ⟨fun x y a b ha hb A s pins σ u v I hu ru rv => by
    cases ha; cases hb
    obtain ⟨t, rfl⟩ := ru
    obtain ⟨t', rfl⟩ := rv
    rw [show decide (a = b) = (a == b) from rfl]
    exact SeqAt.EqAt.int_int a t b t', fun x y a b ha hb A s pins σ u v I hu ru rv => by
    cases ha; cases hb
    obtain ⟨t, rfl⟩ := ru
    obtain ⟨t', rfl⟩ := rv
    rw [show decide (a = b) = (a == b) from rfl]
    exact ⟨SeqAt.RcAt.int_int a t b t', SeqAt.RcNeAt.int_int a t b t'⟩, fun x a b ha hb _ => by cases ha; cases hb; rfl⟩
theorem EqR.bl : EqR X H d isB := ⟨fun x y a b ha hb A s pins σ u v I hu ru rv => by
    cases ha; cases hb
    cases ru; cases rv
    rw [show decide (a = b) = (a == b) by cases a <;> cases b <;> rfl]
    exact SeqAt.EqAt.bool_bool a b, fun x y a b ha hb A s pins σ u v I hu ru rv => by
    cases ha; cases hb
    cases ru; cases rv
    rw [show decide (a = b) = (a == b) by cases a <;> cases b <;> rfl]
    exact ⟨SeqAt.RcAt.bool_bool a b, SeqAt.RcNeAt.bool_bool a b⟩, fun x a b ha hb _ => by cases ha; cases hb; rfl⟩
variable {α : Type} [DecidableEq α] {R : V → α → Prop}
/-- a tuple, a list of what R reads -/
def isT (K : PySem.W.Frag) (H : Hp) (R : V → α → Prop) : V → List α → Prop := fun v as => ∃ a xs, v = .ref a ∧ SqT K H a xs ∧ Paired R xs as
def isL (K : PySem.W.Frag) (H : Hp) (R : V → α → Prop) : V → List α → Prop := fun v as => ∃ a xs, v = .ref a ∧ SqL K H a xs ∧ Paired R xs as
theorem Paired.get {β γ : Type} {F : β → γ → Prop} : ∀ {xs : List β} {ys : List γ} {i : Nat} {x : β}, Paired F xs ys → xs[i]? = some x → ∃ y, ys[i]? = some y ∧ F x y
  | _, _, _, _, .nil, e => by simp at e
  | _, _, 0, _, .cons r _, e => by simp at e; subst e; exact ⟨_, rfl, r⟩
  | _, _, i + 1, x, .cons _ t, e => by
    obtain ⟨u, h1, h2⟩ := Paired.get (i := i) (x := x) t (by simpa using e)
    exact ⟨u, by simpa using h1, h2⟩
theorem paired_one {X : Cx} {H : Hp} {d : Nat} (h : EqR X H d R) (I : ∃ pins σ s, Inv X pins σ H s) : ∀ {xs : List V} {as bs : List α}, Paired R xs as → Paired R xs bs → as = bs
  | _, _, _, .nil, .nil => rfl
  | _, _, _, .cons r t, .cons r' t' => by rw [h.one _ _ _ r r' I, paired_one h I t t']
theorem all_range_eq {as bs : List α} (hl : as.length = bs.length) : (List.range as.length).all (fun j => decide (as[j]? = bs[j]?)) = decide (as = bs) := by
  rw [Bool.eq_iff_iff, List.all_eq_true, decide_eq_true_iff]
  constructor
  · intro h
    apply List.ext_getElem? 
    intro j
    by_cases hj : j < as.length
    · exact of_decide_eq_true (h j (List.mem_range.mpr hj))
    · rw [List.getElem?_eq_none_iff.mpr (by omega), List.getElem?_eq_none_iff.mpr (by omega)]
  · intro h j _
    rw [h]; simp
theorem EqR.tup (h : EqR X H d R) : EqR X H (d + 1) (isT X.K H R) := by
  have rc : ∀ x y a b, isT X.K H R x a → isT X.K H R y b → RcD X H (d + 1) x y (decide (a = b)) := by
    rintro x y as bs ⟨a, xs, rfl, hx, pa⟩ ⟨b, ys, rfl, hy, pb⟩ A s pins σ u v I hu ru rv
    cases ru; cases rv
    obtain ⟨its, r1, t1, _⟩ := I.tuple hx
    obtain ⟨jts, r2, t2, _⟩ := I.tuple hy
    have l1 := r1.length
    have l2 := r2.length
    have l3 := pa.length
    have l4 := pb.length
    have hu1 : A.units < cLine := by omega
    have he : ∀ j (h1 : j < its.toArray.size) (h2 : j < jts.toArray.size), SeqAt.EqAt A.in1 s its.toArray[j] jts.toArray[j] (decide (as[j]? = bs[j]?)) := fun j h1 h2 => by
      simp only [List.size_toArray] at h1 h2
      obtain ⟨xv, ex⟩ : ∃ xv, xs[j]? = some xv := ⟨xs[j]'(by omega), List.getElem?_eq_getElem (by omega)⟩
      obtain ⟨yv, ey⟩ : ∃ yv, ys[j]? = some yv := ⟨ys[j]'(by omega), List.getElem?_eq_getElem (by omega)⟩
      obtain ⟨u1, q1, w1⟩ := r1.get ex
      obtain ⟨u2, q2, w2⟩ := r2.get ey
      obtain ⟨a1, p1, z1⟩ := Paired.get pa ex
      obtain ⟨a2, p2, z2⟩ := Paired.get pb ey
      have g1 : its.toArray[j]'(by simpa using h1) = u1 := by
        have := List.getElem?_eq_some_iff.mp q1
        simpa using this.2
      have g2 : jts.toArray[j]'(by simpa using h2) = u2 := by
        have := List.getElem?_eq_some_iff.mp q2
        simpa using this.2
      rw [g1, g2, p1, p2]
      have := h.eq xv yv a1 a2 z1 z2 A.in1 s pins σ u1 u2 I (by show A.units + 1 + d < cLine; omega) w1 w2
      rw [show decide (some a1 = some a2) = decide (a1 = a2) by simp]
      exact this
    have hb : ((List.range (min its.toArray.size jts.toArray.size)).all (fun j => decide (as[j]? = bs[j]?)) && its.toArray.size == jts.toArray.size) = decide (as = bs) := by
      simp only [List.size_toArray]
      by_cases hl : as.length = bs.length
      · have e1 : its.length = jts.length := by omega
        have e2 : min its.length jts.length = as.length := by omega
        rw [e2, all_range_eq hl, e1]; simp
      · have : (its.length == jts.length) = false := by simp; omega
        rw [this, Bool.and_false]
        exact (decide_eq_false fun e => hl (by rw [e])).symm
    have z1 := SeqAt.RcAt.tuples (A := A) (s := s) t1 t2 hu1 he
    have z2 := SeqAt.RcNeAt.tuples (A := A) (s := s) t1 t2 hu1 he
    rw [hb] at z1 z2
    exact ⟨z1, z2⟩
  refine ⟨?_, rc, ?_⟩
  · rintro x y as bs hx hy A s pins σ u v I hu ru rv
    obtain ⟨a, xs, rfl, hx', pa⟩ := id hx
    obtain ⟨b, ys, rfl, hy', pb⟩ := id hy
    cases ru; cases rv
    by_cases e : a = b
    · subst e
      have : xs = ys := I.tuple_inj hx' hy'
      subst this
      rw [paired_one h ⟨pins, σ, s, I⟩ pa pb, decide_eq_true rfl]
      exact SeqAt.EqAt.same _
    · exact SeqAt.EqAt.of_refs e (rc _ _ as bs hx hy A s pins σ _ _ I hu rfl rfl).1
  · rintro x as bs ⟨a, xs, rfl, hx, pa⟩ ⟨b, ys, e, hy, pb⟩ ⟨pins, σ, s, I⟩
    cases e
    have : xs = ys := I.tuple_inj hx hy
    subst this
    exact paired_one h ⟨pins, σ, s, I⟩ pa pb
theorem EqR.lst (h : EqR X H d R) : EqR X H (d + 1) (isL X.K H R) := by
  have rc : ∀ x y a b, isL X.K H R x a → isL X.K H R y b → RcD X H (d + 1) x y (decide (a = b)) := by
    rintro x y as bs ⟨a, xs, rfl, hx, pa⟩ ⟨b, ys, rfl, hy, pb⟩ A s pins σ u v I hu ru rv
    cases ru; cases rv
    obtain ⟨its, r1, t1, _⟩ := I.list hx
    obtain ⟨jts, r2, t2, _⟩ := I.list hy
    have l1 := r1.length
    have l2 := r2.length
    have l3 := pa.length
    have l4 := pb.length
    have hu1 : A.units < cLine := by omega
    by_cases hl : as.length = bs.length
    · have he : ∀ j (h1 : j < its.toArray.size) (h2 : j < jts.toArray.size), SeqAt.EqAt A.in1 s its.toArray[j] jts.toArray[j] (decide (as[j]? = bs[j]?)) := fun j h1 h2 => by
        simp only [List.size_toArray] at h1 h2
        obtain ⟨xv, ex⟩ : ∃ xv, xs[j]? = some xv := ⟨xs[j]'(by omega), List.getElem?_eq_getElem (by omega)⟩
        obtain ⟨yv, ey⟩ : ∃ yv, ys[j]? = some yv := ⟨ys[j]'(by omega), List.getElem?_eq_getElem (by omega)⟩
        obtain ⟨u1, q1, w1⟩ := r1.get ex
        obtain ⟨u2, q2, w2⟩ := r2.get ey
        obtain ⟨a1, p1, z1⟩ := Paired.get pa ex
        obtain ⟨a2, p2, z2⟩ := Paired.get pb ey
        have g1 : its.toArray[j]'(by simpa using h1) = u1 := by
          have := List.getElem?_eq_some_iff.mp q1
          simpa using this.2
        have g2 : jts.toArray[j]'(by simpa using h2) = u2 := by
          have := List.getElem?_eq_some_iff.mp q2
          simpa using this.2
        rw [g1, g2, p1, p2]
        have := h.eq xv yv a1 a2 z1 z2 A.in1 s pins σ u1 u2 I (by show A.units + 1 + d < cLine; omega) w1 w2
        rw [show decide (some a1 = some a2) = decide (a1 = a2) by simp]
        exact this
      have hsz : its.toArray.size = jts.toArray.size := by simp; omega
      have hb : (List.range its.toArray.size).all (fun j => decide (as[j]? = bs[j]?)) = decide (as = bs) := by
        simp only [List.size_toArray]
        rw [show its.length = as.length by omega, all_range_eq hl]
      have z1 := SeqAt.RcAt.lists (A := A) (s := s) t1.isList t2.isList hsz hu1 he
      have z2 := SeqAt.RcNeAt.lists (A := A) (s := s) t1.isList t2.isList hsz hu1 he
      rw [hb] at z1 z2
      exact ⟨z1, z2⟩
    · have hsz : (its.toArray.size != jts.toArray.size) = true := by simp; omega
      rw [decide_eq_false fun e => hl (by rw [e])]
      exact ⟨SeqAt.RcAt.lists_lengths t1.isList t2.isList hsz hu1, SeqAt.RcNeAt.lists_lengths t1.isList t2.isList hsz hu1⟩
  refine ⟨?_, rc, ?_⟩
  · rintro x y as bs hx hy A s pins σ u v I hu ru rv
    obtain ⟨a, xs, rfl, hx', pa⟩ := id hx
    obtain ⟨b, ys, rfl, hy', pb⟩ := id hy
    cases ru; cases rv
    by_cases e : a = b
    · subst e
      have : xs = ys := I.list_inj hx' hy'
      subst this
      rw [paired_one h ⟨pins, σ, s, I⟩ pa pb, decide_eq_true rfl]
      exact SeqAt.EqAt.same _
    · exact SeqAt.EqAt.of_refs e (rc _ _ as bs hx hy A s pins σ _ _ I hu rfl rfl).1
  · rintro x as bs ⟨a, xs, rfl, hx, pa⟩ ⟨b, ys, e, hy, pb⟩ ⟨pins, σ, s, I⟩
    cases e
    have : xs = ys := I.list_inj hx hy
    subst this
    exact paired_one h ⟨pins, σ, s, I⟩ pa pb
/-- x == y, x != y -/
def rEqD (X : Cx) : R2 := fun x y H Q => ∃ b, RcD X H 20 x y b ∧ Q (.bl b) H
def rNeD (X : Cx) : R2 := fun x y H Q => ∃ b, RcD X H 20 x y b ∧ Q (.bl (!b)) H
theorem op_eqD (hu : X.A.units + 20 < cLine) : OpR X (compareOp .Eq) (rEqD X) := by
  intro pins s σ H x y v u Q I rx ry h
  obtain ⟨b, hb, q⟩ := h
  exact (hb X.A s pins σ v u I hu rx ry).1 X.prog X.w X.xe _ ⟨.bl b, H, I, rfl, q⟩
theorem op_neD (hu : X.A.units + 20 < cLine) : OpR X (compareOp .NotEq) (rNeD X) := by
  intro pins s σ H x y v u Q I rx ry h
  obtain ⟨b, hb, q⟩ := h
  exact (hb X.A s pins σ v u I hu rx ry).2 X.prog X.w X.xe _ ⟨.bl (!b), H, I, rfl, q⟩
open Classical in
open Classical in
end
end L2

namespace L2
open PySem PySem.Spec PyProof.Rows
section
variable {X : Cx} {pins : List (Addr × Obj)} {σ : St} {H : Hp} {s : Shared} {h' : Heap}
/-- several untracked records of ours have turned -/
theorem Inv.turnedL {t' : Nat} {ch : List Addr} (I : Inv X pins σ H s) (k : ∀ b o, b ∉ ch → s.heap.get? b = some o → h'.get? b = some o) (hf : ∀ b ∈ ch, FpOk X pins H b) : Inv X pins σ H { s with heap := h', toks := t' } := by
  have nit : ∀ b u, H b = some u → b ∉ ch := fun b u e z => by rw [(hf b z).1] at e; cases e
  refine I.step (g' := s.gens) (d' := s.drawn) (ch := ch) (fun b hb => ?_) (fun b o _ _ hc e _ => k b o hc e) (fun b o _ _ hc e _ => ⟨o.slots, k b o hc e⟩) (fun _ _ _ _ n => n)
    (fun b o hc e => ⟨o, k b o hc e⟩) (fun _ _ e => e) (fun _ _ _ e => e) (fun b ps e => ⟨#[], by rw [e]; simp⟩) (fun m hm => ?_) (fun b u e => ?_) I.bare
  · obtain ⟨_, a2, _, a4, a5, a6⟩ := hf b hb
    exact ⟨a4, a2, a5, a6⟩
  · obtain ⟨o, es, ep, ho, r⟩ := hm
    exact ⟨o, es, ep, k _ o (fun z => (hf _ z).2.1 rfl) ho, r⟩
  · refine (I.hok b u e).stay (fun c v hc q => k c v ?_ q) (fun _ q => q) fun _ _ q => q
    rcases hc with z | z
    · rw [z]; exact nit b u e
    · exact nit c _ z
/-- an object of ours that stood untracked is tracked from now on -/
theorem Inv.track {a : Addr} {o : HO} {t' : Nat} (I : Inv X pins σ H s) (hf : FpOk X pins H a) (new : ObjOk X.prog X.w (upd H a o) s.heap a o) : Inv X pins σ (upd H a o) { s with toks := t' } := by
  have hn := hf.1
  refine I.step (h' := s.heap) (g' := s.gens) (d' := s.drawn) (ch := [a]) (fun b hb => ?_) (fun b o _ _ _ e _ => e) (fun b o _ _ _ e _ => ⟨o.slots, e⟩) (fun b ob hc e n => ?_)
    (fun b o _ e => ⟨o, e⟩) (fun b xs e => by rw [upd_ne (ne_of_none e hn)]; exact e) (fun b ob u e => by rw [upd_ne (ne_of_none e hn)]; exact e) (fun b ps e => ⟨#[], by rw [upd_ne (ne_of_none e hn), e]; simp⟩) (fun m hm => hm) (I.hok.track hn new) I.bare
  · have e : b = a := by simpa using hb
    subst e
    obtain ⟨_, a2, _, a4, a5, a6⟩ := hf
    exact ⟨a4, a2, a5, a6⟩
  · rw [upd_ne (fun z => hc (by simp [z]))]; exact n
end

/-! ### for a, b in zip(l, m) of two lists -/
def Itz (K : PySem.W.Frag) (l1 l2 : Addr) : It :=
  ⟨fun i H => ∃ xs ys x y, SqL K H l1 xs ∧ SqL K H l2 ys ∧ xs[i]? = some x ∧ ys[i]? = some y,
   fun i H v H' => ∃ T x y, v = .ref T ∧ H T = none ∧ H' = upd H T (.tup [x, y]) ∧ (∀ xs, SqL K H l1 xs → xs[i]? = some x) ∧ (∀ ys, SqL K H l2 ys → ys[i]? = some y),
   fun i H => ∃ xs ys, SqL K H l1 xs ∧ SqL K H l2 ys ∧ (xs.length ≤ i ∨ ys.length ≤ i)⟩
theorem turn_zip {P : Program} {w : World} {K : PySem.W.Frag} {es : List Expr} {k : Nat} {pos : Pos} {z TI TO i1 i2 l1 l2 : Addr} (D : ZipApart z TI TO i1 i2 l1 l2) :
    Turn P w K (.Tuple es k pos) (Itz K l1 l2) [z, TI, TO, i1, i2] z (fun i h => IsZip h z TI TO .none ∧ IsPair h TI (.ref i1) (.ref i2) ∧ (∃ a b, IsPair h TO a b) ∧ h.IsListIter i1 l1 i ∧ h.IsListIter i2 l2 i) where
  mem := by simp
  obj := fun i h st b hb => by
    obtain ⟨hz, hTI, ⟨a', b', hTO⟩, ⟨o1, e1, c1, d1⟩, ⟨o2, e2, c2, d2⟩⟩ := st
    simp only [List.mem_cons, List.not_mem_nil, or_false] at hb
    rcases hb with rfl | rfl | rfl | rfl | rfl
    · exact ⟨_, hz, fun v z => nomatch z⟩
    · exact ⟨_, hTI, fun v z => nomatch z⟩
    · exact ⟨_, hTO, fun v z => nomatch z⟩
    · exact ⟨o1, e1, fun v z => by rw [d1] at z; cases z⟩
    · exact ⟨o2, e2, fun v z => by rw [d2] at z; cases z⟩
  keep := fun i h h' st kk => by
    obtain ⟨hz, hTI, ⟨a', b', hTO⟩, h1, h2⟩ := st
    exact ⟨kk z (by simp) _ hz, kk TI (by simp) _ hTI, ⟨a', b', kk TO (by simp) _ hTO⟩, h1.at fun o e => kk i1 (by simp) o e, h2.at fun o e => kk i2 (by simp) o e⟩
  item := by
    intro X hP hw hK hc i pins s σ H E I hf st hg
    subst hP hw hK
    obtain ⟨xs, ys, x, y, hq1, hq2, hx, hy⟩ := hg
    obtain ⟨its, rv, p1, _⟩ := I.list hq1
    obtain ⟨jts, rw', p2, _⟩ := I.list hq2
    obtain ⟨u1, hu1, ru1⟩ := rv.get hx
    obtain ⟨u2, hu2, ru2⟩ := rw'.get hy
    obtain ⟨hz, hTI, ⟨a, b, hTO⟩, h1, h2⟩ := st
    refine wpAny_pyNext_zip_item D hz hTI hTO h1 h2 p1.isList p2.isList (x := u1) (y := u2) (by simpa using hu1) (by simpa using hu2) fun h' a1 a2 a3 a4 a5 a6 hk => ?_
    refine ⟨_, rfl, wpAny_letOwnedTupleGo_zip a1 fun h'' hz'' hs'' => ?_⟩
    have hne : ∀ c, c ∈ [z, TI, TO, i1, i2] → s.heap.objs.size ≠ c := fun c hc => by
      have : ∃ o, s.heap.get? c = some o := by
        simp only [List.mem_cons, List.not_mem_nil, or_false] at hc
        obtain ⟨o1, e1, _⟩ := id h1
        obtain ⟨o2, e2, _⟩ := id h2
        rcases hc with rfl | rfl | rfl | rfl | rfl
        · exact ⟨_, hz⟩
        · exact ⟨_, hTI⟩
        · exact ⟨_, hTO⟩
        · exact ⟨_, e1⟩
        · exact ⟨_, e2⟩
      obtain ⟨o, e⟩ := this
      exact Nat.ne_of_gt (Heap.lt_size e)
    have I1 : Inv X pins σ H { s with heap := h'' } := I.turnedL (t' := s.toks) (ch := [z, TI, TO, i1, i2]) (fun c o hc e => hs''.extBut _ _ (fun q => hc (by simp [q])) (hk c o (fun q => hc (by simp [q])) (fun q => hc (by simp [q])) (fun q => hc (by simp [q])) (fun q => hc (by simp [q])) e)) hf
    have hT : h''.get? s.heap.objs.size = some { cls := .type "tuple", data := .seq #[u1, u2] } := hs''.extBut _ _ (hne z (by simp)) a5
    have I2 : Inv X pins σ (upd H s.heap.objs.size (.tup [x, y])) { s with heap := h'' } := I1.track (t' := s.toks) (I.fpOk (Nat.le_refl _) (I.hok.fresh (Nat.le_refl _))) ⟨by show 2 ≤ sizeLine; decide, [u1, u2], .cons ru1 (.cons ru2 .nil), ⟨_, hT, rfl, _, rfl⟩⟩
    refine ⟨.ref s.heap.objs.size, _, I2, rfl, ⟨_, x, y, rfl, I.hok.fresh (Nat.le_refl _), rfl, fun xs' h => by rw [I.list_inj h hq1]; exact hx, fun ys' h => by rw [I.list_inj h hq2]; exact hy⟩, ⟨hz'', hs''.extBut _ _ D.TIz (hk _ _ D.TIz D.TITO D.TIi1 D.TIi2 hTI), ⟨_, _, hs''.extBut _ _ D.TOz a2⟩, a3.extBut hs''.extBut D.i1z, a4.extBut hs''.extBut D.i2z⟩, fun c hc => ?_⟩
    rw [upd_ne (Ne.symm (hne c hc))]
    exact (hf c hc).1
  done := by
    intro X hP hw hK hc i pins s σ H E I hf st hg
    subst hP hw hK
    obtain ⟨xs, ys, hq1, hq2, hx⟩ := hg
    obtain ⟨its, rv, p1, _⟩ := I.list hq1
    obtain ⟨jts, rw', p2, _⟩ := I.list hq2
    obtain ⟨hz, hTI, ⟨a, b, hTO⟩, h1, h2⟩ := st
    have l1 := rv.length
    have l2 := rw'.length
    refine wpAny_pyNext_zip_end (I.ok.hd hc) D hz hTI hTO h1 h2 p1.isList p2.isList ?_ fun h' hk => ⟨rfl, ?_⟩
    · rcases hx with z | z
      · exact .inl (by simp; omega)
      · exact .inr (by simp; omega)
    · exact I.turnedL (t' := s.toks) (ch := [z, TI, TO, i1, i2]) (fun c o hc e => hk c o (fun q => hc (by simp [q])) (fun q => hc (by simp [q])) (fun q => hc (by simp [q])) (fun q => hc (by simp [q])) e) hf
  self := fun _ _ _ _ _ st h => wpAny_pyIter_zip st.1 h
def iZip (K : PySem.W.Frag) (ta : TA) : TI := fun σ H R => ta σ H fun vs H1 => ∃ l1 l2 xs ys, vs = [.ref l1, .ref l2] ∧ SqL K H1 l1 xs ∧ SqL K H1 l2 ys ∧ R (Itz K l1 l2) H1
theorem pi_zip {X : Cx} {a b : Expr} {ta : TA} {p pos : Pos} {es : List Expr} {k : Nat} {pt : Pos} (hg : Gl X "zip") (hm : X.mg "zip" = none) (ha : PA X [a, b] ta)
    (hs : starEach [a, b] X.env = [(false, eval a X.env), (false, eval b X.env)] := by rfl) (hs2 : starEach [b] X.env = [(false, eval b X.env)] := by rfl) (hv : bootBuiltins "zip" = some (.type "zip") := by decide +kernel) :
    PI X (.Tuple es k pt) (.Call (.Name "zip" p) [a, b] [] pos) (iZip X.K ta) := by
  intro pins s σ H R I h
  refine Call_ (ld_blt I hg hm hv (PyProof.Rows.callWith_type1 (thn (ha pos pins s σ H _ I h) fun us s1 ⟨vs, H1, I1, r1, q1⟩ => ?_) (by rw [hs, hs2]) (by rw [hs2]; rfl)))
  obtain ⟨l1, l2, xs, ys, e, hq1, hq2, q⟩ := q1
  subst e
  cases r1 with
  | cons r rr =>
    cases rr with
    | cons r' rr =>
      cases rr
      cases r
      cases r'
      obtain ⟨its, rv, p1, _⟩ := I1.list hq1
      obtain ⟨jts, rw', p2, _⟩ := I1.list hq2
      have lt1 : l1 < s1.heap.objs.size := by obtain ⟨o, n, e, _⟩ := p1; exact Heap.lt_size e
      have lt2 : l2 < s1.heap.objs.size := by obtain ⟨o, n, e, _⟩ := p2; exact Heap.lt_size e
      refine call_zip_2 p1.isList p2.isList fun h' hz hTI hTO hi1 hi2 hsz hk => wpAny_pyIter_zip hz ?_
      refine ⟨_, [_, _, _, _, _], _, Itz X.K l1 l2, H1, rfl, I1.kept (t' := s1.toks) hk, turn_zip (zipApart_new lt1 lt2), ⟨hz, hTI, ⟨_, _, hTO⟩, hi1, hi2⟩, fun b hb => ?_, q⟩
      have hb' : s1.heap.objs.size ≤ b := by
        simp only [List.mem_cons, List.not_mem_nil, or_false] at hb
        rcases hb with rfl | rfl | rfl | rfl | rfl <;> omega
      exact I1.fpOk hb' (I1.hok.fresh hb')
theorem for_zip {K : PySem.W.Frag} {l1 l2 : Addr} {xs ys : List V} {g : TG} {tb : TS} {D : Ends} {σ : St} {H : Hp} (hlen : xs.length = ys.length) (Pv : Nat → St → Hp → Prop) (h0 : Pv 0 σ H) (hl : ∀ i σ H, i ≤ xs.length → Pv i σ H → SqL K H l1 xs ∧ SqL K H l2 ys)
    (hs : ∀ i x y T σ H, xs[i]? = some x → ys[i]? = some y → H T = none → Pv i σ H → g (.ref T) σ (upd H T (.tup [x, y])) fun σ2 H2 => tb { D with nx := Pv (i + 1), ct := Pv (i + 1), bk := D.nx } σ2 H2) (hd : ∀ σ H, Pv xs.length σ H → D.nx σ H) :
    ∃ W : Nat → Nat → St → Hp → Prop, (∃ m, W 0 m σ H) ∧ ∀ i m σ H, W i m σ H →
      ((Itz K l1 l2).stop i H ∧ D.nx σ H) ∨ ((Itz K l1 l2).go i H ∧ ∃ N : St → Hp → Prop, (∀ σ' H', N σ' H' → ∃ m', m' < m ∧ W (i + 1) m' σ' H') ∧ ∀ x H', (Itz K l1 l2).yld i H x H' → g x σ H' fun σ2 H2 => tb { D with nx := N, ct := N, bk := D.nx } σ2 H2) := by
  refine ⟨fun i m σ H => m = xs.length - i ∧ i ≤ xs.length ∧ Pv i σ H, ⟨xs.length, by simp, Nat.zero_le _, h0⟩, ?_⟩
  rintro i m σ H ⟨rfl, hi, p⟩
  obtain ⟨q1, q2⟩ := hl i σ H hi p
  by_cases hlt : i < xs.length
  · refine .inr ⟨⟨xs, ys, xs[i], ys[i], q1, q2, by simp [hlt], by simp [← hlen, hlt]⟩, Pv (i + 1), fun σ' H' p' => ⟨xs.length - (i + 1), by omega, rfl, hlt, p'⟩, fun x H' y => ?_⟩
    obtain ⟨T, a, b, e1, hn, e2, ya, yb⟩ := y
    subst e1 e2
    exact hs i a b T σ _ (ya xs q1) (yb ys q2) hn p
  · have e : i = xs.length := by omega
    subst e
    exact .inl ⟨⟨xs, ys, q1, q2, .inl (Nat.le_refl _)⟩, hd σ H p⟩

/-! ### the comprehension's forms -/
theorem lc_range {lo : Int} {n : Nat} {cap : St} {tt : TT} {te : TE} {H : Hp} {P : List V → Hp → Prop} (Pv : Nat → List V → Hp → Prop) (h0 : Pv 0 [] H) (hn : n < sizeLine) (hb : ∀ i ys H, Pv i ys H → ys.length ≤ i)
    (hs : ∀ i ys H, i < n → Pv i ys H → tt (some (.int (lo + i)) :: cap) H fun b H3 => if b = true then te (some (.int (lo + i)) :: cap) H3 fun v H4 => Pv (i + 1) (ys ++ [v]) H4 else Pv (i + 1) ys H3) (hd : ∀ ys H, Pv n ys H → P ys H) :
    LcLoop (Itr lo n) cap tt te H P := by
  refine ⟨fun i m ys H => m = n - i ∧ i ≤ n ∧ Pv i ys H, ⟨n, by simp, Nat.zero_le _, h0⟩, ?_⟩
  rintro i m ys H ⟨rfl, hi, p⟩
  have hl := hb i ys H p
  by_cases hlt : i < n
  · refine .inr ⟨hlt, by omega, Pv (i + 1), fun σ' H' p' => ⟨n - (i + 1), by omega, rfl, hlt, p'⟩, fun x H' y => ?_⟩
    obtain ⟨e, y⟩ := y
    subst e y
    exact hs i ys _ hlt p
  · have e : i = n := by omega
    subst e
    exact .inl ⟨Nat.le_refl _, by omega, hd ys H p⟩
theorem lc_list {K : PySem.W.Frag} {a : Addr} {xs : List V} {cap : St} {tt : TT} {te : TE} {H : Hp} {P : List V → Hp → Prop} (Pv : Nat → List V → Hp → Prop) (h0 : Pv 0 [] H) (hn : xs.length < sizeLine) (hb : ∀ i ys H, Pv i ys H → ys.length ≤ i) (hl : ∀ i ys H, i ≤ xs.length → Pv i ys H → SqL K H a xs)
    (hs : ∀ i x ys H, xs[i]? = some x → Pv i ys H → tt (some x :: cap) H fun b H3 => if b = true then te (some x :: cap) H3 fun v H4 => Pv (i + 1) (ys ++ [v]) H4 else Pv (i + 1) ys H3) (hd : ∀ ys H, Pv xs.length ys H → P ys H) :
    LcLoop (Itl K a) cap tt te H P := by
  refine ⟨fun i m ys H => m = xs.length - i ∧ i ≤ xs.length ∧ Pv i ys H, ⟨xs.length, by simp, Nat.zero_le _, h0⟩, ?_⟩
  rintro i m ys H ⟨rfl, hi, p⟩
  have hyl := hb i ys H p
  have q := hl i ys H hi p
  by_cases hlt : i < xs.length
  · refine .inr ⟨⟨xs, xs[i], q, by simp [hlt]⟩, by omega, Pv (i + 1), fun σ' H' p' => ⟨xs.length - (i + 1), by omega, rfl, hlt, p'⟩, fun x H' y => ?_⟩
    obtain ⟨e, y⟩ := y
    subst e
    exact hs i x ys _ (y xs q) p
  · have e : i = xs.length := by omega
    subst e
    exact .inl ⟨⟨xs, q, Nat.le_refl _⟩, by omega, hd ys H p⟩
theorem lc_tup {K : PySem.W.Frag} {a : Addr} {xs : List V} {cap : St} {tt : TT} {te : TE} {H : Hp} {P : List V → Hp → Prop} (Pv : Nat → List V → Hp → Prop) (h0 : Pv 0 [] H) (hn : xs.length < sizeLine) (hb : ∀ i ys H, Pv i ys H → ys.length ≤ i) (hl : ∀ i ys H, i ≤ xs.length → Pv i ys H → SqT K H a xs)
    (hs : ∀ i x ys H, xs[i]? = some x → Pv i ys H → tt (some x :: cap) H fun b H3 => if b = true then te (some x :: cap) H3 fun v H4 => Pv (i + 1) (ys ++ [v]) H4 else Pv (i + 1) ys H3) (hd : ∀ ys H, Pv xs.length ys H → P ys H) :
    LcLoop (Itt K a) cap tt te H P := by
  refine ⟨fun i m ys H => m = xs.length - i ∧ i ≤ xs.length ∧ Pv i ys H, ⟨xs.length, by simp, Nat.zero_le _, h0⟩, ?_⟩
  rintro i m ys H ⟨rfl, hi, p⟩
  have hyl := hb i ys H p
  have q := hl i ys H hi p
  by_cases hlt : i < xs.length
  · refine .inr ⟨⟨xs, xs[i], q, by simp [hlt]⟩, by omega, Pv (i + 1), fun σ' H' p' => ⟨xs.length - (i + 1), by omega, rfl, hlt, p'⟩, fun x H' y => ?_⟩
    obtain ⟨e, y⟩ := y
    subst e
    exact hs i x ys _ (y xs q) p
  · have e : i = xs.length := by omega
    subst e
    exact .inl ⟨⟨xs, q, Nat.le_refl _⟩, by omega, hd ys H p⟩

/-! ### defs, methods, classes in one piece -/
section
variable (P : Program) (w : World) (K : PySem.W.Frag) (mg : Str → Option Value) (base : Heap) (k : Nat)
def FnB (x : Str) (ps : List Str) (sp : Sp) : Prop := ∃ f fd, FnOk P w K mg base CX0 k f fd ps sp ∧ mg x = some (.ref f) ∧ PySem.W.keepIn K (.ref f) = true ∧ Binds K fd ps []
def MeB (C : Addr) (m : Str) (ps : List Str) (sp : Sp) : Prop := ∃ f fd, FnOk P w K mg base CX0 k f fd ps sp ∧ Meth K C m f ∧ Binds K fd ps [] ∧ Cls K C
def MkB (x : Str) (C : Addr) (ps : List Str) (sp : Sp) : Prop := ∃ f fd, FnOk P w K mg base CX0 k f fd ps sp ∧ mg x = some (.ref C) ∧ Mk K C f ∧ Binds K fd ps []
end
section
variable {X : Cx} {k : Nat} {x m : Str} {C : Addr} {ps : List Str} {sp : Sp} {p pos apos : Pos} {e o : Expr} {es : List Expr} {ta : TE} {t : TA}
theorem pe_fn (F : FnB X.prog X.w X.K X.mg X.base k x ps sp) (hr : Room k X.A) (ha : PA X (e :: es) t) (hg : Gl X x := by rfl) (hdb : (x == ("__debug__" : Str)) = false := by decide) (he : starEach (e :: es) X.env = (false, eval e X.env) :: starEach es X.env := by rfl) (hpl : (backTo pos (starEach es X.env)).any (·.1) = false := by rfl) :
    PE X (.Call (.Name x p) (e :: es) [] pos) (tCall sp [] E0 t) := by
  obtain ⟨f, fd, F, hm, hk, hb⟩ := F
  exact pe_call F hr hg hm hk hb .nil pass0 ha hdb he hpl
theorem pe_me {pl : Sem Bool} (M : MeB X.prog X.w X.K X.mg X.base k C m ps sp) (he : PE X o ta) (hr : Room k X.A) (ha : PA X (e :: es) t)
    (hst : starEach (e :: es) X.env = (false, eval e X.env) :: starEach es X.env := by rfl) (hpl : (backTo pos (starEach es X.env)).any (·.1) = false := by rfl)
    (ht : eval (.Call (.Attribute o m apos) (e :: es) [] pos) X.env = (do
      let ov ← eval o X.env
      standAt apos.atName
      let (f, first) ← holding [ov] (getMethod ov m pl)
      callWith pos f first (backTo pos (starEach (e :: es) X.env)) (backToKw pos (keywordEach [] X.env))) := by rfl) :
    PE X (.Call (.Attribute o m apos) (e :: es) [] pos) (tMeth C m sp [] E0 ta t) := by
  obtain ⟨f, fd, F, hm, hb, hc⟩ := M
  exact pe_meth he hc hm F hr hb .nil pass0 ha hst hpl ht
theorem pe_me0 {pl : Sem Bool} (M : MeB X.prog X.w X.K X.mg X.base k C m ps sp) (he : PE X o ta) (hr : Room k X.A)
    (ht : eval (.Call (.Attribute o m apos) [] [] pos) X.env = (do
      let ov ← eval o X.env
      standAt apos.atName
      let (f, first) ← holding [ov] (getMethod ov m pl)
      callWith pos f first (backTo pos (starEach [] X.env)) (backToKw pos (keywordEach [] X.env))) := by rfl) :
    PE X (.Call (.Attribute o m apos) [] [] pos) (tMeth C m sp [] E0 ta tNil) := by
  obtain ⟨f, fd, F, hm, hb, hc⟩ := M
  exact pe_meth0 he hc hm F hr hb .nil pass0 ht
theorem pe_mk (M : MkB X.prog X.w X.K X.mg X.base k x C ps sp) (hr : Room (k + 1) X.A) (ha : PA X (e :: es) t) (hg : Gl X x := by rfl) (hdb : (x == ("__debug__" : Str)) = false := by decide) (he : starEach (e :: es) X.env = (false, eval e X.env) :: starEach es X.env := by rfl) (hpl : (backTo pos (starEach es X.env)).any (·.1) = false := by rfl) :
    PE X (.Call (.Name x p) (e :: es) [] pos) (tMake C sp [] E0 t) := by
  obtain ⟨f, fd, F, hm, hM, hb⟩ := M
  exact pe_make hM F hr hg hm hb .nil pass0 ha hdb he hpl
end
theorem Room.u20 {k : Nat} {A : Around} (r : Room k A) : A.units + 20 < cLine := by have := r.un; omega
theorem Same.new {H : Hp} {a : Addr} {o : HO} (h : H a = none) : Same H (upd H a o) := fun b u e => by rw [upd_ne (ne_of_none e h)]; exact e
theorem Same.lay {H H' : Hp} {a : Addr} {o : HO} (s : Same H H') (h : H' a = none) : Same H (upd H' a o) := s.trans (Same.new h)
/-- an object that was not there is changed -/
theorem Same.put {H H' : Hp} {a : Addr} {o : HO} (s : Same H H') (h : H a = none) : Same H (upd H' a o) := fun b u e => by rw [upd_ne (ne_of_none e h)]; exact s b u e

end L2

namespace L2
open PySem PySem.Spec PyProof.Rows
section
variable {X : Cx} {k : Nat} {x m : Str} {ps : List Str} {sp : Sp} {p pos apos : Pos} {e o : Expr} {es : List Expr} {ta : TE} {t : TA}
/-- o.m(..) of an instance of one of several classes -/
def tMethU (S : Addr → Prop) (m : Str) (sp : Sp) (ta : TE) (t : TA) : TE := fun σ H Q => ta σ H fun x H1 => ∃ C a dx fs, S C ∧ x = .ref a ∧ H1 a = some (.ins C dx fs) ∧ fs.lookup m = none ∧
  t σ H1 fun vs H2 => sp (x :: (vs ++ [])) H2 Q E0
theorem pe_meU {pl : Sem Bool} {S : Addr → Prop} (M : ∀ C, S C → MeB X.prog X.w X.K X.mg X.base k C m ps sp) (he : PE X o ta) (hr : Room k X.A) (ha : PA X (e :: es) t)
    (hst : starEach (e :: es) X.env = (false, eval e X.env) :: starEach es X.env := by rfl) (hpl : (backTo pos (starEach es X.env)).any (·.1) = false := by rfl)
    (ht : eval (.Call (.Attribute o m apos) (e :: es) [] pos) X.env = (do
      let ov ← eval o X.env
      standAt apos.atName
      let (f, first) ← holding [ov] (getMethod ov m pl)
      callWith pos f first (backTo pos (starEach (e :: es) X.env)) (backToKw pos (keywordEach [] X.env))) := by rfl) :
    PE X (.Call (.Attribute o m apos) (e :: es) [] pos) (tMethU S m sp ta t) := by
  intro pins s σ H Q I h
  refine PySem.W.methodCall_KW (pl := pl) (thn (he pins s σ H _ I h) fun u s1 ⟨x, H1, I1, rx, C, a, dx, fs, hS, ex, ea, l, q⟩ => ?_) ht
  subst ex
  obtain rfl : u = Value.ref a := rx
  obtain ⟨f, fd, F, hm, hb, c⟩ := M C hS
  refine getmeth_ok I1 ea c hm l ?_
  refine PySem.W.callWith_K (first := [.ref a]) (h₀ := X.base) I.ok.mod.kin hm.kp (thn (ha pos pins s1 σ H1 _ I1 q) fun us s2 ⟨vs, H2, I2, r, q2⟩ => ⟨I2.kIn, ?_⟩) hst hpl
  exact run_fn (us := .ref a :: us) (vs := .ref a :: vs) F hr hb .nil pass0 I2 (.cons rfl r) q2
end
/-! ### texts -/
section
variable {X : Cx}
open Builtin Builtin.Str in
end

theorem for_rangeN {n : Nat} {g : TG} {tb : TS} {D : Ends} {σ : St} {H : Hp} (Pv : Nat → St → Hp → Prop) (h0 : Pv 0 σ H)
    (hs : ∀ (i : Nat) σ H, i < n → Pv i σ H → g (.int (i : Int)) σ H fun σ2 H2 => tb { D with nx := Pv (i + 1), ct := Pv (i + 1), bk := D.nx } σ2 H2) (hd : ∀ σ H, Pv n σ H → D.nx σ H) :
    ∃ W : Nat → Nat → St → Hp → Prop, (∃ m, W 0 m σ H) ∧ ∀ i m σ H, W i m σ H →
      ((Itr 0 n).stop i H ∧ D.nx σ H) ∨ ((Itr 0 n).go i H ∧ ∃ N : St → Hp → Prop, (∀ σ' H', N σ' H' → ∃ m', m' < m ∧ W (i + 1) m' σ' H') ∧ ∀ x H', (Itr 0 n).yld i H x H' → g x σ H' fun σ2 H2 => tb { D with nx := N, ct := N, bk := D.nx } σ2 H2) :=
  for_range (lo := 0) (n := n) Pv h0 (fun i σ H hi p => by rw [Int.zero_add]; exact hs i σ H hi p) hd
theorem lc_rangeN {n : Nat} {cap : St} {tt : TT} {te : TE} {H : Hp} {P : List V → Hp → Prop} (Pv : Nat → List V → Hp → Prop) (h0 : Pv 0 [] H) (hn : n < sizeLine) (hb : ∀ i ys H, Pv i ys H → ys.length ≤ i)
    (hs : ∀ (i : Nat) ys H, i < n → Pv i ys H → tt (some (.int (i : Int)) :: cap) H fun b H3 => if b = true then te (some (.int (i : Int)) :: cap) H3 fun v H4 => Pv (i + 1) (ys ++ [v]) H4 else Pv (i + 1) ys H3) (hd : ∀ ys H, Pv n ys H → P ys H) :
    LcLoop (Itr 0 n) cap tt te H P := lc_range (lo := 0) (n := n) Pv h0 hn hb (fun i ys H hi p => by rw [Int.zero_add]; exact hs i ys H hi p) hd
section
variable {X : Cx} {a e : Expr} {ta te : TE} {apos cpos : Pos}
/-- xs.append(e), xs.extend(e) -/
theorem pe_append (ha : PE X a ta) (he : PE X e te) (hbase : attributeBase a "append" X.env (eval a X.env) = eval a X.env := by rfl)
    (hfew : ((backTo cpos (starEach [e] X.env)).all (fun x => !x.1) && (backToKw cpos (keywordEach [] X.env)).all (fun x => x.1.isSome)
      && decide (([e] : List Expr).length + ([] : List Keyword).length + (if ([] : List Keyword).isEmpty then 0 else 1) < 30)) = true := by rfl)
    (hline : (apos.endLine == cpos.line) = true := by rfl) (hs : starEach [e] X.env = (false, eval e X.env) :: starEach [] X.env := by rfl) (hplain : (backTo cpos (starEach [] X.env)).any (·.1) = false := by rfl) :
    PE X (.Call (.Attribute a "append" apos) [e] [] cpos) (tBM X.K "list" rAppend ta (tCons te tNil)) :=
  pe_bm PySem.F.plainAttrs_list PySem.F.slot_list_append PySem.F.type_list_append mt_append ha (pa_cons he pa_nil hs) hbase hfew hline hs hplain
end
end L2

namespace L2
open PySem PySem.Spec PyProof.Rows
section
variable {X : Cx}
/-- a list of written ints -/
def intsOf : List Expr → Option (List Int)
  | [] => some []
  | .Constant (.int i) _ _ :: es => (intsOf es).map (i :: ·)
  | _ => none
theorem pa_ints : ∀ {es : List Expr} {ns : List Int}, intsOf es = some ns → PA X es (fun _ H Q => Q (ns.map V.int) H)
  | [], ns, h => by
    cases h
    exact pa_nil
  | e :: es, ns, h => by
    cases e with
    | Constant c k pos =>
      cases c with
      | int i =>
        have h' : (intsOf es).map (i :: ·) = some ns := h
        cases hq : intsOf es with
        | none => rw [hq] at h'; cases h'
        | some ms =>
          rw [hq] at h'
          have e' : i :: ms = ns := Option.some.inj h'
          subst e'
          exact pa_cons (te := tC (.int i)) pe_int (pa_ints hq) rfl
      | _ => cases h
    | _ => cases h
end
end L2

namespace L2
open PySem PySem.Spec PyProof.Rows
section
variable {X : Cx}
end

/-! ### the same rules where the context is a block's: the written part said -/
section
variable {X : Cx} {K : PySem.W.Frag}
theorem ix_listK (K : PySem.W.Frag) (hK : X.K = K := by rfl) : IxR X (rIxL K) := by subst hK; exact ix_list
theorem ix_tupK (K : PySem.W.Frag) (hK : X.K = K := by rfl) : IxR X (rIxT K) := by subst hK; exact ix_tup
end
end L2

namespace L2
open PySem PySem.Spec PyProof.Rows
/-! ### try, whose body is left as it should be -/
/-- the same place, another word for what is raised -/
def Cx.catch (X : Cx) (E : Value → Shared → Prop) : Cx := { X with xe := E }
section
variable {X : Cx}
theorem Inv.catch {E : Value → Shared → Prop} {pins : List (Addr × Obj)} {σ : St} {H : Hp} {s : Shared} (I : Inv X pins σ H s) : Inv (X.catch E) pins σ H s :=
  ⟨⟨I.ok.mod, I.ok.kind, I.ok.glob, I.ok.blt, I.ok.above, I.ok.inj, I.ok.has, I.ok.cab, I.ok.hd, I.ok.frames, I.ok.stk, I.ok.exf, I.ok.bs, I.ok.bsz, I.ok.noex, I.ok.exfs, I.ok.funs, I.ok.frf⟩, I.os, I.bare, I.base, I.loc, I.cell, I.free, I.freeC, I.pin, I.hok, I.len⟩
theorem Inv.uncatch {E : Value → Shared → Prop} {pins : List (Addr × Obj)} {σ : St} {H : Hp} {s : Shared} (I : Inv (X.catch E) pins σ H s) : Inv X pins σ H s :=
  ⟨⟨I.ok.mod, I.ok.kind, I.ok.glob, I.ok.blt, I.ok.above, I.ok.inj, I.ok.has, I.ok.cab, I.ok.hd, I.ok.frames, I.ok.stk, I.ok.exf, I.ok.bs, I.ok.bsz, I.ok.noex, I.ok.exfs, I.ok.funs, I.ok.frf⟩, I.os, I.bare, I.base, I.loc, I.cell, I.free, I.freeC, I.pin, I.hok, I.len⟩
theorem SP.uncatch {E : Value → Shared → Prop} {pins : List (Addr × Obj)} {D : Ends} {f : Flow} {s : Shared} (h : SP (X.catch E) pins D f s) : SP X pins D f s := by
  cases f with
  | next => obtain ⟨σ, H, I, q⟩ := h; exact ⟨σ, H, I.uncatch, q⟩
  | brk => obtain ⟨σ, H, I, q⟩ := h; exact ⟨σ, H, I.uncatch, q⟩
  | cont => obtain ⟨σ, H, I, q⟩ := h; exact ⟨σ, H, I.uncatch, q⟩
  | ret u => obtain ⟨v, σ, H, I, r, q⟩ := h; exact ⟨v, σ, H, I.uncatch, r, q⟩
theorem ps_try {body : List Stmt} {h₀ : ExceptHandler} {hs : List ExceptHandler} {pos : Pos} {t : TS} (hb : ∀ E, PSs (X.catch E) body t) : PS X (.Try body (h₀ :: hs) [] [] pos) t := by
  intro pins s σ H D I h
  refine wpAny_Try_except (wpAny_mono (hb (fun e s₁ => wpAny (model X.prog X.w) X.A (noteFrame e X.env) (fun _ s₂ => wpAny (model X.prog X.w) X.A (setFlight e none) (fun _ s₃ => wpAny (model X.prog X.w) X.A (handleBy e X.env (h₀ :: hs)) (SP X pins D) X.xe s₃) X.xe s₂) X.xe s₁) pins s σ H D I.catch h) (fun f s1 q => ?_) fun _ _ e => e)
  have q' := SP.uncatch q
  cases f with
  | next => exact wpAny_execs_nil q'
  | brk => exact q'
  | cont => exact q'
  | ret u => exact q'
/-! ### sum of a list of ints -/
def rSum (K : PySem.W.Frag) : List V → Hp → VK → Prop := fun xs H Q => ∃ (l : Addr) (ns : List Int), xs = [.ref l] ∧ SqL K H l (ns.map V.int) ∧ Q (.int ns.sum) H
theorem call_sum (hc : X.calm = true) : CallR X (.builtin "sum") (rSum X.K) := by
  intro pins s σ H xs us Q I r h
  obtain ⟨l, ns, rfl, hl, q⟩ := h
  obtain ⟨u, rfl, ru⟩ := vals1 r
  cases ru
  obtain ⟨its, rv, pl, _⟩ := I.list hl
  have hi := intsAre_of rv
  obtain ⟨xs, hx⟩ := hi.allInts.items
  have hl' : s.heap.IsList l (intItems xs) := hx ▸ pl.isList
  refine sum_intListG (I.ok.hd hc) hl' fun h' tk t' hk => ?_
  have e1 : ns = xs.toList.map (·.1) := by
    rw [← nums_intItems, ← hx]
    exact (show numsOf its.toArray.toList = ns from hi.numsOf).symm
  have e2 : preSum (numAt xs) xs.size = ns.sum := by
    rw [preSum_eq, List.take_of_length_le (by simp), e1]
  rw [e2]
  exact ⟨.int _, H, I.kept (t' := tk) hk, ⟨t', rfl⟩, q⟩
/-! ### len(set(list of ints)) -/
theorem dedup_full : ∀ (ns acc : List Int), (acc ++ ns).Nodup → ns.foldl step_dedup acc = acc ++ ns
  | [], acc, _ => by simp
  | n :: ns, acc, h => by
    have hn : ¬ (acc.any (· == n) = true) := by
      intro e
      obtain ⟨x, hx, e2⟩ := List.any_eq_true.mp e
      have : x = n := by simpa using e2
      subst this
      have := (List.nodup_append.mp h).2.2 x hx x List.mem_cons_self
      exact this rfl
    rw [List.foldl_cons]
    have e : step_dedup acc n = acc ++ [n] := by unfold step_dedup; rw [if_neg hn]
    rw [e, dedup_full ns (acc ++ [n]) (by rw [List.append_assoc]; exact h), List.append_assoc]
    rfl
theorem firstMet_full {ns : List Int} (h : ns.Nodup) : (firstMet (fun i => ns.getD i 0) ns.length).length = ns.length := by
  unfold firstMet
  have e : (List.range ns.length).map (fun i => ns.getD i 0) = ns := by
    apply List.ext_getElem?
    intro i
    by_cases hi : i < ns.length
    · simp [hi]
    · simp [hi]
  rw [e, dedup_full ns [] (by simpa using h)]
  simp
def tLenSet (K : PySem.W.Frag) (te : TE) : TE := fun σ H Q => te σ H fun x H1 => ∃ (l : Addr) (ns : List Int), x = .ref l ∧ SqL K H1 l (ns.map V.int) ∧ ns.Nodup ∧ ns.length < 1000 ∧ Q (.int ns.length) H1
theorem pe_lenset {e : Expr} {te : TE} {p p' pos pos' : Pos} (hc : X.calm = true) (hg : Gl X "len") (hm : X.mg "len" = none) (hg' : Gl X "set") (hm' : X.mg "set" = none) (he : PE X e te)
    (hs : starEach [e] X.env = (false, eval e X.env) :: starEach [] X.env := by rfl)
    (hs2 : starEach [Expr.Call (.Name "set" p') [e] [] pos'] X.env = (false, eval (.Call (.Name "set" p') [e] [] pos') X.env) :: starEach [] X.env := by rfl)
    (hv : bootBuiltins "set" = some (.type "set") := by decide +kernel) :
    PE X (.Call (.Name "len" p) [.Call (.Name "set" p') [e] [] pos'] [] pos) (tLenSet X.K te) := by
  intro pins s σ H Q I h
  refine wpAny_Call_Name_kw (ld_blt I hg hm PySem.boot_len ?_)
  refine PyProof.Rows.callWith_builtin1 ?_ hs2
  rw [hs2]
  show wpAny _ _ (spliced ((false, eval (.Call (.Name "set" p') [e] [] pos') X.env) :: backTo pos (starEach [] X.env))) _ _ s
  refine Calls.spliced_cons (wpAny_Call_Name_kw (ld_blt I hg' hm' hv ?_))
  refine PyProof.Rows.callWith_type1 ?_ hs
  rw [hs]
  show wpAny _ _ (spliced ((false, eval e X.env) :: backTo pos' (starEach [] X.env))) _ _ s
  refine Calls.spliced_cons (thn (he pins s σ H _ I h) fun u s1 ⟨x, H1, I1, r1, l, ns, e1, hl, hnd, hlt, q⟩ => Calls.spliced_nil ?_)
  subst e1
  cases r1
  obtain ⟨its, rv, pl, _⟩ := I1.list hl
  have hi := intsAre_of rv
  have hlen := rv.length
  rw [List.length_map] at hlen
  refine PySem.call_set_list (items := its.toArray) (ns := ns) (I1.ok.hd hc) pl.isList (by simpa using hi) (by rw [List.size_toArray]; unfold scanBound; omega) fun h' tk hS hk => ?_
  have I2 : Inv X pins σ H1 { s1 with heap := h', toks := tk } := I1.kept (t' := tk) fun b o e => hk b o (Heap.lt_size e) e
  have hsz : its.toArray.size = ns.length := by rw [List.size_toArray, hlen]
  rw [hsz, firstMet_full hnd] at hS
  obtain ⟨o, es, ep, t, ho, hex, hd, _, _, _, hf, hn⟩ := hS
  refine Calls.spliced_nil ?_
  refine call_len_set ho hex hd hf (by omega) ?_
  rw [hn]
  exact ⟨.int _, H1, I2.tok _, ⟨_, rfl⟩, q⟩
/-! ### xs[::-1] -/
theorem pick_rev (its : List Value) : slicePick its.toArray none none (some (-1)) = its.reverse.toArray := by
  unfold slicePick
  have e : sliceBounds none none (some (-1)) its.toArray.size = ((its.length : Int) - 1, -1, -1) := by simp [sliceBounds]
  rw [e]
  dsimp only
  congr 1
  have e2 : sliceRange ((its.length : Int) - 1) (-1) (-1) = (List.range its.length).map fun k => its.length - 1 - k := by
    unfold sliceRange
    have ec : (if (-1 : Int) > 0 then (if ((its.length : Int) - 1) < -1 then (-1 - ((its.length : Int) - 1) + -1 - 1) / -1 else 0) else (if ((its.length : Int) - 1) > -1 then (((its.length : Int) - 1) - -1 - -1 - 1) / (- -1) else 0)) = (its.length : Int) := by
      rw [if_neg (by decide)]
      split
      · rw [show (- -1 : Int) = 1 by decide, Int.ediv_one]; omega
      · omega
    dsimp only
    rw [ec, Int.toNat_natCast]
    apply List.map_congr_left
    intro k hk
    have := List.mem_range.mp hk
    omega
  rw [e2, List.filterMap_map]
  apply List.ext_getElem?
  intro i
  have e3 : ((List.range its.length).filterMap ((fun x => its.toArray[x]?) ∘ fun k => its.length - 1 - k)) = (List.range its.length).map fun k => its.reverse.getD k .none := by
    have : ∀ (l : List Nat), (∀ k ∈ l, k < its.length) → l.filterMap ((fun x => its.toArray[x]?) ∘ fun k => its.length - 1 - k) = l.map fun k => its.reverse.getD k .none := by
      intro l
      induction l with
      | nil => intro _; rfl
      | cons k l ih =>
        intro h
        have hk := h k List.mem_cons_self
        have e : ((fun x => its.toArray[x]?) ∘ fun k => its.length - 1 - k) k = some (its.reverse.getD k .none) := by
          show its.toArray[its.length - 1 - k]? = some (its.reverse.getD k .none)
          rw [List.getD_eq_getElem?_getD, List.getElem?_reverse hk, List.getElem?_toArray, List.getElem?_eq_getElem (by omega)]
          rfl
        rw [List.filterMap_cons_some e, List.map_cons, ih fun j hj => h j (List.mem_cons_of_mem _ hj)]
    exact this _ fun k hk => List.mem_range.mp hk
  rw [e3]
  by_cases hi : i < its.length
  · rw [List.getElem?_map, List.getElem?_range hi]
    show some (its.reverse.getD i .none) = _
    rw [List.getD_eq_getElem?_getD, List.getElem?_eq_getElem (by simpa using hi)]
    rfl
  · rw [List.getElem?_eq_none_iff.mpr (by simp; omega), List.getElem?_eq_none_iff.mpr (by simp; omega)]
def tRev (K : PySem.W.Frag) (te : TE) : TE := fun σ H Q => te σ H fun x H1 => ∃ (l : Addr) (xs : List V), x = .ref l ∧ SqL K H1 l xs ∧ ∀ p, H1 p = none → Q (.ref p) (upd H1 p (.lst xs.reverse))
theorem Vals.rev : ∀ {xs : List V} {us : List Value}, Vals xs us → Vals xs.reverse us.reverse
  | _, _, .nil => .nil
  | _, _, .cons r t => by rw [List.reverse_cons, List.reverse_cons]; exact (Vals.rev t).append (.cons r .nil)
theorem pe_rev {e one : Expr} {te : TE} {p1 p2 pos : Pos} (he : PE X e te) (h1 : PE X one (tC (.int 1))) :
    PE X (.Subscript e (.Slice none none (some (.UnaryOp .USub one p1)) p2) pos) (tRev X.K te) := by
  intro pins s σ H Q I h
  refine Subscript_ (thn (he pins s σ H _ I h) fun v s1 ⟨x, H1, I1, r1, l, xs, ex, hl, q⟩ => ?_)
  subst ex
  cases r1
  refine wpAny_Slice ?_
  rw [evalPart_none]
  refine wpAny_pure (wpAny_pure ?_)
  refine thn (po_some (pe_un un_neg h1) pins s1 σ H1 (fun o H2 => o = some (-1) ∧ H2 = H1) I1 ⟨1, rfl, -1, rfl, rfl, rfl⟩) fun vs s3 ⟨o, H3, I3, ps, e3, e4⟩ => ?_
  subst e3 e4
  obtain ⟨its, r, ht, hz⟩ := I3.list hl
  have hlen := r.length
  have I4 : Inv X pins σ H3 { s3 with heap := s3.heap.push { cls := .type "slice", data := .fields #[.none, .none, vs] } } := I3.kept (t' := s3.toks) fun b ob q => Heap.get?_push_of_some _ q
  obtain ⟨its, r, ht, hz⟩ := I4.list hl
  have hlen := r.length
  refine tail_any (ops := [.ref l, .ref s3.heap.objs.size]) ht.isList.typeIs slot_list_getitem.lookup (wpAny_getItem_list_slice ht.isList (Heap.IsSliceOf.new ..) .none .none ps (by simp) ?_ (by rw [List.size_toArray] <;> omega)) (by with_unfolding_all rfl)
  rw [pick_rev]
  exact ⟨.ref _, _, I4.laid (t' := s3.toks) (o := .lst xs.reverse) (fun b ob q => Heap.get?_push_of_some _ q) (Nat.le_refl _) ⟨by rw [List.length_reverse]; exact hz, _, 0, r.rev, Heap.get?_push_size _ rfl⟩, rfl, q _ (I4.hok.fresh (Nat.le_refl _))⟩
end
end L2

namespace J
/-! moves and states, by plain lists -/
inductive Mv where
  | pour (a b : Nat) | fill (a : Nat) | emp (a : Nat)
  deriving DecidableEq
def at0 (l : List Int) (i : Nat) : Int := l.getD i 0
structure IsSt (sz st : List Int) : Prop where
  len : st.length = sz.length
  bnd : ∀ i, i < sz.length → 0 ≤ at0 st i ∧ at0 st i ≤ at0 sz i
/-! all states -/
def prod1 (sz : List Int) : Int := sz.foldl (fun m s => m * (s + 1)) 1
end J

namespace Jug
open PySem L2
def top (i : Nat) : Stmt := PySem.Challenge.pw_jughouse_k04_goals.main.body.getD i (.Pass ⟨0, 0, 0, 0⟩)
abbrev s_is_number : Stmt := top 9
theorem sc_is_number : FnScope ["value", "least", "most"] ["value", "least", "most"] (defScope s_is_number) := ⟨rfl, rfl, rfl, by decide +kernel, rfl, by decide +kernel, by decide +kernel⟩
abbrev s_is_jug : Stmt := top 10
theorem sc_is_jug : FnScope ["value"] ["value"] (defScope s_is_jug) := ⟨rfl, rfl, rfl, by decide +kernel, rfl, by decide +kernel, by decide +kernel⟩
abbrev s_held_in : Stmt := top 11
theorem sc_held_in : FnScope ["house", "state", "held", "sizes", "many", "size"] ["house", "state"] (defScope s_held_in) := ⟨rfl, rfl, rfl, by decide +kernel, rfl, by decide +kernel, by decide +kernel⟩
abbrev s_check_jug : Stmt := top 14
theorem sc_check_jug : FnScope ["jug"] ["jug"] (defScope s_check_jug) := ⟨rfl, rfl, rfl, by decide +kernel, rfl, by decide +kernel, by decide +kernel⟩
abbrev s_check_amount : Stmt := top 15
theorem sc_check_amount : FnScope ["many"] ["many"] (defScope s_check_amount) := ⟨rfl, rfl, rfl, by decide +kernel, rfl, by decide +kernel, by decide +kernel⟩
abbrev s_jugs_in : Stmt := top 16
theorem sc_jugs_in : FnScope ["jugs", "told", "jug"] ["jugs"] (defScope s_jugs_in) := ⟨rfl, rfl, rfl, by decide +kernel, rfl, by decide +kernel, by decide +kernel⟩
abbrev s_amounts_in : Stmt := top 17
theorem sc_amounts_in : FnScope ["state", "told", "many"] ["state"] (defScope s_amounts_in) := ⟨rfl, rfl, rfl, by decide +kernel, rfl, by decide +kernel, by decide +kernel⟩
abbrev s_check_house_has : Stmt := top 18
theorem sc_check_house_has : FnScope ["house", "jug"] ["house", "jug"] (defScope s_check_house_has) := ⟨rfl, rfl, rfl, by decide +kernel, rfl, by decide +kernel, by decide +kernel⟩
abbrev s_check_state_of : Stmt := top 19
theorem sc_check_state_of : FnScope ["house", "state"] ["house", "state"] (defScope s_check_state_of) := ⟨rfl, rfl, rfl, by decide +kernel, rfl, by decide +kernel, by decide +kernel⟩
abbrev s_Goal_come : Stmt := inClass (top 20) 0
theorem sc_Goal_come : FnScope ["self", "house", "state", "held"] ["self", "house", "state"] (defScope s_Goal_come) := ⟨rfl, rfl, rfl, by decide +kernel, rfl, by decide +kernel, by decide +kernel⟩
abbrev s_Goal_met_by : Stmt := inClass (top 20) 1
theorem sc_Goal_met_by : FnScope ["self", "house", "held"] ["self", "house", "held"] (defScope s_Goal_met_by) := ⟨rfl, rfl, rfl, by decide +kernel, rfl, by decide +kernel, by decide +kernel⟩
abbrev s_Holds_init : Stmt := inClass (top 21) 0
theorem sc_Holds_init : FnScope ["self", "jug", "many"] ["self", "jug", "many"] (defScope s_Holds_init) := ⟨rfl, rfl, rfl, by decide +kernel, rfl, by decide +kernel, by decide +kernel⟩
abbrev s_Holds_met_by : Stmt := inClass (top 21) 1
theorem sc_Holds_met_by : FnScope ["self", "house", "held"] ["self", "house", "held"] (defScope s_Holds_met_by) := ⟨rfl, rfl, rfl, by decide +kernel, rfl, by decide +kernel, by decide +kernel⟩
abbrev s_Some_init : Stmt := inClass (top 22) 0
theorem sc_Some_init : FnScope ["self", "many"] ["self", "many"] (defScope s_Some_init) := ⟨rfl, rfl, rfl, by decide +kernel, rfl, by decide +kernel, by decide +kernel⟩
abbrev s_Some_met_by : Stmt := inClass (top 22) 1
theorem sc_Some_met_by : FnScope ["self", "house", "held"] ["self", "house", "held"] (defScope s_Some_met_by) := ⟨rfl, rfl, rfl, by decide +kernel, rfl, by decide +kernel, by decide +kernel⟩
abbrev s_Sum_init : Stmt := inClass (top 23) 0
theorem sc_Sum_init : FnScope ["self", "jugs", "many"] ["self", "jugs", "many"] (defScope s_Sum_init) := ⟨rfl, rfl, rfl, by decide +kernel, rfl, by decide +kernel, by decide +kernel⟩
abbrev s_Sum_met_by : Stmt := inClass (top 23) 1
theorem sc_Sum_met_by : FnScope ["self", "house", "held", "jug"] ["self", "house", "held"] (defScope s_Sum_met_by) := ⟨rfl, rfl, rfl, by decide +kernel, rfl, by decide +kernel, by decide +kernel⟩
abbrev s_Whole_init : Stmt := inClass (top 24) 0
theorem sc_Whole_init : FnScope ["self", "state"] ["self", "state"] (defScope s_Whole_init) := ⟨rfl, rfl, rfl, by decide +kernel, rfl, by decide +kernel, by decide +kernel⟩
abbrev s_Whole_met_by : Stmt := inClass (top 24) 1
theorem sc_Whole_met_by : FnScope ["self", "house", "held"] ["self", "house", "held"] (defScope s_Whole_met_by) := ⟨rfl, rfl, rfl, by decide +kernel, rfl, by decide +kernel, by decide +kernel⟩
abbrev s_sizes_in : Stmt := top 27
theorem sc_sizes_in : FnScope ["sizes", "told", "size"] ["sizes"] (defScope s_sizes_in) := ⟨rfl, rfl, rfl, by decide +kernel, rfl, by decide +kernel, by decide +kernel⟩
abbrev s_count_states : Stmt := top 28
theorem sc_count_states : FnScope ["sizes", "many", "size"] ["sizes"] (defScope s_count_states) := ⟨rfl, rfl, rfl, by decide +kernel, rfl, by decide +kernel, by decide +kernel⟩
abbrev s_House_init : Stmt := inClass (top 29) 0
theorem sc_House_init : FnScope ["self", "sizes", "tap"] ["self", "sizes", "tap"] (defScope s_House_init) := ⟨rfl, rfl, rfl, by decide +kernel, rfl, by decide +kernel, by decide +kernel⟩
abbrev s_House_sizes : Stmt := inClass (top 29) 1
theorem sc_House_sizes : FnScope ["self"] ["self"] (defScope s_House_sizes) := ⟨rfl, rfl, rfl, by decide +kernel, rfl, by decide +kernel, by decide +kernel⟩
abbrev s__law_cell_at : Stmt := top 31
theorem sc__law_cell_at : FnScope ["_law_script", "_law_k"] ["_law_script", "_law_k"] (defScope s__law_cell_at) := ⟨rfl, rfl, rfl, by decide +kernel, rfl, by decide +kernel, by decide +kernel⟩
abbrev s__law_draw : Stmt := top 32
theorem sc__law_draw : FnScope ["_law_cell", "_law_k", "_law_many", "_law_primes"] ["_law_cell", "_law_k", "_law_many"] (defScope s__law_draw) := ⟨rfl, rfl, rfl, by decide +kernel, rfl, by decide +kernel, by decide +kernel⟩
abbrev s__law_sizes : Stmt := top 33
theorem sc__law_sizes : FnScope ["_law_cell", "_law_many", "_law_most"] ["_law_cell"] (defScope s__law_sizes) := ⟨rfl, rfl, rfl, by decide +kernel, rfl, by decide +kernel, by decide +kernel⟩
abbrev s__law_state : Stmt := top 34
theorem sc__law_state : FnScope ["_law_cell", "_law_sizes_here", "_law_state_here", "_law_k", "_law_kind"] ["_law_cell", "_law_sizes_here"] (defScope s__law_state) := ⟨rfl, rfl, rfl, by decide +kernel, rfl, by decide +kernel, by decide +kernel⟩
abbrev s__law_sorts : Stmt := top 35
theorem sc__law_sorts : FnScope ["_law_goal"] ["_law_goal"] (defScope s__law_sorts) := ⟨rfl, rfl, rfl, by decide +kernel, rfl, by decide +kernel, by decide +kernel⟩
abbrev s__law_right : Stmt := top 36
theorem sc__law_right : FnScope ["_law_house", "_law_state_here", "_law_goal", "_law_sort", "_law_due", "_law_many", "_law_far", "_law_none", "_law_told"] ["_law_house", "_law_state_here", "_law_goal", "_law_sort", "_law_due", "_law_many"] (defScope s__law_right) := ⟨rfl, rfl, rfl, by decide +kernel, rfl, by decide +kernel, by decide +kernel⟩
abbrev s_law : Stmt := top 37
theorem sc_law : FnScope ["_law_script", "_law_sizes_here", "_law_house", "_law_state_here", "_law_jug", "_law_many", "_law_mask", "_law_jugs", "_law_total", "_law_handed", "_law_goal", "_law_other"] ["_law_script"] (defScope s_law) := ⟨rfl, rfl, rfl, by decide +kernel, rfl, by decide +kernel, by decide +kernel⟩

/-! ### what the walk asks of the module: the built-in names, the constants -/
structure Bt (mg : Str → Option Value) : Prop where
  isinstance : mg "isinstance" = none
  int : mg "int" = none
  bool : mg "bool" = none
  tuple : mg "tuple" = none
  list : mg "list" = none
  len : mg "len" = none
  zip : mg "zip" = none
  range : mg "range" = none
  min : mg "min" = none
  str : mg "str" = none
  jugs : ∃ t, mg "MOST_JUGS" = some (.int 4 t)
  size : ∃ t, mg "MOST_SIZE" = some (.int 60 t)
theorem bt_isinstance : bootBuiltins "isinstance" = some (.builtin "isinstance") := by decide +kernel
theorem bt_int : bootBuiltins "int" = some (.type "int") := by decide +kernel
theorem bt_bool : bootBuiltins "bool" = some (.type "bool") := by decide +kernel
theorem bt_tuple : bootBuiltins "tuple" = some (.type "tuple") := by decide +kernel
theorem bt_list : bootBuiltins "list" = some (.type "list") := by decide +kernel
theorem bt_min : bootBuiltins "min" = some (.builtin "min") := by decide +kernel
theorem bt_str : bootBuiltins "str" = some (.type "str") := by decide +kernel
section
variable {P : Program} {w : World} {K : PySem.W.Frag} {mg : Str → Option Value} {base : Heap}
theorem kit_ii : PySem.W.kitOne K (.type "int") (.type "int") = some true := by
  unfold PySem.W.kitOne
  rw [if_pos (by simp)]
theorem kit_ib : PySem.W.kitOne K (.type "int") (.type "bool") = some false := by
  unfold PySem.W.kitOne
  rw [if_neg (by decide)]
  with_unfolding_all rfl
theorem kit_tt : PySem.W.kitOne K (.type "tuple") (.type "tuple") = some true := by
  unfold PySem.W.kitOne
  rw [if_pos (by simp)]
theorem kit_ll : PySem.W.kitOne K (.type "list") (.type "list") = some true := by
  unfold PySem.W.kitOne
  rw [if_pos (by simp)]
theorem kit_bb : PySem.W.kitOne K (.type "bool") (.type "bool") = some true := by
  unfold PySem.W.kitOne
  rw [if_pos (by simp)]
def sp_is_number : Sp := fun vs H Q _ => ∃ i lo hi : Int, vs = [.int i, .int lo, .int hi] ∧ Q (.bl (decide (lo ≤ i) && decide (i ≤ hi))) H
theorem ok_is_number {f : Addr} {fd : FuncData} (F : Fun K "is_number" "is_number" s_is_number f fd) (B : Bt mg) : FnOk P w K mg base CX0 1 f fd ["value", "least", "most"] sp_is_number := by
  refine F.ok sc_is_number (fun vs H Q E h => ?_) (fun cdv A outer s H vs Q E hr h => ?_)
  · obtain ⟨i, lo, hi, rfl, _⟩ := h
    rfl
  · obtain ⟨i, lo, hi, rfl, k⟩ := h
    refine ⟨_, pss_one (ps_ret (pe_and (pe_callB call_isinst (by rfl) B.isinstance bt_isinstance (pa_cons (pv 0) (pa_cons (pe_bltn (v := .ty "int") (by rfl) B.int bt_int rfl) pa_nil)))
      (pe_and (pe_not (pe_callB call_isinst (by rfl) B.isinstance bt_isinstance (pa_cons (pv 0) (pa_cons (pe_bltn (v := .ty "bool") (by rfl) B.bool bt_bool rfl) pa_nil))))
      (pe_one (pe_chain op_le op_le (pv 1) (pv 0) (pv 2)))))), ?_⟩
    refine ⟨_, rfl, _, _, _, _, _, rfl, .ty "int", .int i, kit_ii, _, rfl, iteT ?_⟩
    refine ⟨_, rfl, _, _, _, _, _, rfl, .ty "bool", .int i, kit_ib, _, rfl, _, rfl, iteT ?_⟩
    refine ⟨_, rfl, _, rfl, _, _, rfl, rfl, _, rfl, ?_⟩
    by_cases h1 : lo ≤ i
    · rw [decide_eq_true h1]
      refine iteT ⟨_, rfl, _, _, rfl, rfl, ?_⟩
      rw [decide_eq_true h1, Bool.true_and] at k
      exact k
    · rw [decide_eq_false h1]
      refine iteF ?_
      rw [decide_eq_false h1, Bool.false_and] at k
      exact k
def sp_is_jug : Sp := fun vs H Q _ => ∃ i : Int, vs = [.int i] ∧ Q (.bl (decide (0 ≤ i) && decide (i ≤ 3))) H
theorem ok_is_jug {f : Addr} {fd : FuncData} (F : Fun K "is_jug" "is_jug" s_is_jug f fd) (B : Bt mg) (N : FnB P w K mg base 1 "is_number" ["value", "least", "most"] sp_is_number) : FnOk P w K mg base CX0 2 f fd ["value"] sp_is_jug := by
  obtain ⟨t4, e4⟩ := B.jugs
  refine F.ok sc_is_jug (fun vs H Q E h => ?_) (fun cdv A outer s H vs Q E hr h => ?_)
  · obtain ⟨i, rfl, _⟩ := h
    rfl
  · obtain ⟨i, rfl, k⟩ := h
    refine ⟨_, pss_one (ps_ret (pe_fn N hr (pa_cons (pv 0) (pa_cons pe_int (pa_cons (pe_op op_sub (pe_glob (v := .int 4) (by rfl) e4 ⟨_, rfl⟩) pe_int) pa_nil))))), ?_⟩
    exact ⟨_, rfl, _, _, rfl, rfl, i, 0, 3, rfl, k⟩
end

/-! ### data -/
theorem mem_ints {l : List Int} {i : Nat} {x : V} (h : (l.map V.int)[i]? = some x) : ∃ z, l[i]? = some z ∧ x = .int z := by
  rw [List.getElem?_map] at h
  cases e : l[i]? with
  | none => rw [e] at h; cases h
  | some z => rw [e] at h; exact ⟨z, rfl, (Option.some.inj h).symm⟩
theorem at0_of {l : List Int} {i : Nat} {z : Int} (h : l[i]? = some z) : J.at0 l i = z := by
  unfold J.at0
  rw [List.getD_eq_getElem?_getD, h]; rfl
theorem get_of {l : List Int} {i : Nat} (h : i < l.length) : l[i]? = some (J.at0 l i) := by
  unfold J.at0
  rw [List.getD_eq_getElem?_getD, List.getElem?_eq_getElem h]; rfl
theorem getV_of {l : List Int} {i : Nat} (h : i < l.length) : (l.map V.int)[i]? = some (.int (J.at0 l i)) := by
  rw [List.getElem?_map, get_of h]; rfl
theorem st_at {sz st : List Int} {i : Nat} {z y : Int} (h : J.IsSt sz st) (h1 : st[i]? = some z) (h2 : sz[i]? = some y) : 0 ≤ z ∧ z ≤ y := by
  have := h.bnd i (List.getElem?_eq_some_iff.mp h2).1
  rw [at0_of h1, at0_of h2] at this
  exact this
/-- a house: sizes and tap -/
def hF (t : Addr) (tap : Bool) : List (Str × V) := putF "tap" (.bl tap) (putF "jug_sizes" (.ref t) [])
theorem n_tap_js : ¬ (("tap" : Str) = "jug_sizes") := by decide +kernel
theorem hF_js (t : Addr) (tap : Bool) : (hF t tap).lookup ("jug_sizes" : Str) = some (.ref t) := by
  unfold hF
  rw [lookup_putF, if_neg (fun e => n_tap_js e.symm), lookup_putF, if_pos rfl]
theorem hF_tap (t : Addr) (tap : Bool) : (hF t tap).lookup ("tap" : Str) = some (.bl tap) := by
  unfold hF
  rw [lookup_putF, if_pos rfl]
theorem hF_no (t : Addr) (tap : Bool) {m : Str} (h1 : ¬ m = "tap") (h2 : ¬ m = "jug_sizes") : (hF t tap).lookup m = none := by
  unfold hF
  rw [lookup_putF, if_neg h1, lookup_putF, if_neg h2]
  rfl
def House (CH : Addr) (H : Hp) (p : Addr) (sz : List Int) (tap : Bool) : Prop := ∃ dx t, H p = some (.ins CH dx (hF t tap)) ∧ H t = some (.tup (sz.map V.int))
theorem House.mono {CH : Addr} {H H' : Hp} {p : Addr} {sz : List Int} {tap : Bool} (h : House CH H p sz tap) (s : Same H H') : House CH H' p sz tap := by
  obtain ⟨dx, t, h1, h2⟩ := h
  exact ⟨dx, t, s _ _ h1, s _ _ h2⟩
/-- what the class House must have -/
structure CHs (K : PySem.W.Frag) (C : Addr) : Prop where
  cl : Cls K C
  js : NoAttr K C "jug_sizes"
  tap : NoAttr K C "tap"
section
variable {P : Program} {w : World} {K : PySem.W.Frag} {mg : Str → Option Value} {base : Heap} {CH : Addr}
def sp_sizes (CH : Addr) : Sp := fun vs H Q _ => ∃ p sz tap, vs = [.ref p] ∧ House CH H p sz tap ∧ ∀ l, H l = none → Q (.ref l) (upd H l (.lst (sz.map V.int)))
theorem ok_sizes {f : Addr} {fd : FuncData} (F : Fun K "sizes" "House.sizes" s_House_sizes f fd) (B : Bt mg) (C : CHs K CH) : FnOk P w K mg base CX0 1 f fd ["self"] (sp_sizes CH) := by
  refine F.ok sc_House_sizes (fun vs H Q E h => ?_) (fun cdv A outer s H vs Q E hr h => ?_)
  · obtain ⟨p, sz, tap, rfl, _⟩ := h
    rfl
  · obtain ⟨p, sz, tap, rfl, ⟨dx, t, hp, ht⟩, k⟩ := h
    refine ⟨_, pss_one (ps_ret (pe_callTy call_list_of (by rfl) B.list bt_list (pa_cons (pe_fld (pv 0) rfl) pa_nil))), ?_⟩
    exact ⟨_, rfl, p, CH, dx, _, _, rfl, hp, C.cl, C.js, hF_js _ _, t, _, rfl, .inr (SqT.of ht), fun l hl => k l hl⟩
def sp_held_in (CH : Addr) : Sp := fun vs H Q _ => ∃ p sz tap a st, vs = [.ref p, .ref a] ∧ House CH H p sz tap ∧ H a = some (.tup (st.map V.int)) ∧ J.IsSt sz st ∧
  ∀ l H', Same H H' → H l = none → H' l = some (.lst (st.map V.int)) → Q (.ref l) H'
theorem ok_held_in {f : Addr} {fd : FuncData} (F : Fun K "held_in" "held_in" s_held_in f fd) (B : Bt mg) (N : FnB P w K mg base 1 "is_number" ["value", "least", "most"] sp_is_number)
    (S : MeB P w K mg base 1 CH "sizes" ["self"] (sp_sizes CH)) : FnOk P w K mg base CX0 2 f fd ["house", "state"] (sp_held_in CH) := by
  refine F.ok sc_held_in (fun vs H Q E h => ?_) (fun cdv A outer s H vs Q E hr h => ?_)
  · obtain ⟨p, sz, tap, a, st, rfl, _⟩ := h
    rfl
  · obtain ⟨p, sz, tap, a, st, rfl, hh, ha, hst, k⟩ := h
    refine ⟨_, pss_cons (ps_if (pt_not (pt_val (pe_callB call_isinst (by rfl) B.isinstance bt_isinstance (pa_cons (pv 1) (pa_cons (pe_bltn (v := .ty "tuple") (by rfl) B.tuple bt_tuple rfl) pa_nil))))) pss_never pss_nil)
      (pss_cons (ps_set (i := 2) sc_held_in.nd rfl (Or.inl rfl) (pe_callTy call_list_of (by rfl) B.list bt_list (pa_cons (pv 1) pa_nil)))
      (pss_cons (ps_set (i := 3) sc_held_in.nd rfl (Or.inl rfl) (pe_me0 S (pv 0) hr))
      (pss_cons (ps_if (pt_cmpR op_ne (pe_callB call_len_seq (by rfl) B.len PySem.boot_len (pa_cons (pv 2) pa_nil)) (pe_callB call_len_seq (by rfl) B.len PySem.boot_len (pa_cons (pv 3) pa_nil)) (nomark _)) pss_never pss_nil)
      (pss_cons (ps_for PassesOwn.never rfl (pi_zip (by rfl) B.zip (pa_cons (pv 2) (pa_cons (pv 3) pa_nil)))
        (pg_tup rfl (pgs_cons (pg_name (i := 4) sc_held_in.nd rfl (Or.inl rfl)) (pgs_cons (pg_name (i := 5) sc_held_in.nd rfl (Or.inl rfl)) pgs_nil)))
        (pss_one (ps_if (pt_not (pt_val (pe_fn N hr (pa_cons (pv 4) (pa_cons pe_int (pa_cons (pv 5) pa_nil)))))) pss_never pss_nil)))
      (pss_one (ps_ret (pv 2))))))), ?_⟩
    refine ⟨_, rfl, _, _, _, _, _, rfl, .ty "tuple", .tup ha, kit_tt, _, rfl, iteF ?_⟩
    refine ⟨_, rfl, a, _, rfl, .inr (SqT.of ha), fun l hl => ?_⟩
    have s1 : Same H (upd H l (.lst (st.map V.int))) := Same.new hl
    obtain ⟨dx, t, hp, ht⟩ := id hh
    refine ⟨_, rfl, p, dx, _, rfl, s1 _ _ hp, hF_no _ _ (by decide +kernel) (by decide +kernel), p, sz, tap, rfl, hh.mono s1, fun m hm => ?_⟩
    have s2 : Same (upd H l (.lst (st.map V.int))) (upd (upd H l (.lst (st.map V.int))) m (.lst (sz.map V.int))) := Same.new hm
    have e1 := s2 _ _ (upd_same (H := H))
    have hlen : (st.map V.int).length = (sz.map V.int).length := by simp [hst.len]
    refine ⟨_, rfl, l, _, rfl, .inl (SqL.of e1), _, rfl, m, _, rfl, .inl (SqL.of upd_same), rfl, _, rfl, iteNS (by rw [hlen]) ?_⟩
    refine ⟨_, rfl, _, rfl, l, m, _, _, rfl, SqL.of e1, SqL.of upd_same, for_zip (xs := st.map V.int) (ys := sz.map V.int) hlen
      (fun i σ H' => ∃ v4 v5, σ = [some (.ref p), some (.ref a), some (.ref l), some (.ref m), v4, v5] ∧ Same (upd (upd H l (.lst (st.map V.int))) m (.lst (sz.map V.int))) H')
      ⟨none, none, rfl, Same.refl _⟩ (fun i σ H' _ ⟨_, _, _, s3⟩ => ⟨SqL.of (s3 _ _ e1), SqL.of (s3 _ _ upd_same)⟩) ?_ ?_⟩
    · rintro i x y T σ H' hx hy hT ⟨v4, v5, rfl, s3⟩
      obtain ⟨zx, ex, rfl⟩ := mem_ints hx
      obtain ⟨zy, ey, rfl⟩ := mem_ints hy
      have hb := st_at hst ex ey
      refine ⟨T, _, rfl, SqT.of upd_same, rfl, _, _, rfl, _, _, rfl, rfl, ?_⟩
      refine ⟨_, rfl, _, rfl, zx, 0, zy, rfl, _, rfl, ?_⟩
      rw [decide_eq_true hb.1, decide_eq_true hb.2]
      refine iteF ?_
      exact ⟨_, _, rfl, s3.lay hT⟩
    · rintro σ H' ⟨v4, v5, rfl, s3⟩
      exact ⟨_, rfl, k l H' (s1.trans (s2.trans s3)) hl (s3 _ _ e1)⟩
end

/-! ### houses -/
structure Hz (sz : List Int) : Prop where
  l1 : 1 ≤ sz.length
  l4 : sz.length ≤ 4
  bd : ∀ s ∈ sz, 1 ≤ s ∧ s ≤ 60
  pr : J.prod1 sz ≤ 2000
theorem Hz.nn {sz : List Int} (h : Hz sz) : ∀ i, i < sz.length → 0 ≤ J.at0 sz i := fun i hi => by
  have := h.bd _ (List.mem_of_getElem? (get_of hi))
  omega
section
variable {P : Program} {w : World} {K : PySem.W.Frag} {mg : Str → Option Value} {base : Heap} {CH : Addr}
def sp_count_states : Sp := fun vs H Q _ => ∃ l sz, vs = [.ref l] ∧ H l = some (.lst (sz.map V.int)) ∧ (∀ s ∈ sz, 1 ≤ s ∧ s ≤ 60) ∧ Q (.int (J.prod1 sz)) H
theorem ok_count_states {f : Addr} {fd : FuncData} (F : Fun K "count_states" "count_states" s_count_states f fd) : FnOk P w K mg base CX0 1 f fd ["sizes"] sp_count_states := by
  refine F.ok sc_count_states (fun vs H Q E h => ?_) (fun cdv A outer s H vs Q E hr h => ?_)
  · obtain ⟨l, sz, rfl, _⟩ := h
    rfl
  · obtain ⟨l, sz, rfl, hl, hb, k⟩ := h
    refine ⟨_, pss_cons (ps_set (i := 1) sc_count_states.nd rfl (Or.inl rfl) pe_int)
      (pss_cons (ps_for PassesOwn.never rfl (pi_list (pv 0)) (pg_name (i := 2) sc_count_states.nd rfl (Or.inl rfl))
        (pss_one (ps_set (i := 1) sc_count_states.nd rfl (Or.inl rfl) (pe_op op_mul (pv 1) (pe_op op_add (pv 2) pe_int)))))
      (pss_one (ps_ret (pv 1)))), ?_⟩
    refine ⟨_, rfl, l, rfl, ⟨_, SqL.of hl⟩, for_list (K := K) (a := l) (xs := sz.map V.int) (fun i σ H' => ∃ v, σ = [some (.ref l), some (.int ((sz.take i).foldl (fun m s => m * (s + 1)) 1)), v] ∧ H' = H)
      ⟨none, rfl, rfl⟩ (fun i σ H' _ ⟨_, _, e⟩ => by subst e; exact SqL.of hl) ?_ ?_⟩
    · rintro i x σ H' hx ⟨v, rfl, rfl⟩
      obtain ⟨z, ez, rfl⟩ := mem_ints hx
      have hz := hb z (List.mem_of_getElem? ez)
      refine ⟨_, rfl, _, rfl, _, _, rfl, rfl, _, _, rfl, rfl, .inr ⟨by omega, by omega⟩, ?_⟩
      refine ⟨some (.int z), ?_, rfl⟩
      rw [List.take_add_one, ez, List.foldl_append]
      rfl
    · rintro σ H' ⟨v, rfl, rfl⟩
      refine ⟨_, rfl, ?_⟩
      rw [List.length_map, List.take_length]
      exact k
def sp_sizes_in : Sp := fun vs H Q _ => ∃ l sz, vs = [.ref l] ∧ H l = some (.lst (sz.map V.int)) ∧ Hz sz ∧ ∀ r H', Same H H' → H' r = some (.lst (sz.map V.int)) → Q (.ref r) H'
theorem ok_sizes_in {f : Addr} {fd : FuncData} (F : Fun K "sizes_in" "sizes_in" s_sizes_in f fd) (B : Bt mg) (hst : ∃ t, mg "MOST_STATES" = some (.int 2000 t)) (N : FnB P w K mg base 1 "is_number" ["value", "least", "most"] sp_is_number)
    (C : FnB P w K mg base 1 "count_states" ["sizes"] sp_count_states) : FnOk P w K mg base CX0 2 f fd ["sizes"] sp_sizes_in := by
  obtain ⟨t4, e4⟩ := B.jugs
  obtain ⟨t60, e60⟩ := B.size
  obtain ⟨t2, e2⟩ := hst
  refine F.ok sc_sizes_in (fun vs H Q E h => ?_) (fun cdv A outer s H vs Q E hr h => ?_)
  · obtain ⟨l, sz, rfl, _⟩ := h
    rfl
  · obtain ⟨l, sz, rfl, hl, hz, k⟩ := h
    refine ⟨_, pss_cons (ps_if (pt_not (pt_val (pe_callB call_isinst (by rfl) B.isinstance bt_isinstance (pa_cons (pv 0) (pa_cons (pe_bltn (v := .ty "list") (by rfl) B.list bt_list rfl) pa_nil))))) pss_never pss_nil)
      (pss_cons (ps_set (i := 1) sc_sizes_in.nd rfl (Or.inl rfl) (pe_callTy call_list_of (by rfl) B.list bt_list (pa_cons (pv 0) pa_nil)))
      (pss_cons (ps_if (pt_not (pt_chain op_le op_le pe_int (pe_callB call_len_seq (by rfl) B.len PySem.boot_len (pa_cons (pv 1) pa_nil)) (pe_glob (v := .int 4) (by rfl) e4 ⟨_, rfl⟩))) pss_never pss_nil)
      (pss_cons (ps_for PassesOwn.never rfl (pi_list (pv 1)) (pg_name (i := 2) sc_sizes_in.nd rfl (Or.inl rfl))
        (pss_one (ps_if (pt_not (pt_val (pe_fn N hr (pa_cons (pv 2) (pa_cons pe_int (pa_cons (pe_glob (v := .int 60) (by rfl) e60 ⟨_, rfl⟩) pa_nil)))))) pss_never pss_nil)))
      (pss_cons (ps_if (pt_cmpR op_gt (pe_fn C hr (pa_cons (pv 1) pa_nil)) (pe_glob (v := .int 2000) (by rfl) e2 ⟨_, rfl⟩) (nomark _)) pss_never pss_nil)
      (pss_one (ps_ret (pv 1))))))), ?_⟩
    refine ⟨_, rfl, _, _, _, _, _, rfl, .ty "list", .lst hl, kit_ll, _, rfl, iteF ?_⟩
    refine ⟨_, rfl, l, _, rfl, .inl (SqL.of hl), fun r nr => ?_⟩
    have s1 : Same H (upd H r (.lst (sz.map V.int))) := Same.new nr
    refine ⟨_, rfl, r, _, rfl, .inl (SqL.of upd_same), _, _, rfl, rfl, _, rfl, ?_⟩
    have h1 := hz.l1
    have h4 := hz.l4
    rw [decide_eq_true (by simp; omega)]
    refine iteT ⟨_, _, rfl, rfl, _, rfl, ?_⟩
    rw [decide_eq_true (by simp; omega)]
    refine iteF ?_
    refine ⟨_, rfl, r, rfl, ⟨_, SqL.of upd_same⟩, for_list (K := K) (a := r) (xs := sz.map V.int) (fun i σ H' => ∃ v, σ = [some (.ref l), some (.ref r), v] ∧ H' = upd H r (.lst (sz.map V.int)))
      ⟨none, rfl, rfl⟩ (fun i σ H' _ ⟨_, _, e⟩ => by subst e; exact SqL.of upd_same) ?_ ?_⟩
    · rintro i x σ H' hx ⟨v, rfl, rfl⟩
      obtain ⟨z, ez, rfl⟩ := mem_ints hx
      have hb := hz.bd z (List.mem_of_getElem? ez)
      refine ⟨_, rfl, z, 1, 60, rfl, _, rfl, ?_⟩
      rw [decide_eq_true hb.1, decide_eq_true hb.2]
      exact iteF ⟨_, rfl, rfl⟩
    · rintro σ H' ⟨v, rfl, rfl⟩
      refine ⟨_, rfl, r, sz, rfl, upd_same, hz.bd, _, _, rfl, rfl, _, rfl, ?_⟩
      have := hz.pr
      rw [decide_eq_false (by omega)]
      exact iteF ⟨_, rfl, k r _ s1 upd_same⟩
def sp_House_init (CH : Addr) : Sp := fun vs H Q _ => ∃ (p dx l : Addr) (sz : List Int) (tap : Bool), vs = [.ref p, .ref l, .bl tap] ∧ H p = some (.ins CH dx []) ∧ H l = some (.lst (sz.map V.int)) ∧ Hz sz ∧
  ∀ H', (∀ c o, H c = some o → c ≠ p → H' c = some o) → House CH H' p sz tap → Q .non H'
theorem ok_House_init {f : Addr} {fd : FuncData} (F : Fun K "__init__" "House.__init__" s_House_init f fd) (B : Bt mg) (C : CHs K CH) (N : FnB P w K mg base 2 "sizes_in" ["sizes"] sp_sizes_in) :
    FnOk P w K mg base CX0 3 f fd ["self", "sizes", "tap"] (sp_House_init CH) := by
  refine F.ok sc_House_init (fun vs H Q E h => ?_) (fun cdv A outer s H vs Q E hr h => ?_)
  · obtain ⟨p, dx, l, sz, tap, rfl, _⟩ := h
    rfl
  · obtain ⟨p, dx, l, sz, tap, rfl, hp, hl, hz, k⟩ := h
    refine ⟨_, pss_cons (ps_fld (pv 0) (pe_callTy call_tuple_of (by rfl) B.tuple bt_tuple (pa_cons (pe_fn N hr (pa_cons (pv 1) pa_nil)) pa_nil)) rfl)
      (pss_cons (ps_if (pt_not (pt_val (pe_callB call_isinst (by rfl) B.isinstance bt_isinstance (pa_cons (pv 2) (pa_cons (pe_bltn (v := .ty "bool") (by rfl) B.bool bt_bool rfl) pa_nil))))) pss_never pss_nil)
      (pss_one (ps_fld (pv 0) (pv 2) rfl))), ?_⟩
    refine ⟨_, rfl, l, sz, rfl, hl, hz, fun r H1 s1 hr1 => ?_⟩
    refine ⟨r, _, rfl, .inl ⟨SqL.of hr1, fun t nt => ?_⟩⟩
    have s2 : Same H (upd H1 t (.tup (sz.map V.int))) := s1.lay nt
    have tp : t ≠ p := fun e => by subst e; rw [s1 _ _ hp] at nt; cases nt
    refine ⟨_, rfl, p, CH, dx, [], rfl, s2 _ _ hp, C.cl, C.js, (by show 0 < 1000; decide), ?_⟩
    refine ⟨_, rfl, _, _, _, _, _, rfl, .ty "bool", .bl tap, kit_bb, _, rfl, iteF ?_⟩
    refine ⟨_, rfl, _, rfl, p, CH, dx, _, rfl, upd_same, C.cl, C.tap, (by show 1 < 1000; decide), ?_⟩
    refine k _ (fun c o e hc => by rw [upd_ne hc, upd_ne hc]; exact s2 _ _ e) ⟨dx, t, upd_same, ?_⟩
    rw [upd_ne tp, upd_ne tp, upd_same]
end

/-! ### what stays: all objects but lists and dicts -/
def fx : HO → Bool
  | .lst _ => false
  | .dK _ => false
  | .dT _ => false
  | _ => true
def Fix (H H' : Hp) : Prop := ∀ c o, H c = some o → fx o = true → H' c = some o
theorem Fix.refl (H : Hp) : Fix H H := fun _ _ e _ => e
theorem Fix.of {H H' : Hp} (s : Same H H') : Fix H H' := fun c o e _ => s c o e
theorem Fix.trans {H H1 H2 : Hp} (a : Fix H H1) (b : Fix H1 H2) : Fix H H2 := fun c o e f => b c o (a c o e f) f
theorem Fix.put {H : Hp} {l : Addr} {o o' : HO} (h : H l = some o) (f : fx o = false) : Fix H (upd H l o') := fun c u e g => by
  rw [upd_ne]
  · exact e
  · rintro rfl
    rw [h] at e
    cases e
    rw [f] at g
    cases g
theorem House.fix {CH : Addr} {H H' : Hp} {p : Addr} {sz : List Int} {tap : Bool} (h : House CH H p sz tap) (s : Fix H H') : House CH H' p sz tap := by
  obtain ⟨dx, t, h1, h2⟩ := h
  exact ⟨dx, t, s _ _ h1 rfl, s _ _ h2 rfl⟩
structure CTy (K : PySem.W.Frag) (C : Addr) : Prop where
  ha : PySem.W.findIn K (.ref C) "__class__" = some (some (.builtin "object.__class__"))
  hn : PySem.W.specialIn K (.builtin "object.__class__") "__get__" = some (some (.builtin "getset_descriptor.__get__"))
  htk : PySem.W.takesIn K (.builtin "object.__class__") = some true
  hm : PySem.W.mroIn K C (.type "object") = some true
theorem kit_self {K : PySem.W.Frag} (C : Addr) : PySem.W.kitOne K (.ref C) (.ref C) = some true := by
  unfold PySem.W.kitOne
  rw [if_pos (by simp)]
theorem pI : ∀ st : List Int, Paired isI (st.map V.int) st
  | [] => .nil
  | _ :: st => .cons rfl (pI st)
/-- == of tuples of ints, lists of ints, lists of tuples of ints, lists of bools -/
theorem rcT {X : Cx} {H : Hp} {a b : Addr} {s t : List Int} (ha : H a = some (.tup (s.map V.int))) (hb : H b = some (.tup (t.map V.int))) : RcD X H 20 (.ref a) (.ref b) (decide (s = t)) :=
  (EqR.tup (d := 19) EqR.int).rc _ _ s t ⟨a, _, rfl, SqT.of ha, pI s⟩ ⟨b, _, rfl, SqT.of hb, pI t⟩
theorem rcL {X : Cx} {H : Hp} {a b : Addr} {s t : List Int} (ha : H a = some (.lst (s.map V.int))) (hb : H b = some (.lst (t.map V.int))) : RcD X H 20 (.ref a) (.ref b) (decide (s = t)) :=
  (EqR.lst (d := 19) EqR.int).rc _ _ s t ⟨a, _, rfl, SqL.of ha, pI s⟩ ⟨b, _, rfl, SqL.of hb, pI t⟩
theorem pB : ∀ st : List Bool, Paired isB (st.map V.bl) st
  | [] => .nil
  | _ :: st => .cons rfl (pB st)
theorem rcB {X : Cx} {H : Hp} {a b : Addr} {s t : List Bool} (ha : H a = some (.lst (s.map V.bl))) (hb : H b = some (.lst (t.map V.bl))) : RcD X H 20 (.ref a) (.ref b) (decide (s = t)) :=
  (EqR.lst (d := 19) EqR.bl).rc _ _ s t ⟨a, _, rfl, SqL.of ha, pB s⟩ ⟨b, _, rfl, SqL.of hb, pB t⟩
section
variable {P : Program} {w : World} {K : PySem.W.Frag} {mg : Str → Option Value} {base : Heap} {CH : Addr}
def sp_check_jug : Sp := fun vs H Q _ => ∃ (j : Nat), vs = [.int j] ∧ j ≤ 3 ∧ Q .non H
theorem ok_check_jug {f : Addr} {fd : FuncData} (F : Fun K "check_jug" "check_jug" s_check_jug f fd) (N : FnB P w K mg base 2 "is_jug" ["value"] sp_is_jug) : FnOk P w K mg base CX0 3 f fd ["jug"] sp_check_jug := by
  refine F.ok sc_check_jug (fun vs H Q E h => ?_) (fun cdv A outer s H vs Q E hr h => ?_)
  · obtain ⟨j, rfl, _⟩ := h
    rfl
  · obtain ⟨j, rfl, hj, k⟩ := h
    refine ⟨_, pss_one (ps_if (pt_not (pt_val (pe_fn N hr (pa_cons (pv 0) pa_nil)))) pss_never pss_nil), ?_⟩
    refine ⟨_, rfl, (j : Int), rfl, _, rfl, ?_⟩
    rw [decide_eq_true (by omega : (0 : Int) ≤ j), decide_eq_true (by omega : (j : Int) ≤ 3)]
    exact iteF k
def sp_check_house_has (CH : Addr) : Sp := fun vs H Q _ => ∃ p sz tap, ∃ (j : Nat), vs = [.ref p, .int j] ∧ House CH H p sz tap ∧ j < sz.length ∧ ∀ H', Same H H' → Q .non H'
theorem ok_check_house_has {f : Addr} {fd : FuncData} (F : Fun K "check_house_has" "check_house_has" s_check_house_has f fd) (B : Bt mg) (S : MeB P w K mg base 1 CH "sizes" ["self"] (sp_sizes CH)) :
    FnOk P w K mg base CX0 2 f fd ["house", "jug"] (sp_check_house_has CH) := by
  refine F.ok sc_check_house_has (fun vs H Q E h => ?_) (fun cdv A outer s H vs Q E hr h => ?_)
  · obtain ⟨p, sz, tap, j, rfl, _⟩ := h
    rfl
  · obtain ⟨p, sz, tap, j, rfl, hh, hj, k⟩ := h
    obtain ⟨dx, t, hp, ht⟩ := id hh
    refine ⟨_, pss_one (ps_if (pt_cmpR op_ge (pv 1) (pe_callB call_len_seq (by rfl) B.len PySem.boot_len (pa_cons (pe_me0 S (pv 0) hr) pa_nil)) (nomark _)) pss_never pss_nil), ?_⟩
    refine ⟨_, rfl, _, rfl, p, dx, _, rfl, hp, hF_no _ _ (by decide +kernel) (by decide +kernel), p, sz, tap, rfl, hh, fun m hm => ?_⟩
    refine ⟨m, _, rfl, .inl (SqL.of upd_same), _, _, rfl, rfl, _, rfl, ?_⟩
    rw [decide_eq_false (by simp; omega)]
    exact iteF (k _ (Same.new hm))
end

/-! ### what the laws draw -/
theorem bt_range : bootBuiltins "range" = some (.type "range") := by decide +kernel
def prm : List Int := [1000003, 1000033, 1000037, 1000039, 1000081, 1000099, 1000117, 1000121, 1000133, 1000151, 1000159, 1000171, 1000183, 1000187, 1000193, 1000199]
theorem prm_pos : ∀ j : Nat, j < 16 → 0 < J.at0 prm j := by decide
def mos : List Int := [60, 11, 4, 2]
/-- sizes as a law draws them -/
structure LSz (sz : List Int) : Prop where
  l1 : 1 ≤ sz.length
  l4 : sz.length ≤ 4
  bd : ∀ s ∈ sz, 1 ≤ s ∧ s ≤ J.at0 mos (sz.length - 1)
theorem LSz.hz {sz : List Int} (h : LSz sz) : Hz sz := by
  have h1 := h.l1
  have h4 := h.l4
  have hb := h.bd
  refine ⟨h1, h4, fun s hs => ?_, ?_⟩
  · have := hb s hs
    have h2 : ∀ j : Nat, j < 4 → J.at0 mos j ≤ 60 := by decide
    have := h2 (sz.length - 1) (by omega)
    omega
  · match sz, h1, h4, hb with
    | [a], _, _, hb =>
      have := hb a (by simp)
      have e : J.at0 mos ([a].length - 1) = 60 := rfl
      rw [e] at this
      simp only [J.prod1, List.foldl_cons, List.foldl_nil]
      omega
    | [a, b], _, _, hb =>
      have h1 := hb a (by simp)
      have h2 := hb b (by simp)
      have e : J.at0 mos ([a, b].length - 1) = 11 := rfl
      rw [e] at h1 h2
      simp only [J.prod1, List.foldl_cons, List.foldl_nil]
      have : (a + 1) * (b + 1) ≤ 12 * 12 := Int.mul_le_mul (by omega) (by omega) (by omega) (by omega)
      rw [Int.one_mul]; omega
    | [a, b, c], _, _, hb =>
      have h1 := hb a (by simp)
      have h2 := hb b (by simp)
      have h3 := hb c (by simp)
      have e : J.at0 mos ([a, b, c].length - 1) = 4 := rfl
      rw [e] at h1 h2 h3
      simp only [J.prod1, List.foldl_cons, List.foldl_nil]
      have m1 : (a + 1) * (b + 1) ≤ 5 * 5 := Int.mul_le_mul (by omega) (by omega) (by omega) (by omega)
      have m2 : (a + 1) * (b + 1) * (c + 1) ≤ 25 * 5 := Int.mul_le_mul m1 (by omega) (by omega) (by omega)
      rw [Int.one_mul]; omega
    | [a, b, c, d], _, _, hb =>
      have h1 := hb a (by simp)
      have h2 := hb b (by simp)
      have h3 := hb c (by simp)
      have h4 := hb d (by simp)
      have e : J.at0 mos ([a, b, c, d].length - 1) = 2 := rfl
      rw [e] at h1 h2 h3 h4
      simp only [J.prod1, List.foldl_cons, List.foldl_nil]
      have m1 : (a + 1) * (b + 1) ≤ 3 * 3 := Int.mul_le_mul (by omega) (by omega) (by omega) (by omega)
      have m2 : (a + 1) * (b + 1) * (c + 1) ≤ 9 * 3 := Int.mul_le_mul m1 (by omega) (by omega) (by omega)
      have m3 : (a + 1) * (b + 1) * (c + 1) * (d + 1) ≤ 27 * 3 := Int.mul_le_mul m2 (by omega) (by omega) (by omega)
      rw [Int.one_mul]; omega
section
variable {P : Program} {w : World} {K : PySem.W.Frag} {mg : Str → Option Value} {base : Heap} {CH : Addr}
def sp_cell_at (K : PySem.W.Frag) : Sp := fun vs H Q _ => ∃ (a : Addr) (ns : List Int) (k : Int), vs = [.ref a, .int k] ∧ SqL K H a (ns.map V.int) ∧ 0 ≤ k ∧ ∀ c : Int, Q (.int c) H
theorem ok_cell_at {f : Addr} {fd : FuncData} (F : Fun K "_law_cell_at" "_law_cell_at" s__law_cell_at f fd) (B : Bt mg) : FnOk P w K mg base CX0 1 f fd ["_law_script", "_law_k"] (sp_cell_at K) := by
  refine F.ok sc__law_cell_at (fun vs H Q E h => ?_) (fun cdv A outer s H vs Q E hr h => ?_)
  · obtain ⟨a, ns, k, rfl, _⟩ := h
    rfl
  · obtain ⟨a, ns, k, rfl, ha, hk, q⟩ := h
    refine ⟨_, pss_cons (ps_if (pt_cmpR op_lt (pv 1) (pe_callB call_len_seq (by rfl) B.len PySem.boot_len (pa_cons (pv 0) pa_nil)) (nomark _)) (pss_one (ps_ret (pe_ix ix_list (pv 0) (pv 1) (fun _ _ => rfl)))) pss_nil) (pss_one (ps_ret pe_int)), ?_⟩
    refine ⟨_, rfl, _, rfl, a, _, rfl, .inl ha, _, _, rfl, rfl, _, rfl, ite2 (fun hlt => ?_) (fun _ => q 0)⟩
    have hlt : k < ((ns.map V.int).length : Int) := of_decide_eq_true hlt
    rw [List.length_map] at hlt
    refine ⟨_, rfl, _, rfl, a, _, _, .int (J.at0 ns k.toNat), rfl, rfl, ha, ?_, q _⟩
    have e : ((k.toNat : Nat) : Int) = k := Int.toNat_of_nonneg hk
    rw [← e]
    exact atI_nat (getV_of (by omega))
def sp_draw : Sp := fun vs H Q _ => ∃ c k m : Int, vs = [.int c, .int k, .int m] ∧ 0 ≤ k ∧ 0 < m ∧ ∀ r H', 0 ≤ r → r < m → Same H H' → Q (.int r) H'
theorem ok_draw {f : Addr} {fd : FuncData} (F : Fun K "_law_draw" "_law_draw" s__law_draw f fd) : FnOk P w K mg base CX0 1 f fd ["_law_cell", "_law_k", "_law_many"] sp_draw := by
  refine F.ok sc__law_draw (fun vs H Q E h => ?_) (fun cdv A outer s H vs Q E hr h => ?_)
  · obtain ⟨c, k, m, rfl, _⟩ := h
    rfl
  · obtain ⟨c, k, m, rfl, hk, hm, q⟩ := h
    refine ⟨_, @pss_cons _ _ _ _ _ (@ps_set _ _ 3 "_law_primes" _ _ _ sc__law_draw.nd rfl (Or.inl rfl) (@pe_tup _ _ _ _ _ (@pa_ints _ _ prm (by decide +kernel))) rfl (.inl rfl))
      (pss_one (ps_ret (pe_op op_mod (pe_op op_mod (pe_op op_add (pe_op op_mul (pv 0) pe_int) (pe_op op_mul (pv 1) pe_int)) (pe_ix ix_tup (pv 3) (pe_op op_mod (pv 1) pe_int) (fun _ _ => rfl))) (pv 2)))), ?_⟩
    refine ⟨(by show 16 ≤ sizeLine; decide), fun t nt => ?_⟩
    have e : (((k % 16).toNat : Nat) : Int) = k % 16 := Int.toNat_of_nonneg (by omega)
    have hlt : (k % 16).toNat < 16 := by omega
    refine ⟨_, rfl, _, _, rfl, rfl, .inr ⟨by decide, by decide⟩, _, rfl, _, _, rfl, rfl, .inr ⟨by decide, by decide⟩, _, _, rfl, rfl, _, rfl, _, rfl, _, _, rfl, rfl, (by show (0 : Int) < 16; decide), t, _, _, .int (J.at0 prm (k % 16).toNat), rfl, rfl, SqT.of upd_same,
      by show atI (prm.map V.int) (k % 16) = _; rw [← e]; exact atI_nat (getV_of hlt), _, _, rfl, rfl, prm_pos _ hlt, _, rfl, _, _, rfl, rfl, hm, ?_⟩
    exact q _ _ (Int.emod_nonneg _ (by omega)) (Int.emod_lt_of_pos _ hm) (Same.new nt)
def sp_law_sizes : Sp := fun vs H Q _ => ∃ c : Int, vs = [.int c] ∧ ∀ l H' sz, Same H H' → H l = none → H' l = some (.lst (sz.map V.int)) → LSz sz → Q (.ref l) H'
theorem ok_law_sizes {f : Addr} {fd : FuncData} (F : Fun K "_law_sizes" "_law_sizes" s__law_sizes f fd) (B : Bt mg) (D : FnB P w K mg base 1 "_law_draw" ["_law_cell", "_law_k", "_law_many"] sp_draw) : FnOk P w K mg base CX0 2 f fd ["_law_cell"] sp_law_sizes := by
  refine F.ok sc__law_sizes (fun vs H Q E h => ?_) (fun cdv A outer s H vs Q E hr h => ?_)
  · obtain ⟨c, rfl, _⟩ := h
    rfl
  · obtain ⟨c, rfl, k⟩ := h
    refine ⟨_, pss_cons (ps_set (i := 1) sc__law_sizes.nd rfl (Or.inl rfl) (pe_op op_add pe_int (pe_fn D hr (pa_cons (pv 0) (pa_cons pe_int (pa_cons pe_int pa_nil))))))
      (pss_cons (ps_set (i := 2) sc__law_sizes.nd rfl (Or.inr rfl) (pe_ix ix_tup (pe_tup (pa_ints (ns := mos) (by decide +kernel))) (pe_op op_sub (pv 1) pe_int) (fun _ _ => rfl)))
      (pss_one (ps_ret (pe_lc sc__law_sizes [0, 2] (pi_range1 (by rfl) B.range (pa_cons (pv 1) pa_nil)) (fun _ _ _ _ _ _ => ⟨pif_nil, pe_op op_add pe_int (pe_fn D hr (pa_cons (pe_op op_add (pv 1) (pe_op op_mul pe_int (pv 0))) (pa_cons (pe_op op_add pe_int (pv 0)) (pa_cons (pv 2) pa_nil))))⟩))))), ?_⟩
    refine ⟨_, rfl, c, 0, 4, rfl, by decide, by decide, fun r H1 r0 r4 s1 => ?_⟩
    obtain ⟨n, rfl⟩ : ∃ n : Nat, r = (n : Int) := ⟨r.toNat, (Int.toNat_of_nonneg r0).symm⟩
    have hn : n < 4 := by omega
    refine ⟨_, _, rfl, rfl, (by show 4 ≤ sizeLine; decide), fun t nt => ?_⟩
    have em : (1 + (n : Int)) - 1 = (n : Int) := by omega
    refine ⟨_, rfl, _, _, rfl, rfl, t, _, _, .int (J.at0 mos n), rfl, rfl, SqT.of upd_same, by show atI (mos.map V.int) ((1 + (n : Int)) - 1) = _; rw [em]; exact atI_nat (getV_of hn), ?_⟩
    have s2 : Same H (upd H1 t (.tup (mos.map V.int))) := s1.lay nt
    have hmo : ∀ j : Nat, j < 4 → 0 < J.at0 mos j := by decide
    refine ⟨_, rfl, 1 + (n : Int), rfl, by omega, by omega, ?_⟩
    have en : (1 + (n : Int)).toNat = n + 1 := by omega
    rw [en]
    refine lc_rangeN (n := n + 1) (fun i ys H' => Same (upd H1 t (.tup (mos.map V.int))) H' ∧ ∃ sz : List Int, ys = sz.map V.int ∧ sz.length = i ∧ ∀ s ∈ sz, 1 ≤ s ∧ s ≤ J.at0 mos n) ⟨Same.refl _, [], rfl, rfl, by simp⟩ (small1000 (by omega))
      (fun i ys H' ⟨_, sz, e, l, _⟩ => by rw [e, List.length_map, l]; exact Nat.le_refl _) ?_ ?_
    · rintro i ys H2 hi ⟨s3, sz, rfl, hl, hb⟩
      refine tYes_of ⟨_, rfl, _, rfl, _, _, rfl, rfl, .inl ⟨by decide, by decide⟩, _, _, rfl, rfl, _, rfl, _, _, rfl, rfl, _, rfl, _, _, _, rfl, by omega, hmo n hn, fun r' H3 r0' r4' s4 => ?_⟩
      refine ⟨_, _, rfl, rfl, s3.trans s4, sz ++ [1 + r'], ?_, ?_, ?_⟩
      · rw [List.map_append]; rfl
      · simp [hl]
      · intro s hs
        rcases List.mem_append.mp hs with h | h
        · exact hb s h
        · have e : s = 1 + r' := by simpa using h
          omega
    · rintro ys H2 ⟨s3, sz, rfl, hl, hb⟩ D nD
      refine k D _ sz ((s2.trans s3).lay nD) ((s2.trans s3).free nD) upd_same ⟨by omega, by omega, fun s hs => ?_⟩
      rw [hl]; exact hb s hs
def sp_law_state : Sp := fun vs H Q _ => ∃ (c : Int) (l : Addr) (sz : List Int), vs = [.int c, .ref l] ∧ H l = some (.lst (sz.map V.int)) ∧ sz.length ≤ 4 ∧ (∀ s ∈ sz, 0 ≤ s) ∧ ∀ t H' st, Same H H' → H' t = some (.tup (st.map V.int)) → J.IsSt sz st → Q (.ref t) H'
theorem at0_snoc (l : List Int) (v : Int) (j : Nat) : J.at0 (l ++ [v]) j = if j = l.length then v else J.at0 l j := by
  unfold J.at0
  rw [List.getD_eq_getElem?_getD, List.getD_eq_getElem?_getD, List.getElem?_append]
  by_cases h : j < l.length
  · rw [if_pos h, if_neg (by omega)]
  · rw [if_neg h]
    by_cases h2 : j = l.length
    · rw [if_pos h2, h2]; simp
    · rw [if_neg h2, List.getElem?_eq_none_iff.mpr (by simp; omega), List.getElem?_eq_none_iff.mpr (by omega)]
theorem ok_law_state {f : Addr} {fd : FuncData} (F : Fun K "_law_state" "_law_state" s__law_state f fd) (B : Bt mg) (D : FnB P w K mg base 1 "_law_draw" ["_law_cell", "_law_k", "_law_many"] sp_draw) : FnOk P w K mg base CX0 2 f fd ["_law_cell", "_law_sizes_here"] sp_law_state := by
  refine F.ok sc__law_state (fun vs H Q E h => ?_) (fun cdv A outer s H vs Q E hr h => ?_)
  · obtain ⟨c, l, sz, rfl, _⟩ := h
    rfl
  · obtain ⟨c, l, sz, rfl, hl, h4, hnn, k⟩ := h
    refine ⟨_, pss_cons (ps_set (i := 2) sc__law_state.nd rfl (Or.inl rfl) (pe_lst pa_nil))
      (pss_cons (ps_for PassesOwn.never rfl (pi_range1 (by rfl) B.range (pa_cons (pe_callB call_len_seq (by rfl) B.len PySem.boot_len (pa_cons (pv 1) pa_nil)) pa_nil)) (pg_name (i := 3) sc__law_state.nd rfl (Or.inl rfl))
        (pss_cons (ps_set (i := 4) sc__law_state.nd rfl (Or.inl rfl) (pe_fn D hr (pa_cons (pe_op op_add (pv 0) (pe_op op_mul pe_int (pv 3))) (pa_cons (pe_op op_add pe_int (pv 3)) (pa_cons pe_int pa_nil)))))
        (pss_one (ps_expr (pe_append (pv 2) (pe_ix ix_tup (pe_tup (pa_cons pe_int (pa_cons (pe_ix ix_list (pv 1) (pv 3) (fun _ _ => rfl)) (pa_cons (pe_fn D hr (pa_cons (pv 0) (pa_cons (pe_op op_add pe_int (pv 3)) (pa_cons (pe_op op_add (pe_ix ix_list (pv 1) (pv 3) (fun _ _ => rfl)) pe_int) pa_nil)))) (pa_cons pe_int pa_nil))))) (pv 4) (fun _ _ => rfl)))))))
      (pss_one (ps_ret (pe_callTy call_tuple_of (by rfl) B.tuple bt_tuple (pa_cons (pv 2) pa_nil))))), ?_⟩
    refine ⟨(by show 0 ≤ sizeLine; decide), fun r nr => ?_⟩
    have s1 : Same H (upd H r (.lst [])) := Same.new nr
    refine ⟨_, rfl, l, _, rfl, .inl (SqL.of (s1 _ _ hl)), ((sz.length : Nat) : Int), (by rw [List.length_map]), by omega, by omega, for_rangeN (n := sz.length) (fun i σ H' => ∃ st v3 v4, σ = [some (.int c), some (.ref l), some (.ref r), v3, v4] ∧ Same H H' ∧ H' r = some (.lst (st.map V.int)) ∧ st.length = i ∧ ∀ j, j < i → 0 ≤ J.at0 st j ∧ J.at0 st j ≤ J.at0 sz j)
      ⟨[], none, none, rfl, s1, upd_same, rfl, fun j hj => absurd hj (Nat.not_lt_zero _)⟩ ?_ ?_⟩
    · rintro i σ H1 hi ⟨st, v3, v4, rfl, s2, e2, hst, hb⟩
      refine ⟨_, rfl, _, rfl, _, _, rfl, rfl, .inl ⟨by decide, by decide⟩, _, _, rfl, rfl, _, rfl, _, _, rfl, rfl, _, _, _, rfl, by omega, by decide, fun kd H2 k0 k4 s3 => ?_⟩
      have hli := s3 _ _ (s2 _ _ hl)
      have hz := hnn _ (List.mem_of_getElem? (get_of hi))
      refine ⟨_, rfl, .inl ⟨rfl, _, SqL.of (s3 _ _ e2)⟩, _, rfl, _, rfl, l, _, _, _, rfl, rfl, SqL.of hli, atI_nat (getV_of hi), ?_⟩
      refine ⟨_, rfl, _, rfl, _, _, rfl, rfl, _, rfl, _, rfl, l, _, _, _, rfl, rfl, SqL.of hli, atI_nat (getV_of hi), _, _, rfl, rfl, _, _, _, rfl, by omega, by omega, fun d H3 d0 d4 s4 => ?_⟩
      refine ⟨(by show 4 ≤ sizeLine; decide), fun t nt => ?_⟩
      obtain ⟨n, rfl⟩ : ∃ n : Nat, kd = (n : Int) := ⟨kd.toNat, (Int.toNat_of_nonneg k0).symm⟩
      have hn : n < 4 := by omega
      refine ⟨_, rfl, t, _, _, .int (J.at0 [0, J.at0 sz i, d, 0] n), rfl, rfl, SqT.of upd_same, atI_nat (getV_of (l := [0, J.at0 sz i, d, 0]) hn), ?_⟩
      have s5 : Same H2 (upd H3 t (.tup ([0, J.at0 sz i, d, 0].map V.int))) := s4.lay nt
      refine ⟨r, _, _, rfl, rfl, s5 _ _ (s3 _ _ e2), small1000 (by rw [List.length_map]; omega), ?_⟩
      refine ⟨st ++ [J.at0 [0, J.at0 sz i, d, 0] n], _, _, rfl, ((s2.trans s3).trans s5).put nr, ?_, by simp [hst], fun j hj => ?_⟩
      · rw [upd_same, List.map_append]; rfl
      · rw [at0_snoc]
        by_cases hj' : j = st.length
        · rw [if_pos hj', hj', hst]
          match n, hn with
          | 0, _ => exact ⟨Int.le_refl 0, hz⟩
          | 1, _ => exact ⟨hz, Int.le_refl _⟩
          | 2, _ => exact ⟨d0, Int.lt_add_one_iff.mp d4⟩
          | 3, _ => exact ⟨Int.le_refl 0, hz⟩
        · rw [if_neg hj']
          exact hb j (by omega)
    · rintro σ H1 ⟨st, v3, v4, rfl, s2, e2, hst, hb⟩
      refine ⟨_, rfl, r, _, rfl, .inl ⟨SqL.of e2, fun t nt => k t _ st (s2.lay nt) upd_same ⟨hst, hb⟩⟩⟩
end

/-! ### goals -/
structure Gz where
  H : Addr
  S : Addr
  U : Addr
  W : Addr
inductive Go where
  | holds (j : Nat) (m : Int)
  | som (m : Int)
  | sum (js : List Int) (m : Int)
  | whole (st : List Int)
def hoF (j : Nat) (m : Int) : List (Str × V) := putF "many" (.int m) (putF "jug" (.int j) [])
def soF (m : Int) : List (Str × V) := putF "many" (.int m) []
def suF (t : Addr) (m : Int) : List (Str × V) := putF "many" (.int m) (putF "jugs" (.ref t) [])
def whF (t : Addr) : List (Str × V) := putF "state" (.ref t) []
theorem n_many_jug : ¬ (("many" : Str) = "jug") := by decide +kernel
theorem n_many_jugs : ¬ (("many" : Str) = "jugs") := by decide +kernel
theorem hoF_jug (j : Nat) (m : Int) : (hoF j m).lookup ("jug" : Str) = some (.int j) := by
  unfold hoF; rw [lookup_putF, if_neg (fun e => n_many_jug e.symm), lookup_putF, if_pos rfl]
theorem hoF_many (j : Nat) (m : Int) : (hoF j m).lookup ("many" : Str) = some (.int m) := by
  unfold hoF; rw [lookup_putF, if_pos rfl]
theorem hoF_no (j : Nat) (m : Int) {x : Str} (h1 : ¬ x = "many") (h2 : ¬ x = "jug") : (hoF j m).lookup x = none := by
  unfold hoF; rw [lookup_putF, if_neg h1, lookup_putF, if_neg h2]; rfl
theorem soF_many (m : Int) : (soF m).lookup ("many" : Str) = some (.int m) := by
  unfold soF; rw [lookup_putF, if_pos rfl]
theorem soF_no (m : Int) {x : Str} (h1 : ¬ x = "many") : (soF m).lookup x = none := by
  unfold soF; rw [lookup_putF, if_neg h1]; rfl
theorem suF_jugs (t : Addr) (m : Int) : (suF t m).lookup ("jugs" : Str) = some (.ref t) := by
  unfold suF; rw [lookup_putF, if_neg (fun e => n_many_jugs e.symm), lookup_putF, if_pos rfl]
theorem suF_many (t : Addr) (m : Int) : (suF t m).lookup ("many" : Str) = some (.int m) := by
  unfold suF; rw [lookup_putF, if_pos rfl]
theorem suF_no (t : Addr) (m : Int) {x : Str} (h1 : ¬ x = "many") (h2 : ¬ x = "jugs") : (suF t m).lookup x = none := by
  unfold suF; rw [lookup_putF, if_neg h1, lookup_putF, if_neg h2]; rfl
theorem whF_state (t : Addr) : (whF t).lookup ("state" : Str) = some (.ref t) := by
  unfold whF; rw [lookup_putF, if_pos rfl]
theorem whF_no (t : Addr) {x : Str} (h1 : ¬ x = "state") : (whF t).lookup x = none := by
  unfold whF; rw [lookup_putF, if_neg h1]; rfl
def GoAt (Z : Gz) (H : Hp) (p : Addr) : Go → Prop
  | .holds j m => ∃ dx, H p = some (.ins Z.H dx (hoF j m))
  | .som m => ∃ dx, H p = some (.ins Z.S dx (soF m))
  | .sum js m => ∃ dx t, H p = some (.ins Z.U dx (suF t m)) ∧ H t = some (.tup (js.map V.int))
  | .whole st => ∃ dx t, H p = some (.ins Z.W dx (whF t)) ∧ H t = some (.tup (st.map V.int))
theorem GoAt.fix {Z : Gz} {H H' : Hp} {p : Addr} {g : Go} (h : GoAt Z H p g) (s : Fix H H') : GoAt Z H' p g := by
  cases g with
  | holds j m => obtain ⟨dx, e⟩ := h; exact ⟨dx, s _ _ e rfl⟩
  | som m => obtain ⟨dx, e⟩ := h; exact ⟨dx, s _ _ e rfl⟩
  | sum js m => obtain ⟨dx, t, e, e2⟩ := h; exact ⟨dx, t, s _ _ e rfl, s _ _ e2 rfl⟩
  | whole st => obtain ⟨dx, t, e, e2⟩ := h; exact ⟨dx, t, s _ _ e rfl, s _ _ e2 rfl⟩
theorem GoAt.mono {Z : Gz} {H H' : Hp} {p : Addr} {g : Go} (h : GoAt Z H p g) (s : Same H H') : GoAt Z H' p g := h.fix (Fix.of s)
/-- the house has the goal -/
def Go.ok (sz : List Int) : Go → Prop
  | .holds j _ => j < sz.length
  | .som _ => True
  | .sum js _ => js.length ≤ 4 ∧ ∀ j ∈ js, 0 ≤ j ∧ j < sz.length
  | .whole t => J.IsSt sz t
def sumAt (st js : List Int) : Int := (js.map fun j => J.at0 st j.toNat).sum
def Go.met (st : List Int) : Go → Bool
  | .holds j m => decide (J.at0 st j = m)
  | .som m => decide (m ∈ st)
  | .sum js m => decide (sumAt st js = m)
  | .whole t => decide (st = t)
def Go.num : Go → Nat
  | .holds _ _ => 0
  | .som _ => 1
  | .sum _ _ => 2
  | .whole _ => 3
theorem decV (a b : Int) : decide (V.int a = V.int b) = decide (a = b) := by
  by_cases h : a = b
  · rw [decide_eq_true h, decide_eq_true (by rw [h])]
  · rw [decide_eq_false h, decide_eq_false (fun e => h (by injection e))]
theorem inV_ints (m : Int) (st : List Int) : inV (.int m) (st.map V.int) = decide (m ∈ st) := by
  unfold inV
  rw [Bool.eq_iff_iff, List.any_eq_true, decide_eq_true_iff]
  constructor
  · rintro ⟨x, hx, e⟩
    obtain ⟨z, hz, rfl⟩ := List.mem_map.mp hx
    have : z = m := beq_iff_eq.mp (show (z == m) = true from e)
    exact this ▸ hz
  · intro h
    exact ⟨.int m, List.mem_map.mpr ⟨m, h, rfl⟩, (show (m == m) = true from beq_iff_eq.mpr rfl)⟩
theorem flat_ints (st : List Int) : (st.map V.int).all flatV = true := by
  rw [List.all_eq_true]
  intro x hx
  obtain ⟨z, _, rfl⟩ := List.mem_map.mp hx
  rfl
structure CHo (K : PySem.W.Frag) (C : Addr) : Prop where
  cl : Cls K C
  jug : NoAttr K C "jug"
  many : NoAttr K C "many"
structure CSo (K : PySem.W.Frag) (C : Addr) : Prop where
  cl : Cls K C
  many : NoAttr K C "many"
structure CSu (K : PySem.W.Frag) (C : Addr) : Prop where
  cl : Cls K C
  jugs : NoAttr K C "jugs"
  many : NoAttr K C "many"
structure CWh (K : PySem.W.Frag) (C : Addr) : Prop where
  cl : Cls K C
  state : NoAttr K C "state"
section
variable {P : Program} {w : World} {K : PySem.W.Frag} {mg : Str → Option Value} {base : Heap} {CH : Addr} {Z : Gz}
def sp_check_amount : Sp := fun vs H Q _ => ∃ m : Int, vs = [.int m] ∧ 0 ≤ m ∧ m ≤ 240 ∧ Q .non H
theorem ok_check_amount {f : Addr} {fd : FuncData} (F : Fun K "check_amount" "check_amount" s_check_amount f fd) (hA : ∃ t, mg "MOST_AMOUNT" = some (.int 240 t)) (N : FnB P w K mg base 1 "is_number" ["value", "least", "most"] sp_is_number) : FnOk P w K mg base CX0 2 f fd ["many"] sp_check_amount := by
  obtain ⟨t, eA⟩ := hA
  refine F.ok sc_check_amount (fun vs H Q E h => ?_) (fun cdv A outer s H vs Q E hr h => ?_)
  · obtain ⟨m, rfl, _⟩ := h
    rfl
  · obtain ⟨m, rfl, h0, h1, k⟩ := h
    refine ⟨_, pss_one (ps_if (pt_not (pt_val (pe_fn N hr (pa_cons (pv 0) (pa_cons pe_int (pa_cons (pe_glob (v := .int 240) (by rfl) eA ⟨_, rfl⟩) pa_nil)))))) pss_never pss_nil), ?_⟩
    refine ⟨_, rfl, m, 0, 240, rfl, _, rfl, ?_⟩
    rw [decide_eq_true h0, decide_eq_true h1]
    exact iteF k
def sp_jugs_in : Sp := fun vs H Q _ => ∃ (l : Addr) (js : List Int), vs = [.ref l] ∧ H l = some (.lst (js.map V.int)) ∧ js.Nodup ∧ 1 ≤ js.length ∧ js.length ≤ 4 ∧ (∀ j ∈ js, 0 ≤ j ∧ j ≤ 3) ∧ ∀ r H', Same H H' → H' r = some (.lst (js.map V.int)) → Q (.ref r) H'
theorem ok_jugs_in {f : Addr} {fd : FuncData} (F : Fun K "jugs_in" "jugs_in" s_jugs_in f fd) (B : Bt mg) (hs : mg "set" = none) (N : FnB P w K mg base 3 "check_jug" ["jug"] sp_check_jug) : FnOk P w K mg base CX0 4 f fd ["jugs"] sp_jugs_in := by
  refine F.ok sc_jugs_in (fun vs H Q E h => ?_) (fun cdv A outer s H vs Q E hr h => ?_)
  · obtain ⟨l, js, rfl, _⟩ := h
    rfl
  · obtain ⟨l, js, rfl, hl, hnd, h1, h4, hb, k⟩ := h
    have nd := sc_jugs_in.nd
    refine ⟨_, pss_cons (ps_if (pt_not (pt_val (pe_callB call_isinst (by rfl) B.isinstance bt_isinstance (pa_cons (pv 0) (pa_cons (pe_bltn (v := .ty "list") (by rfl) B.list bt_list rfl) pa_nil))))) pss_never pss_nil)
      (pss_cons (ps_set (i := 1) nd rfl (Or.inl rfl) (pe_callTy call_list_of (by rfl) B.list bt_list (pa_cons (pv 0) pa_nil)))
      (pss_cons (ps_for PassesOwn.never rfl (pi_list (pv 1)) (pg_name (i := 2) nd rfl (Or.inl rfl))
        (pss_one (ps_expr (pe_fn N hr (pa_cons (pv 2) pa_nil)))))
      (pss_cons (ps_if (pt_cmpR op_eq (pe_callB call_len_seq (by rfl) B.len PySem.boot_len (pa_cons (pv 1) pa_nil)) pe_int (nomark _)) pss_never pss_nil)
      (pss_cons (ps_if (pt_cmpR op_ne (pe_lenset rfl (by rfl) B.len (by rfl) hs (pv 1)) (pe_callB call_len_seq (by rfl) B.len PySem.boot_len (pa_cons (pv 1) pa_nil)) (nomark _)) pss_never pss_nil)
      (pss_one (ps_ret (pv 1))))))), ?_⟩
    refine ⟨_, rfl, _, _, _, _, _, rfl, .ty "list", .lst hl, kit_ll, _, rfl, iteF ?_⟩
    refine ⟨_, rfl, l, _, rfl, .inl (SqL.of hl), fun r nr => ?_⟩
    have s1 : Same H (upd H r (.lst (js.map V.int))) := Same.new nr
    refine ⟨_, rfl, r, rfl, ⟨_, SqL.of upd_same⟩, for_list (K := K) (a := r) (xs := js.map V.int) (fun i σ H' => ∃ v, σ = [some (.ref l), some (.ref r), v] ∧ H' = upd H r (.lst (js.map V.int)))
      ⟨none, rfl, rfl⟩ (fun i σ H' _ ⟨_, _, e⟩ => by subst e; exact SqL.of upd_same) ?_ ?_⟩
    · rintro i x σ H' hx ⟨v, rfl, rfl⟩
      obtain ⟨z, ez, rfl⟩ := mem_ints hx
      obtain ⟨z0, z3⟩ := hb z (List.mem_of_getElem? ez)
      obtain ⟨j, rfl⟩ : ∃ j : Nat, z = (j : Int) := ⟨z.toNat, (Int.toNat_of_nonneg z0).symm⟩
      exact ⟨_, rfl, j, rfl, by omega, _, rfl, rfl⟩
    · rintro σ H' ⟨v, rfl, rfl⟩
      refine ⟨_, rfl, r, _, rfl, .inl (SqL.of upd_same), rfl, _, rfl, ?_⟩
      rw [decV, decide_eq_false (by rw [List.length_map]; omega)]
      refine iteF ?_
      refine ⟨_, rfl, r, js, rfl, SqL.of upd_same, hnd, by omega, ?_⟩
      refine ⟨_, rfl, r, _, rfl, .inl (SqL.of upd_same), rfl, _, rfl, iteNS (by rw [List.length_map]) ?_⟩
      exact ⟨_, rfl, k r _ s1 upd_same⟩
def sp_amounts_in : Sp := fun vs H Q _ => ∃ (l : Addr) (st : List Int), vs = [.ref l] ∧ H l = some (.tup (st.map V.int)) ∧ 1 ≤ st.length ∧ st.length ≤ 4 ∧ (∀ j ∈ st, 0 ≤ j ∧ j ≤ 60) ∧ ∀ r H', Same H H' → H' r = some (.lst (st.map V.int)) → Q (.ref r) H'
theorem ok_amounts_in {f : Addr} {fd : FuncData} (F : Fun K "amounts_in" "amounts_in" s_amounts_in f fd) (B : Bt mg) (N : FnB P w K mg base 1 "is_number" ["value", "least", "most"] sp_is_number) : FnOk P w K mg base CX0 2 f fd ["state"] sp_amounts_in := by
  obtain ⟨t4, e4⟩ := B.jugs
  obtain ⟨t60, e60⟩ := B.size
  refine F.ok sc_amounts_in (fun vs H Q E h => ?_) (fun cdv A outer s H vs Q E hr h => ?_)
  · obtain ⟨l, sz, rfl, _⟩ := h
    rfl
  · obtain ⟨l, sz, rfl, hl, h1, h4, hb, k⟩ := h
    have nd := sc_amounts_in.nd
    refine ⟨_, pss_cons (ps_if (pt_not (pt_val (pe_callB call_isinst (by rfl) B.isinstance bt_isinstance (pa_cons (pv 0) (pa_cons (pe_bltn (v := .ty "tuple") (by rfl) B.tuple bt_tuple rfl) pa_nil))))) pss_never pss_nil)
      (pss_cons (ps_set (i := 1) nd rfl (Or.inl rfl) (pe_callTy call_list_of (by rfl) B.list bt_list (pa_cons (pv 0) pa_nil)))
      (pss_cons (ps_if (pt_not (pt_chain op_le op_le pe_int (pe_callB call_len_seq (by rfl) B.len PySem.boot_len (pa_cons (pv 1) pa_nil)) (pe_glob (v := .int 4) (by rfl) e4 ⟨_, rfl⟩))) pss_never pss_nil)
      (pss_cons (ps_for PassesOwn.never rfl (pi_list (pv 1)) (pg_name (i := 2) nd rfl (Or.inl rfl))
        (pss_one (ps_if (pt_not (pt_val (pe_fn N hr (pa_cons (pv 2) (pa_cons pe_int (pa_cons (pe_glob (v := .int 60) (by rfl) e60 ⟨_, rfl⟩) pa_nil)))))) pss_never pss_nil)))
      (pss_one (ps_ret (pv 1)))))), ?_⟩
    refine ⟨_, rfl, _, _, _, _, _, rfl, .ty "tuple", .tup hl, kit_tt, _, rfl, iteF ?_⟩
    refine ⟨_, rfl, l, _, rfl, .inr (SqT.of hl), fun r nr => ?_⟩
    have s1 : Same H (upd H r (.lst (sz.map V.int))) := Same.new nr
    refine ⟨_, rfl, r, _, rfl, .inl (SqL.of upd_same), _, _, rfl, rfl, _, rfl, ?_⟩
    rw [decide_eq_true (by simp; omega)]
    refine iteT ⟨_, _, rfl, rfl, _, rfl, ?_⟩
    rw [decide_eq_true (by simp; omega)]
    refine iteF ?_
    refine ⟨_, rfl, r, rfl, ⟨_, SqL.of upd_same⟩, for_list (K := K) (a := r) (xs := sz.map V.int) (fun i σ H' => ∃ v, σ = [some (.ref l), some (.ref r), v] ∧ H' = upd H r (.lst (sz.map V.int)))
      ⟨none, rfl, rfl⟩ (fun i σ H' _ ⟨_, _, e⟩ => by subst e; exact SqL.of upd_same) ?_ ?_⟩
    · rintro i x σ H' hx ⟨v, rfl, rfl⟩
      obtain ⟨z, ez, rfl⟩ := mem_ints hx
      have hb := hb z (List.mem_of_getElem? ez)
      refine ⟨_, rfl, z, 0, 60, rfl, _, rfl, ?_⟩
      rw [decide_eq_true hb.1, decide_eq_true hb.2]
      exact iteF ⟨_, rfl, rfl⟩
    · rintro σ H' ⟨v, rfl, rfl⟩
      exact ⟨_, rfl, k r _ s1 upd_same⟩
def sp_check_state_of (CH : Addr) : Sp := fun vs H Q _ => ∃ p sz tap a st, vs = [.ref p, .ref a] ∧ House CH H p sz tap ∧ H a = some (.tup (st.map V.int)) ∧ J.IsSt sz st ∧ ∀ H', Same H H' → Q .non H'
theorem ok_check_state_of {f : Addr} {fd : FuncData} (F : Fun K "check_state_of" "check_state_of" s_check_state_of f fd) (N : FnB P w K mg base 2 "held_in" ["house", "state"] (sp_held_in CH)) : FnOk P w K mg base CX0 3 f fd ["house", "state"] (sp_check_state_of CH) := by
  refine F.ok sc_check_state_of (fun vs H Q E h => ?_) (fun cdv A outer s H vs Q E hr h => ?_)
  · obtain ⟨p, sz, tap, a, st, rfl, _⟩ := h
    rfl
  · obtain ⟨p, sz, tap, a, st, rfl, hh, ha, hst, k⟩ := h
    refine ⟨_, pss_one (ps_try fun E' => pss_one (ps_expr (pe_fn N hr (pa_cons (pv 0) (pa_cons (pv 1) pa_nil))))), ?_⟩
    exact ⟨_, rfl, _, rfl, p, sz, tap, a, st, rfl, hh, ha, hst, fun l H' s' _ _ => k _ s'⟩
end

section
variable {P : Program} {w : World} {K : PySem.W.Frag} {mg : Str → Option Value} {base : Heap} {CH : Addr} {Z : Gz}
def sp_Holds_init (Z : Gz) : Sp := fun vs H Q _ => ∃ (p dx : Addr) (j : Nat) (m : Int), vs = [.ref p, .int j, .int m] ∧ H p = some (.ins Z.H dx []) ∧ j ≤ 3 ∧ 0 ≤ m ∧ m ≤ 240 ∧
  ∀ H', (∀ c o, H c = some o → c ≠ p → H' c = some o) → GoAt Z H' p (.holds j m) → Q .non H'
theorem ok_Holds_init {f : Addr} {fd : FuncData} (F : Fun K "__init__" "Holds.__init__" s_Holds_init f fd) (C : CHo K Z.H) (N : FnB P w K mg base 3 "check_jug" ["jug"] sp_check_jug) (M : FnB P w K mg base 2 "check_amount" ["many"] sp_check_amount) :
    FnOk P w K mg base CX0 4 f fd ["self", "jug", "many"] (sp_Holds_init Z) := by
  refine F.ok sc_Holds_init (fun vs H Q E h => ?_) (fun cdv A outer s H vs Q E hr h => ?_)
  · obtain ⟨p, dx, a, b, rfl, _⟩ := h
    rfl
  · obtain ⟨p, dx, j, m, rfl, hp, hj, h0, h1, k⟩ := h
    refine ⟨_, pss_cons (ps_expr (pe_fn N hr (pa_cons (pv 1) pa_nil))) (pss_cons (ps_expr (pe_fn M (hr.mono (by decide)) (pa_cons (pv 2) pa_nil)))
      (pss_cons (ps_fld (pv 0) (pv 1) rfl) (pss_one (ps_fld (pv 0) (pv 2) rfl)))), ?_⟩
    refine ⟨_, rfl, j, rfl, hj, ?_⟩
    refine ⟨_, rfl, m, rfl, h0, h1, ?_⟩
    refine ⟨_, rfl, _, rfl, p, Z.H, dx, [], rfl, hp, C.cl, C.jug, (by show 0 < 1000; decide), ?_⟩
    refine ⟨_, rfl, _, rfl, p, Z.H, dx, _, rfl, upd_same, C.cl, C.many, (by show 1 < 1000; decide), ?_⟩
    exact k _ (fun c o e hc => by rw [upd_ne hc, upd_ne hc]; exact e) ⟨dx, upd_same⟩
def sp_Some_init (Z : Gz) : Sp := fun vs H Q _ => ∃ (p dx : Addr) (m : Int), vs = [.ref p, .int m] ∧ H p = some (.ins Z.S dx []) ∧ 0 ≤ m ∧ m ≤ 240 ∧
  ∀ H', (∀ c o, H c = some o → c ≠ p → H' c = some o) → GoAt Z H' p (.som m) → Q .non H'
theorem ok_Some_init {f : Addr} {fd : FuncData} (F : Fun K "__init__" "Some.__init__" s_Some_init f fd) (C : CSo K Z.S) (M : FnB P w K mg base 2 "check_amount" ["many"] sp_check_amount) :
    FnOk P w K mg base CX0 3 f fd ["self", "many"] (sp_Some_init Z) := by
  refine F.ok sc_Some_init (fun vs H Q E h => ?_) (fun cdv A outer s H vs Q E hr h => ?_)
  · obtain ⟨p, dx, b, rfl, _⟩ := h
    rfl
  · obtain ⟨p, dx, m, rfl, hp, h0, h1, k⟩ := h
    refine ⟨_, pss_cons (ps_expr (pe_fn M hr (pa_cons (pv 1) pa_nil))) (pss_one (ps_fld (pv 0) (pv 1) rfl)), ?_⟩
    refine ⟨_, rfl, m, rfl, h0, h1, ?_⟩
    refine ⟨_, rfl, _, rfl, p, Z.S, dx, [], rfl, hp, C.cl, C.many, (by show 0 < 1000; decide), ?_⟩
    exact k _ (fun c o e hc => by rw [upd_ne hc]; exact e) ⟨dx, upd_same⟩
def sp_Sum_init (Z : Gz) : Sp := fun vs H Q _ => ∃ (p dx l : Addr) (js : List Int) (m : Int), vs = [.ref p, .ref l, .int m] ∧ H p = some (.ins Z.U dx []) ∧ H l = some (.lst (js.map V.int)) ∧ js.Nodup ∧ 1 ≤ js.length ∧ js.length ≤ 4 ∧ (∀ j ∈ js, 0 ≤ j ∧ j ≤ 3) ∧ 0 ≤ m ∧ m ≤ 240 ∧
  ∀ H', (∀ c o, H c = some o → c ≠ p → H' c = some o) → GoAt Z H' p (.sum js m) → Q .non H'
theorem ok_Sum_init {f : Addr} {fd : FuncData} (F : Fun K "__init__" "Sum.__init__" s_Sum_init f fd) (B : Bt mg) (C : CSu K Z.U) (N : FnB P w K mg base 4 "jugs_in" ["jugs"] sp_jugs_in) (M : FnB P w K mg base 2 "check_amount" ["many"] sp_check_amount) :
    FnOk P w K mg base CX0 5 f fd ["self", "jugs", "many"] (sp_Sum_init Z) := by
  refine F.ok sc_Sum_init (fun vs H Q E h => ?_) (fun cdv A outer s H vs Q E hr h => ?_)
  · obtain ⟨p, dx, l, js, m, rfl, _⟩ := h
    rfl
  · obtain ⟨p, dx, l, js, m, rfl, hp, hl, hnd, l1, l4, hb, h0, h1, k⟩ := h
    refine ⟨_, pss_cons (ps_fld (pv 0) (pe_callTy call_tuple_of (by rfl) B.tuple bt_tuple (pa_cons (pe_fn N hr (pa_cons (pv 1) pa_nil)) pa_nil)) rfl)
      (pss_cons (ps_expr (pe_fn M (hr.mono (by decide)) (pa_cons (pv 2) pa_nil))) (pss_one (ps_fld (pv 0) (pv 2) rfl))), ?_⟩
    refine ⟨_, rfl, l, js, rfl, hl, hnd, l1, l4, hb, fun r H1 s1 hr1 => ?_⟩
    refine ⟨r, _, rfl, .inl ⟨SqL.of hr1, fun t nt => ?_⟩⟩
    have s2 : Same H (upd H1 t (.tup (js.map V.int))) := s1.lay nt
    have tp : t ≠ p := fun e => by subst e; rw [s1 _ _ hp] at nt; cases nt
    refine ⟨_, rfl, p, Z.U, dx, [], rfl, s2 _ _ hp, C.cl, C.jugs, (by show 0 < 1000; decide), ?_⟩
    refine ⟨_, rfl, m, rfl, h0, h1, ?_⟩
    refine ⟨_, rfl, _, rfl, p, Z.U, dx, _, rfl, upd_same, C.cl, C.many, (by show 1 < 1000; decide), ?_⟩
    refine k _ (fun c o e hc => by rw [upd_ne hc, upd_ne hc]; exact s2 _ _ e) ⟨dx, t, upd_same, ?_⟩
    rw [upd_ne tp, upd_ne tp, upd_same]
def sp_Whole_init (Z : Gz) : Sp := fun vs H Q _ => ∃ (p dx l : Addr) (st : List Int), vs = [.ref p, .ref l] ∧ H p = some (.ins Z.W dx []) ∧ H l = some (.tup (st.map V.int)) ∧ 1 ≤ st.length ∧ st.length ≤ 4 ∧ (∀ j ∈ st, 0 ≤ j ∧ j ≤ 60) ∧
  ∀ H', (∀ c o, H c = some o → c ≠ p → H' c = some o) → GoAt Z H' p (.whole st) → Q .non H'
theorem ok_Whole_init {f : Addr} {fd : FuncData} (F : Fun K "__init__" "Whole.__init__" s_Whole_init f fd) (B : Bt mg) (C : CWh K Z.W) (N : FnB P w K mg base 2 "amounts_in" ["state"] sp_amounts_in) :
    FnOk P w K mg base CX0 3 f fd ["self", "state"] (sp_Whole_init Z) := by
  refine F.ok sc_Whole_init (fun vs H Q E h => ?_) (fun cdv A outer s H vs Q E hr h => ?_)
  · obtain ⟨p, dx, l, js, rfl, _⟩ := h
    rfl
  · obtain ⟨p, dx, l, js, rfl, hp, hl, l1, l4, hb, k⟩ := h
    refine ⟨_, pss_one (ps_fld (pv 0) (pe_callTy call_tuple_of (by rfl) B.tuple bt_tuple (pa_cons (pe_fn N hr (pa_cons (pv 1) pa_nil)) pa_nil)) rfl), ?_⟩
    refine ⟨_, rfl, l, js, rfl, hl, l1, l4, hb, fun r H1 s1 hr1 => ?_⟩
    refine ⟨r, _, rfl, .inl ⟨SqL.of hr1, fun t nt => ?_⟩⟩
    have s2 : Same H (upd H1 t (.tup (js.map V.int))) := s1.lay nt
    have tp : t ≠ p := fun e => by subst e; rw [s1 _ _ hp] at nt; cases nt
    refine ⟨_, rfl, p, Z.W, dx, [], rfl, s2 _ _ hp, C.cl, C.state, (by show 0 < 1000; decide), ?_⟩
    refine k _ (fun c o e hc => by rw [upd_ne hc]; exact s2 _ _ e) ⟨dx, t, upd_same, ?_⟩
    rw [upd_ne tp, upd_same]
/-- met_by, come: of each sort -/
def sp_met (Z : Gz) (CH : Addr) (n : Nat) : Sp := fun vs H Q _ => ∃ p h l sz tap st g, vs = [.ref p, .ref h, .ref l] ∧ g.num = n ∧ GoAt Z H p g ∧ House CH H h sz tap ∧ H l = some (.lst (st.map V.int)) ∧ J.IsSt sz st ∧ g.ok sz ∧
  ∀ H', Same H H' → Q (.bl (g.met st)) H'
theorem ok_Holds_met {f : Addr} {fd : FuncData} (F : Fun K "met_by" "Holds.met_by" s_Holds_met_by f fd) (C : CHo K Z.H) (N : FnB P w K mg base 2 "check_house_has" ["house", "jug"] (sp_check_house_has CH)) :
    FnOk P w K mg base CX0 3 f fd ["self", "house", "held"] (sp_met Z CH 0) := by
  refine F.ok sc_Holds_met_by (fun vs H Q E h => ?_) (fun cdv A outer s H vs Q E hr h => ?_)
  · obtain ⟨p, h, l, sz, tap, st, g, rfl, _⟩ := h
    rfl
  · obtain ⟨p, h, l, sz, tap, st, g, rfl, hn, hg, hh, hl, hst, hok, k⟩ := h
    cases g with
    | holds j m =>
      obtain ⟨dx, hp⟩ := hg
      have hj : j < sz.length := hok
      have hj' : j < st.length := by rw [hst.len]; exact hj
      refine ⟨_, pss_cons (ps_expr (pe_fn N hr (pa_cons (pv 1) (pa_cons (pe_fld (pv 0) rfl) pa_nil)))) (pss_one (ps_ret (pe_cmpR op_eq (pe_ix ix_list (pv 2) (pe_fld (pv 0) rfl) (fun _ _ => rfl)) (pe_fld (pv 0) rfl) (nomark _)))), ?_⟩
      refine ⟨_, rfl, _, rfl, p, Z.H, dx, _, _, rfl, hp, C.cl, C.jug, hoF_jug _ _, h, sz, tap, j, rfl, hh, hj, fun H1 s1 => ?_⟩
      refine ⟨_, rfl, _, rfl, p, Z.H, dx, _, _, rfl, s1 _ _ hp, C.cl, C.jug, hoF_jug _ _, l, _, _, _, rfl, rfl, SqL.of (s1 _ _ hl), atI_nat (getV_of hj'), ?_⟩
      refine ⟨_, rfl, p, Z.H, dx, _, _, rfl, s1 _ _ hp, C.cl, C.many, hoF_many _ _, rfl, ?_⟩
      rw [decV]
      exact k _ s1
    | som m => cases hn
    | sum js m => cases hn
    | whole t => cases hn
theorem ok_Some_met {f : Addr} {fd : FuncData} (F : Fun K "met_by" "Some.met_by" s_Some_met_by f fd) (C : CSo K Z.S) :
    FnOk P w K mg base CX0 3 f fd ["self", "house", "held"] (sp_met Z CH 1) := by
  refine F.ok sc_Some_met_by (fun vs H Q E h => ?_) (fun cdv A outer s H vs Q E hr h => ?_)
  · obtain ⟨p, h, l, sz, tap, st, g, rfl, _⟩ := h
    rfl
  · obtain ⟨p, h, l, sz, tap, st, g, rfl, hn, hg, hh, hl, hst, hok, k⟩ := h
    cases g with
    | som m =>
      obtain ⟨dx, hp⟩ := hg
      refine ⟨_, pss_one (ps_ret (pe_cmpR op_in_seq (pe_fld (pv 0) rfl) (pv 2) (by rfl))), ?_⟩
      refine ⟨_, rfl, p, Z.S, dx, _, _, rfl, hp, C.cl, C.many, soF_many _, _, rfl, l, _, rfl, .inl (SqL.of hl), rfl, flat_ints _, ?_⟩
      show Q (.bl (inV (.int m) (st.map V.int))) H
      rw [inV_ints]
      exact k _ (Same.refl _)
    | holds j m => cases hn
    | sum js m => cases hn
    | whole t => cases hn
theorem ok_Whole_met {f : Addr} {fd : FuncData} (F : Fun K "met_by" "Whole.met_by" s_Whole_met_by f fd) (B : Bt mg) (C : CWh K Z.W) (N : FnB P w K mg base 3 "check_state_of" ["house", "state"] (sp_check_state_of CH)) :
    FnOk P w K mg base CX0 4 f fd ["self", "house", "held"] (sp_met Z CH 3) := by
  refine F.ok sc_Whole_met_by (fun vs H Q E h => ?_) (fun cdv A outer s H vs Q E hr h => ?_)
  · obtain ⟨p, h, l, sz, tap, st, g, rfl, _⟩ := h
    rfl
  · obtain ⟨p, h, l, sz, tap, st, g, rfl, hn, hg, hh, hl, hst, hok, k⟩ := h
    cases g with
    | whole t =>
      obtain ⟨dx, a, hp, ha⟩ := hg
      refine ⟨_, pss_cons (ps_expr (pe_fn N hr (pa_cons (pv 1) (pa_cons (pe_fld (pv 0) rfl) pa_nil)))) (pss_one (ps_ret (pe_cmpR (op_eqD hr.u20) (pe_callTy call_tuple_of (by rfl) B.tuple bt_tuple (pa_cons (pv 2) pa_nil)) (pe_fld (pv 0) rfl) (nomark _)))), ?_⟩
      refine ⟨_, rfl, _, rfl, p, Z.W, dx, _, _, rfl, hp, C.cl, C.state, whF_state _, h, sz, tap, a, t, rfl, hh, ha, hok, fun H1 s1 => ?_⟩
      refine ⟨_, rfl, l, _, rfl, .inl ⟨SqL.of (s1 _ _ hl), fun u nu => ?_⟩⟩
      have s2 := s1.lay (o := .tup (st.map V.int)) nu
      refine ⟨_, rfl, p, Z.W, dx, _, _, rfl, s2 _ _ hp, C.cl, C.state, whF_state _, _, rcT upd_same (s2 _ _ ha), ?_⟩
      exact k _ s2
    | holds j m => cases hn
    | sum js m => cases hn
    | som m => cases hn
theorem bt_sum : bootBuiltins "sum" = some (.builtin "sum") := by decide +kernel
theorem ok_Sum_met {f : Addr} {fd : FuncData} (F : Fun K "met_by" "Sum.met_by" s_Sum_met_by f fd) (C : CSu K Z.U) (hsm : mg "sum" = none) (N : FnB P w K mg base 2 "check_house_has" ["house", "jug"] (sp_check_house_has CH)) :
    FnOk P w K mg base CX0 3 f fd ["self", "house", "held"] (sp_met Z CH 2) := by
  refine F.ok sc_Sum_met_by (fun vs H Q E h => ?_) (fun cdv A outer s H vs Q E hr h => ?_)
  · obtain ⟨p, h, l, sz, tap, st, g, rfl, _⟩ := h
    rfl
  · obtain ⟨p, h, l, sz, tap, st, g, rfl, hn, hg, hh, hl, hst, hok, k⟩ := h
    cases g with
    | sum js m =>
      obtain ⟨dx, a, hp, ha⟩ := hg
      obtain ⟨h4, hb⟩ := hok
      have nd := sc_Sum_met_by.nd
      refine ⟨_, pss_cons (ps_for PassesOwn.never rfl (pi_tup (pe_fld (pv 0) rfl)) (pg_name (i := 3) nd rfl (Or.inl rfl)) (pss_one (ps_expr (pe_fn N hr (pa_cons (pv 1) (pa_cons (pv 3) pa_nil))))))
        (pss_one (ps_ret (pe_cmpR op_eq (pe_callB (call_sum rfl) (by rfl) hsm bt_sum (pa_cons (pe_lc sc_Sum_met_by [2] (pi_tup (pe_fld (pv 0) rfl)) (fun _ _ _ _ _ _ => ⟨pif_nil, pe_ix (ix_listK K) (pv 1) (pv 0) (fun _ _ => rfl)⟩)) pa_nil)) (pe_fld (pv 0) rfl) (nomark _)))), ?_⟩
      refine ⟨_, rfl, p, Z.U, dx, _, _, rfl, hp, C.cl, C.jugs, suF_jugs _ _, a, rfl, ⟨_, SqT.of ha⟩, for_tup (K := K) (a := a) (xs := js.map V.int) (fun i σ H' => ∃ v, σ = [some (.ref p), some (.ref h), some (.ref l), v] ∧ Same H H')
        ⟨none, rfl, Same.refl _⟩ (fun i σ H' _ ⟨_, _, s1⟩ => SqT.of (s1 _ _ ha)) ?_ ?_⟩
      · rintro i x σ H' hx ⟨v, rfl, s1⟩
        obtain ⟨z, ez, rfl⟩ := mem_ints hx
        obtain ⟨z0, z1⟩ := hb z (List.mem_of_getElem? ez)
        obtain ⟨j, rfl⟩ : ∃ j : Nat, z = (j : Int) := ⟨z.toNat, (Int.toNat_of_nonneg z0).symm⟩
        exact ⟨_, rfl, _, rfl, h, sz, tap, j, rfl, hh.mono s1, by omega, fun H2 s2 => ⟨_, rfl, s1.trans s2⟩⟩
      · rintro σ H' ⟨v, rfl, s1⟩
        refine ⟨_, rfl, p, Z.U, dx, _, _, rfl, s1 _ _ hp, C.cl, C.jugs, suF_jugs _ _, a, rfl, ⟨_, SqT.of (s1 _ _ ha)⟩, lc_tup (xs := js.map V.int) (fun i ys H'' => ys = ((js.take i).map fun j => J.at0 st j.toNat).map V.int ∧ H'' = H') ⟨rfl, rfl⟩ (by rw [List.length_map]; exact small1000 (by omega)) (fun i ys H' ⟨e, _⟩ => by rw [e]; simp; omega)
          (fun i ys H'' _ ⟨_, e⟩ => by subst e; exact SqT.of (s1 _ _ ha)) (fun i x ys H'' hx ⟨e1, e2⟩ => ?_) (fun ys H'' ⟨e1, e2⟩ => ?_)⟩
        · obtain ⟨z, ez, rfl⟩ := mem_ints hx
          obtain ⟨z0, z1⟩ := hb z (List.mem_of_getElem? ez)
          obtain ⟨j, rfl⟩ : ∃ j : Nat, z = (j : Int) := ⟨z.toNat, (Int.toNat_of_nonneg z0).symm⟩
          have hj' : j < st.length := by rw [hst.len]; omega
          subst e1 e2
          refine tYes_of ⟨_, rfl, _, rfl, l, _, _, .int (J.at0 st j), rfl, rfl, SqL.of (s1 _ _ hl), atI_nat (getV_of hj'), ?_, rfl⟩
          rw [List.take_add_one, ez, List.map_append, List.map_append]
          rfl
        · subst e1 e2
          intro D nD
          have s2 := s1.lay (o := .lst (((js.take (js.map V.int).length).map fun j => J.at0 st j.toNat).map V.int)) nD
          refine ⟨D, _, rfl, SqL.of upd_same, ?_⟩
          refine ⟨_, rfl, p, Z.U, dx, _, _, rfl, s2 _ _ hp, C.cl, C.many, suF_many _ _, rfl, ?_⟩
          rw [decV, List.length_map, List.take_length]
          exact k _ (by rw [List.length_map, List.take_length] at s2; exact s2)
    | holds j m => cases hn
    | whole t => cases hn
    | som m => cases hn
def sp_come (Z : Gz) (CH : Addr) : Sp := fun vs H Q _ => ∃ p h a sz tap st g, vs = [.ref p, .ref h, .ref a] ∧ GoAt Z H p g ∧ House CH H h sz tap ∧ H a = some (.tup (st.map V.int)) ∧ J.IsSt sz st ∧ g.ok sz ∧
  ∀ H', Same H H' → Q (.bl (g.met st)) H'
theorem ok_come {f : Addr} {fd : FuncData} (F : Fun K "come" "Goal.come" s_Goal_come f fd) (HI : FnB P w K mg base 2 "held_in" ["house", "state"] (sp_held_in CH)) (M0 : MeB P w K mg base 4 Z.H "met_by" ["self", "house", "held"] (sp_met Z CH 0))
    (M1 : MeB P w K mg base 4 Z.S "met_by" ["self", "house", "held"] (sp_met Z CH 1)) (M2 : MeB P w K mg base 4 Z.U "met_by" ["self", "house", "held"] (sp_met Z CH 2)) (M3 : MeB P w K mg base 4 Z.W "met_by" ["self", "house", "held"] (sp_met Z CH 3)) :
    FnOk P w K mg base CX0 5 f fd ["self", "house", "state"] (sp_come Z CH) := by
  refine F.ok sc_Goal_come (fun vs H Q E h => ?_) (fun cdv A outer s H vs Q E hr h => ?_)
  · obtain ⟨p, h, l, sz, tap, st, g, rfl, _⟩ := h
    rfl
  · obtain ⟨p, h, a, sz, tap, st, g, rfl, hg, hh, ha, hst, hok, k⟩ := h
    have nd := sc_Goal_come.nd
    have hr2 : Room 2 _ := hr.mono (by decide)
    cases g with
    | holds j m =>
      refine ⟨_, pss_cons (ps_set (i := 3) nd rfl (Or.inl rfl) (pe_fn HI hr2 (pa_cons (pv 1) (pa_cons (pv 2) pa_nil)))) (pss_one (ps_ret (pe_me M0 (pv 0) hr (pa_cons (pv 1) (pa_cons (pv 3) pa_nil))))), ?_⟩
      refine ⟨_, rfl, _, rfl, h, sz, tap, a, st, rfl, hh, ha, hst, fun l H1 s1 _ hl => ?_⟩
      obtain ⟨dx, hp⟩ := hg.mono s1
      exact ⟨_, rfl, p, dx, _, rfl, hp, hoF_no _ _ (by decide +kernel) (by decide +kernel), _, rfl, _, rfl, p, h, l, sz, tap, st, .holds j m, rfl, rfl, ⟨dx, hp⟩, hh.mono s1, hl, hst, hok, fun H2 s2 => k _ (s1.trans s2)⟩
    | som m =>
      refine ⟨_, pss_cons (ps_set (i := 3) nd rfl (Or.inl rfl) (pe_fn HI hr2 (pa_cons (pv 1) (pa_cons (pv 2) pa_nil)))) (pss_one (ps_ret (pe_me M1 (pv 0) hr (pa_cons (pv 1) (pa_cons (pv 3) pa_nil))))), ?_⟩
      refine ⟨_, rfl, _, rfl, h, sz, tap, a, st, rfl, hh, ha, hst, fun l H1 s1 _ hl => ?_⟩
      obtain ⟨dx, hp⟩ := hg.mono s1
      exact ⟨_, rfl, p, dx, _, rfl, hp, soF_no _ (by decide +kernel), _, rfl, _, rfl, p, h, l, sz, tap, st, .som m, rfl, rfl, ⟨dx, hp⟩, hh.mono s1, hl, hst, hok, fun H2 s2 => k _ (s1.trans s2)⟩
    | sum js m =>
      refine ⟨_, pss_cons (ps_set (i := 3) nd rfl (Or.inl rfl) (pe_fn HI hr2 (pa_cons (pv 1) (pa_cons (pv 2) pa_nil)))) (pss_one (ps_ret (pe_me M2 (pv 0) hr (pa_cons (pv 1) (pa_cons (pv 3) pa_nil))))), ?_⟩
      refine ⟨_, rfl, _, rfl, h, sz, tap, a, st, rfl, hh, ha, hst, fun l H1 s1 _ hl => ?_⟩
      obtain ⟨dx, t, hp, ht⟩ := hg.mono s1
      exact ⟨_, rfl, p, dx, _, rfl, hp, suF_no _ _ (by decide +kernel) (by decide +kernel), _, rfl, _, rfl, p, h, l, sz, tap, st, .sum js m, rfl, rfl, ⟨dx, t, hp, ht⟩, hh.mono s1, hl, hst, hok, fun H2 s2 => k _ (s1.trans s2)⟩
    | whole t =>
      refine ⟨_, pss_cons (ps_set (i := 3) nd rfl (Or.inl rfl) (pe_fn HI hr2 (pa_cons (pv 1) (pa_cons (pv 2) pa_nil)))) (pss_one (ps_ret (pe_me M3 (pv 0) hr (pa_cons (pv 1) (pa_cons (pv 3) pa_nil))))), ?_⟩
      refine ⟨_, rfl, _, rfl, h, sz, tap, a, st, rfl, hh, ha, hst, fun l H1 s1 _ hl => ?_⟩
      obtain ⟨dx, b, hp, hb⟩ := hg.mono s1
      exact ⟨_, rfl, p, dx, _, rfl, hp, whF_no _ (by decide +kernel), _, rfl, _, rfl, p, h, l, sz, tap, st, .whole t, rfl, rfl, ⟨dx, b, hp, hb⟩, hh.mono s1, hl, hst, hok, fun H2 s2 => k _ (s1.trans s2)⟩
end

def Gz.cl (Z : Gz) : Go → Addr
  | .holds _ _ => Z.H
  | .som _ => Z.S
  | .sum _ _ => Z.U
  | .whole _ => Z.W
structure GoC (K : PySem.W.Frag) (mg : Str → Option Value) (Z : Gz) (CG : Addr) : Prop where
  ho : CHo K Z.H
  so : CSo K Z.S
  su : CSu K Z.U
  wh : CWh K Z.W
  tH : CTy K Z.H
  tS : CTy K Z.S
  tU : CTy K Z.U
  tW : CTy K Z.W
  gG : mg "Goal" = some (.ref CG)
  gH : mg "Holds" = some (.ref Z.H)
  gS : mg "Some" = some (.ref Z.S)
  gU : mg "Sum" = some (.ref Z.U)
  gW : mg "Whole" = some (.ref Z.W)
  kHS : PySem.W.kitOne K (.ref Z.H) (.ref Z.S) = some false
  kHU : PySem.W.kitOne K (.ref Z.H) (.ref Z.U) = some false
  kHW : PySem.W.kitOne K (.ref Z.H) (.ref Z.W) = some false
  kSH : PySem.W.kitOne K (.ref Z.S) (.ref Z.H) = some false
  kSU : PySem.W.kitOne K (.ref Z.S) (.ref Z.U) = some false
  kSW : PySem.W.kitOne K (.ref Z.S) (.ref Z.W) = some false
  kUH : PySem.W.kitOne K (.ref Z.U) (.ref Z.H) = some false
  kUS : PySem.W.kitOne K (.ref Z.U) (.ref Z.S) = some false
  kUW : PySem.W.kitOne K (.ref Z.U) (.ref Z.W) = some false
  kWH : PySem.W.kitOne K (.ref Z.W) (.ref Z.H) = some false
  kWS : PySem.W.kitOne K (.ref Z.W) (.ref Z.S) = some false
  kWU : PySem.W.kitOne K (.ref Z.W) (.ref Z.U) = some false
  kHG : PySem.W.kitOne K (.ref Z.H) (.ref CG) = some true
  kSG : PySem.W.kitOne K (.ref Z.S) (.ref CG) = some true
  kUG : PySem.W.kitOne K (.ref Z.U) (.ref CG) = some true
  kWG : PySem.W.kitOne K (.ref Z.W) (.ref CG) = some true
theorem GoC.ty {K : PySem.W.Frag} {mg : Str → Option Value} {Z : Gz} {CG : Addr} (M : GoC K mg Z CG) {H : Hp} {p : Addr} {g : Go} (h : GoAt Z H p g) : TyOf K H (.ref p) (.ref (Z.cl g)) := by
  cases g with
  | holds a b => obtain ⟨dx, h⟩ := h; exact .ins h M.ho.cl M.tH.ha M.tH.hn M.tH.htk M.tH.hm
  | som a => obtain ⟨dx, h⟩ := h; exact .ins h M.so.cl M.tS.ha M.tS.hn M.tS.htk M.tS.hm
  | sum a b => obtain ⟨dx, t, h, _⟩ := h; exact .ins h M.su.cl M.tU.ha M.tU.hn M.tU.htk M.tU.hm
  | whole a => obtain ⟨dx, t, h, _⟩ := h; exact .ins h M.wh.cl M.tW.ha M.tW.hn M.tW.htk M.tW.hm
theorem GoC.go {K : PySem.W.Frag} {mg : Str → Option Value} {Z : Gz} {CG : Addr} (M : GoC K mg Z CG) (g : Go) : PySem.W.kitOne K (.ref (Z.cl g)) (.ref CG) = some true := by
  cases g with
  | holds _ _ => exact M.kHG
  | som _ => exact M.kSG
  | sum _ _ => exact M.kUG
  | whole _ => exact M.kWG
/-- the fields of a goal hold no method -/
theorem GoAt.no {Z : Gz} {H : Hp} {p : Addr} {g : Go} (h : GoAt Z H p g) : ∃ dx fs, H p = some (.ins (Z.cl g) dx fs) ∧ fs.lookup ("come" : Str) = none := by
  cases g with
  | holds a b => obtain ⟨dx, h⟩ := h; exact ⟨dx, _, h, hoF_no _ _ (by decide +kernel) (by decide +kernel)⟩
  | som a => obtain ⟨dx, h⟩ := h; exact ⟨dx, _, h, soF_no _ (by decide +kernel)⟩
  | sum a b => obtain ⟨dx, t, h, _⟩ := h; exact ⟨dx, _, h, suF_no _ _ (by decide +kernel) (by decide +kernel)⟩
  | whole a => obtain ⟨dx, t, h, _⟩ := h; exact ⟨dx, _, h, whF_no _ (by decide +kernel)⟩
def gs (n : Nat) : List Bool := (List.range 4).map fun k => decide (k = n)
def anyGo (Z : Gz) : Addr → Prop := fun C => C = Z.H ∨ C = Z.S ∨ C = Z.U ∨ C = Z.W
theorem anyGo.of (Z : Gz) (g : Go) : anyGo Z (Z.cl g) := by
  cases g with
  | holds _ _ => exact .inl rfl
  | som _ => exact .inr (.inl rfl)
  | sum _ _ => exact .inr (.inr (.inl rfl))
  | whole _ => exact .inr (.inr (.inr rfl))
/-- the other house -/
def far (sz : List Int) : List Int := sz.map fun s => s % 60 + 1
theorem far_len (sz : List Int) : (far sz).length = sz.length := by simp [far]
theorem LSz.far {sz : List Int} (h : LSz sz) : Hz (far sz) := by
  have h1 := h.l1
  have h4 := h.l4
  have hb := h.bd
  refine ⟨by rw [far_len]; exact h1, by rw [far_len]; exact h4, fun s hs => ?_, ?_⟩
  · obtain ⟨z, hz, rfl⟩ := List.mem_map.mp hs
    omega
  · match sz, h1, h4, hb with
    | [a], _, _, hb =>
      simp only [Jug.far, List.map_cons, List.map_nil, J.prod1, List.foldl_cons, List.foldl_nil]
      omega
    | [a, b], _, _, hb =>
      have h1 := hb a (by simp)
      have h2 := hb b (by simp)
      have e : J.at0 mos ([a, b].length - 1) = 11 := rfl
      rw [e] at h1 h2
      simp only [Jug.far, List.map_cons, List.map_nil, J.prod1, List.foldl_cons, List.foldl_nil]
      have : (a % 60 + 1 + 1) * (b % 60 + 1 + 1) ≤ 13 * 13 := Int.mul_le_mul (by omega) (by omega) (by omega) (by omega)
      rw [Int.one_mul]; omega
    | [a, b, c], _, _, hb =>
      have h1 := hb a (by simp)
      have h2 := hb b (by simp)
      have h3 := hb c (by simp)
      have e : J.at0 mos ([a, b, c].length - 1) = 4 := rfl
      rw [e] at h1 h2 h3
      simp only [Jug.far, List.map_cons, List.map_nil, J.prod1, List.foldl_cons, List.foldl_nil]
      have m1 : (a % 60 + 1 + 1) * (b % 60 + 1 + 1) ≤ 6 * 6 := Int.mul_le_mul (by omega) (by omega) (by omega) (by omega)
      have m2 : (a % 60 + 1 + 1) * (b % 60 + 1 + 1) * (c % 60 + 1 + 1) ≤ 36 * 6 := Int.mul_le_mul m1 (by omega) (by omega) (by omega)
      rw [Int.one_mul]; omega
    | [a, b, c, d], _, _, hb =>
      have h1 := hb a (by simp)
      have h2 := hb b (by simp)
      have h3 := hb c (by simp)
      have h4 := hb d (by simp)
      have e : J.at0 mos ([a, b, c, d].length - 1) = 2 := rfl
      rw [e] at h1 h2 h3 h4
      simp only [Jug.far, List.map_cons, List.map_nil, J.prod1, List.foldl_cons, List.foldl_nil]
      have m1 : (a % 60 + 1 + 1) * (b % 60 + 1 + 1) ≤ 4 * 4 := Int.mul_le_mul (by omega) (by omega) (by omega) (by omega)
      have m2 : (a % 60 + 1 + 1) * (b % 60 + 1 + 1) * (c % 60 + 1 + 1) ≤ 16 * 4 := Int.mul_le_mul m1 (by omega) (by omega) (by omega)
      have m3 : (a % 60 + 1 + 1) * (b % 60 + 1 + 1) * (c % 60 + 1 + 1) * (d % 60 + 1 + 1) ≤ 64 * 4 := Int.mul_le_mul m2 (by omega) (by omega) (by omega)
      rw [Int.one_mul]; omega
theorem at0_zero (n i : Nat) : J.at0 (List.replicate n (0 : Int)) i = 0 := by
  unfold J.at0
  rw [List.getD_eq_getElem?_getD, List.getElem?_replicate]
  split <;> rfl
theorem zero_st {sz : List Int} (h : Hz sz) : J.IsSt sz (List.replicate sz.length (0 : Int)) := by
  refine ⟨by simp, fun i hi => ?_⟩
  rw [at0_zero]
  exact ⟨Int.le_refl _, h.nn i hi⟩
/-- what a goal says of empty jugs -/
def Go.amt : Go → Int
  | .holds _ m => m
  | .som m => m
  | .sum _ m => m
  | .whole _ => 0
theorem sum_zero : ∀ (n : Nat) (js : List Int), sumAt (List.replicate n 0) js = 0
  | n, [] => rfl
  | n, j :: js => by
    have := sum_zero n js
    unfold sumAt at this ⊢
    rw [List.map_cons, List.sum_cons, this, at0_zero]; rfl
theorem met_zero {n : Nat} (h : 1 ≤ n) {g : Go} (hn : g.num < 3) : g.met (List.replicate n 0) = decide (g.amt = 0) := by
  cases g with
  | holds j m => show decide (J.at0 (List.replicate n 0) j = m) = decide (m = 0); rw [at0_zero, Bool.eq_iff_iff, decide_eq_true_iff, decide_eq_true_iff]; exact eq_comm
  | som m => show decide (m ∈ List.replicate n (0 : Int)) = decide (m = 0); rw [Bool.eq_iff_iff, decide_eq_true_iff, decide_eq_true_iff, List.mem_replicate]; exact ⟨fun z => z.2, fun z => ⟨by omega, z⟩⟩
  | sum js m => show decide (sumAt (List.replicate n 0) js = m) = decide (m = 0); rw [sum_zero, Bool.eq_iff_iff, decide_eq_true_iff, decide_eq_true_iff]; exact eq_comm
  | whole t => exact absurd hn (by show ¬ (3 < 3); decide)
theorem ok_far {sz : List Int} {g : Go} (h : g.ok sz) (hn : g.num < 3) : g.ok (far sz) := by
  cases g with
  | holds j m => show j < (far sz).length; rw [far_len]; exact h
  | som m => trivial
  | sum js m => exact ⟨h.1, fun j hj => by rw [far_len]; exact h.2 j hj⟩
  | whole t => exact absurd hn (by show ¬ (3 < 3); decide)
section
variable {P : Program} {w : World} {K : PySem.W.Frag} {mg : Str → Option Value} {base : Heap} {CH CG : Addr} {Z : Gz}
def sp_gsorts (Z : Gz) : Sp := fun vs H Q _ => ∃ p g, vs = [.ref p] ∧ GoAt Z H p g ∧ ∀ l, H l = none → Q (.ref l) (upd H l (.lst ((gs g.num).map V.bl)))
theorem ok_gsorts {f : Addr} {fd : FuncData} (F : Fun K "_law_sorts" "_law_sorts" s__law_sorts f fd) (B : Bt mg) (M : GoC K mg Z CG) : FnOk P w K mg base CX0 1 f fd ["_law_goal"] (sp_gsorts Z) := by
  refine F.ok sc__law_sorts (fun vs H Q E h => ?_) (fun cdv A outer s H vs Q E hr h => ?_)
  · obtain ⟨p, m, rfl, _⟩ := h
    rfl
  · obtain ⟨p, m, rfl, hmv, k⟩ := h
    refine ⟨_, pss_one (ps_ret (pe_lst (pa_cons (pe_callB call_isinst (by rfl) B.isinstance bt_isinstance (pa_cons (pv 0) (pa_cons (pe_glob (v := .ref Z.H) (by rfl) M.gH rfl) pa_nil)))
      (pa_cons (pe_callB call_isinst (by rfl) B.isinstance bt_isinstance (pa_cons (pv 0) (pa_cons (pe_glob (v := .ref Z.S) (by rfl) M.gS rfl) pa_nil)))
      (pa_cons (pe_callB call_isinst (by rfl) B.isinstance bt_isinstance (pa_cons (pv 0) (pa_cons (pe_glob (v := .ref Z.U) (by rfl) M.gU rfl) pa_nil)))
      (pa_cons (pe_callB call_isinst (by rfl) B.isinstance bt_isinstance (pa_cons (pv 0) (pa_cons (pe_glob (v := .ref Z.W) (by rfl) M.gW rfl) pa_nil))) pa_nil)))))), ?_⟩
    have ty := M.ty hmv
    cases m with
    | holds a b => exact ⟨_, rfl, _, _, _, _, _, rfl, .ref _, ty, kit_self _, _, rfl, _, _, _, _, _, rfl, .ref _, ty, M.kHS, _, rfl, _, _, _, _, _, rfl, .ref _, ty, M.kHU, _, rfl, _, _, _, _, _, rfl, .ref _, ty, M.kHW, (by show 4 ≤ sizeLine; decide), fun l nl => k l nl⟩
    | som a => exact ⟨_, rfl, _, _, _, _, _, rfl, .ref _, ty, M.kSH, _, rfl, _, _, _, _, _, rfl, .ref _, ty, kit_self _, _, rfl, _, _, _, _, _, rfl, .ref _, ty, M.kSU, _, rfl, _, _, _, _, _, rfl, .ref _, ty, M.kSW, (by show 4 ≤ sizeLine; decide), fun l nl => k l nl⟩
    | sum a b => exact ⟨_, rfl, _, _, _, _, _, rfl, .ref _, ty, M.kUH, _, rfl, _, _, _, _, _, rfl, .ref _, ty, M.kUS, _, rfl, _, _, _, _, _, rfl, .ref _, ty, kit_self _, _, rfl, _, _, _, _, _, rfl, .ref _, ty, M.kUW, (by show 4 ≤ sizeLine; decide), fun l nl => k l nl⟩
    | whole a => exact ⟨_, rfl, _, _, _, _, _, rfl, .ref _, ty, M.kWH, _, rfl, _, _, _, _, _, rfl, .ref _, ty, M.kWS, _, rfl, _, _, _, _, _, rfl, .ref _, ty, M.kWU, _, rfl, _, _, _, _, _, rfl, .ref _, ty, kit_self _, (by show 4 ≤ sizeLine; decide), fun l nl => k l nl⟩
def sp_right (Z : Gz) (CH : Addr) : Sp := fun vs H Q _ => ∃ (h a p : Addr) (sz st : List Int) (tap : Bool) (g : Go), vs = [.ref h, .ref a, .ref p, .int g.num, .bl (g.met st), .int g.amt] ∧ House CH H h sz tap ∧ H a = some (.tup (st.map V.int)) ∧ J.IsSt sz st ∧ LSz sz ∧ GoAt Z H p g ∧ g.ok sz ∧
  ∀ H', Same H H' → Q (.bl true) H'
theorem ok_right {f : Addr} {fd : FuncData} (F : Fun K "_law_right" "_law_right" s__law_right f fd) (B : Bt mg) (C : CHs K CH) (M : GoC K mg Z CG) (SO : FnB P w K mg base 1 "_law_sorts" ["_law_goal"] (sp_gsorts Z)) (S : MeB P w K mg base 1 CH "sizes" ["self"] (sp_sizes CH))
    (HM : MkB P w K mg base 3 "House" CH ["self", "sizes", "tap"] (sp_House_init CH)) (CO : ∀ C, anyGo Z C → MeB P w K mg base 5 C "come" ["self", "house", "state"] (sp_come Z CH)) :
    FnOk P w K mg base CX0 6 f fd ["_law_house", "_law_state_here", "_law_goal", "_law_sort", "_law_due", "_law_many"] (sp_right Z CH) := by
  refine F.ok sc__law_right (fun vs H Q E h => ?_) (fun cdv A outer s H vs Q E hr h => ?_)
  · obtain ⟨h, a, p, sz, st, tap, g, rfl, _⟩ := h
    rfl
  · obtain ⟨h, a, p, sz, st, tap, g, rfl, hh, ha, hst, hsz, hg, hok, k⟩ := h
    have nd := sc__law_right.nd
    have hr1 : Room 1 _ := hr.mono (by decide)
    have hr4 : Room 4 _ := hr.mono (by decide)
    have hu := hr.u20
    have hz := hsz.hz
    have h4 := hz.l4
    refine ⟨_, pss_cons (ps_if (PW.pt (pw_or (pt_not (pt_val (pe_callB call_isinst (by rfl) B.isinstance bt_isinstance (pa_cons (pv 2) (pa_cons (pe_glob (v := .ref CG) (by rfl) M.gG rfl) pa_nil)))))
        (pw_or1 (pt_cmpR (op_neD hu) (pe_fn SO hr1 (pa_cons (pv 2) pa_nil)) (pe_lc sc__law_right [3] (pi_range1 (by rfl) B.range (pa_cons pe_int pa_nil)) (fun _ _ _ _ _ _ => ⟨pif_nil, pe_cmpR op_eq (pv 0) (pv 1) (nomark _)⟩)) (nomark _))))) pss_never pss_nil)
      (pss_cons (ps_if (pt_cmpR op_lt (pv 3) pe_int (nomark _))
        (pss_cons (ps_set (i := 6) nd rfl (Or.inl rfl) (pe_mk HM hr4 (pa_cons (pe_slice sl_list (pe_lc sc__law_right [] (pi_list (pe_me0 S (pv 0) hr1)) (fun _ _ _ _ _ _ => ⟨pif_nil, pe_op op_add (pe_op op_mod (pv 0) pe_int) pe_int⟩)) po_none (po_some (pe_callB call_len_seq (by rfl) B.len PySem.boot_len (pa_cons (pv 1) pa_nil))))
            (pa_cons (pe_not (pe_fld (pv 0) rfl)) pa_nil))))
        (pss_cons (ps_set (i := 7) nd rfl (Or.inl rfl) (pe_callTy call_tuple_of (by rfl) B.tuple bt_tuple (pa_cons (pe_lc sc__law_right [] (pi_tup (pv 1)) (fun _ _ _ _ _ _ => ⟨pif_nil, pe_int⟩)) pa_nil)))
        (pss_one (ps_if (pt_cmpR op_ne (pe_meU CO (pv 2) hr (pa_cons (pv 6) (pa_cons (pv 7) pa_nil))) (pe_cmpR op_eq (pv 5) pe_int (nomark _)) (nomark _)) pss_never pss_nil)))) pss_nil)
      (pss_cons (ps_set (i := 8) nd rfl (Or.inl rfl) (pe_meU CO (pv 2) hr (pa_cons (pv 0) (pa_cons (pv 1) pa_nil))))
      (pss_one (ps_ret (pe_and (pe_callB call_isinst (by rfl) B.isinstance bt_isinstance (pa_cons (pv 8) (pa_cons (pe_bltn (v := .ty "bool") (by rfl) B.bool bt_bool rfl) pa_nil))) (pe_one (pe_cmpR op_eq (pv 8) (pv 4) (nomark _)))))))), ?_⟩
    refine ⟨_, rfl, _, _, _, _, _, rfl, .ref _, M.ty hg, M.go g, _, rfl, iteF ?_⟩
    refine ⟨_, rfl, p, g, rfl, hg, fun x nx => ?_⟩
    have s1 : Same H (upd H x (.lst ((gs g.num).map V.bl))) := Same.new nx
    refine ⟨4, rfl, by decide, by decide, lc_rangeN (n := 4) (fun i ys H' => ys = ((gs g.num).take i).map V.bl ∧ H' = upd H x (.lst ((gs g.num).map V.bl))) ⟨rfl, rfl⟩ (small1000 (by decide)) (fun i ys H' ⟨e, _⟩ => by rw [e]; simp; omega) (fun i ys H' hi ⟨e1, e2⟩ => ?_) (fun ys H' ⟨e1, e2⟩ => ?_)⟩
    · subst e1 e2
      refine tYes_of ⟨_, rfl, _, rfl, rfl, ?_, rfl⟩
      rw [decV, List.take_add_one]
      have e : (gs g.num)[i]? = some (decide (i = g.num)) := by unfold gs; rw [List.getElem?_map, List.getElem?_range hi]; rfl
      rw [e, List.map_append]
      have e2 : decide ((i : Int) = (g.num : Int)) = decide (i = g.num) := by
        rw [Bool.eq_iff_iff, decide_eq_true_iff, decide_eq_true_iff]; omega
      rw [e2]; rfl
    subst e1 e2
    intro D nD
    have e4 : (gs g.num).take 4 = gs g.num := List.take_of_length_le (by simp [gs])
    rw [e4]
    have s2 := s1.lay (o := .lst ((gs g.num).map V.bl)) nD
    have ex : (upd (upd H x (.lst ((gs g.num).map V.bl))) D (.lst ((gs g.num).map V.bl))) x = some (.lst ((gs g.num).map V.bl)) := (Same.new nD) _ _ upd_same
    refine ⟨_, rcB ex upd_same, _, rfl, ?_⟩
    rw [decide_eq_true rfl]
    refine iteF ?_
    generalize upd (upd H x (.lst ((gs g.num).map V.bl))) D (.lst ((gs g.num).map V.bl)) = H1 at s2 ⊢
    clear ex nD s1 nx
    -- what stands at the end
    have fin : ∀ (H2 : Hp) (v6 v7 : Option V), Same H1 H2 → tSeq (tAsg (tMethU (anyGo Z) "come" (sp_come Z CH) (tVar 2) (tCons (tVar 0) (tCons (tVar 1) tNil))) (gName 8))
        (tRet (tAndV (tCB (fun xs H Q => ∃ x c t cv b, xs = [x, c] ∧ ClV c cv ∧ TyOf K H x t ∧ PySem.W.kitOne K t cv = some b ∧ Q (.bl b) H) (tCons (tVar 8) (tCons (tC (.ty "bool")) tNil))) (tOp rEq (tVar 8) (tVar 4))))
        { nx := fun _ H' => Q .non H', rt := Q } [some (.ref h), some (.ref a), some (.ref p), some (.int g.num), some (.bl (g.met st)), some (.int g.amt), v6, v7, none] H2 := by
      intro H2 v6 v7 s3
      have sA := s2.trans s3
      have hg2 := hg.mono sA
      obtain ⟨dx, fs, hp, hf⟩ := hg2.no
      refine ⟨_, rfl, Z.cl g, p, dx, fs, anyGo.of Z g, rfl, hp, hf, _, rfl, _, rfl, p, h, a, sz, tap, st, g, rfl, hg2, hh.mono sA, sA _ _ ha, hst, hok, fun H3 s4 => ?_⟩
      refine ⟨_, rfl, _, _, _, _, _, rfl, .ty "bool", .bl _, kit_bb, _, rfl, iteT ?_⟩
      refine ⟨_, rfl, _, rfl, (by cases g.met st <;> rfl), ?_⟩
      rw [decide_eq_true rfl]
      exact k _ (sA.trans s4)
    refine ⟨_, rfl, _, _, rfl, rfl, _, rfl, ?_⟩
    by_cases hn : (g.num : Int) < 3
    · rw [decide_eq_true hn]
      refine iteT ?_
      have hn' : g.num < 3 := by omega
      obtain ⟨dp, tp, hp5, ht5⟩ := id (hh.mono s2)
      refine ⟨_, rfl, h, dp, _, rfl, hp5, hF_no _ _ (by decide +kernel) (by decide +kernel), h, sz, tap, rfl, hh.mono s2, fun y ny => ?_⟩
      have s3 := Same.new (o := .lst (sz.map V.int)) ny
      refine ⟨y, rfl, ⟨_, SqL.of upd_same⟩, lc_list (xs := sz.map V.int) (fun i ys H' => ys = ((far sz).take i).map V.int ∧ H' = upd H1 y (.lst (sz.map V.int))) ⟨rfl, rfl⟩ (by rw [List.length_map]; exact small1000 (by omega)) (fun i ys H' ⟨e, _⟩ => by rw [e]; simp; omega)
        (fun i ys H' _ ⟨_, e⟩ => by subst e; exact SqL.of upd_same) (fun i x' ys H' hx' ⟨e1, e2⟩ => ?_) (fun ys H' ⟨e1, e2⟩ => ?_)⟩
      · obtain ⟨z, ez, rfl⟩ := mem_ints hx'
        subst e1 e2
        refine tYes_of ⟨_, rfl, _, _, rfl, rfl, (by show (0 : Int) < 60; decide), _, _, rfl, rfl, ?_, rfl⟩
        rw [List.take_add_one]
        have e : (far sz)[i]? = some (z % 60 + 1) := by unfold far; rw [List.getElem?_map, ez]; rfl
        rw [e, List.map_append]; rfl
      subst e1 e2
      intro D2 nD2
      have e9 : List.take (List.map V.int sz).length (far sz) = far sz := by rw [List.length_map]; exact List.take_of_length_le (by simp [far])
      rw [e9]
      have s4 := s3.lay (o := .lst ((far sz).map V.int)) nD2
      have eD2 : (upd (upd H1 y (.lst (sz.map V.int))) D2 (.lst ((far sz).map V.int))) D2 = some (.lst ((far sz).map V.int)) := upd_same
      generalize upd (upd H1 y (.lst (sz.map V.int))) D2 (.lst ((far sz).map V.int)) = H2 at s4 eD2 ⊢
      refine ⟨_, rfl, a, _, rfl, .inr (SqT.of (s4 _ _ (s2 _ _ ha))), _, rfl, D2, _, rfl, SqL.of eD2, fun y2 ny2 => ?_⟩
      have ecut : cutV ((far sz).map V.int) none (some ((st.map V.int).length : Int)) = (far sz).map V.int := by
        unfold cutV
        have el : ((far sz).map V.int).length = (st.map V.int).length := by rw [List.length_map, List.length_map, far_len, hst.len]
        rw [el]
        have e1 : HT.sIx (st.map V.int).length 0 none = 0 := rfl
        have e2 : HT.sIx (st.map V.int).length (st.map V.int).length (some ((st.map V.int).length : Int)) = (st.map V.int).length := by
          rw [HT.sIx_nat, Nat.min_self]
        rw [e1, e2, List.drop_zero, Nat.sub_zero, ← el, List.take_length]
      rw [ecut]
      have s5 := s4.lay (o := .lst ((far sz).map V.int)) ny2
      have ey2 : (upd H2 y2 (.lst ((far sz).map V.int))) y2 = some (.lst ((far sz).map V.int)) := upd_same
      generalize upd H2 y2 (.lst ((far sz).map V.int)) = H3 at s5 ey2 ⊢
      refine ⟨_, rfl, h, CH, dp, _, _, rfl, s5 _ _ hp5, C.cl, C.tap, hF_tap _ _, _, rfl, ?_⟩
      refine fun q dx nq ndx nex => ⟨q, dx, y2, far sz, !tap, rfl, upd_same, ?_, hsz.far, fun H4 kp hh4 => ⟨rfl, ?_⟩⟩
      · rw [upd_ne (ne_of_none ey2 nq), upd_ne (ne_of_none ey2 ndx)]; exact ey2
      have s6 : Same H1 H4 := s5.trans fun c o e => kp c o (by rw [upd_ne (ne_of_none e nq), upd_ne (ne_of_none e ndx)]; exact e) (ne_of_none e nq)
      have ha6 := s6 _ _ (s2 _ _ ha)
      refine ⟨_, rfl, a, rfl, ⟨_, SqT.of ha6⟩, lc_tup (xs := st.map V.int) (fun i ys H' => ys = (List.replicate i (0 : Int)).map V.int ∧ H' = H4) ⟨rfl, rfl⟩ (by rw [List.length_map, hst.len]; exact small1000 (by omega)) (fun i ys H' ⟨e, _⟩ => by rw [e]; simp)
        (fun i ys H' _ ⟨_, e⟩ => by subst e; exact SqT.of ha6) (fun i x' ys H' _ ⟨e1, e2⟩ => ?_) (fun ys H' ⟨e1, e2⟩ => ?_)⟩
      · subst e1 e2
        refine tYes_of ⟨?_, rfl⟩
        rw [List.replicate_succ', List.map_append]; rfl
      subst e1 e2
      intro D' nD'
      rw [List.length_map, hst.len]
      refine ⟨D', _, rfl, .inl ⟨SqL.of upd_same, fun t' nt' => ?_⟩⟩
      have s7 : Same H' (upd (upd H' D' (.lst ((List.replicate sz.length (0 : Int)).map V.int))) t' (.tup ((List.replicate sz.length (0 : Int)).map V.int))) := (Same.new nD').lay nt'
      have et' : (upd (upd H' D' (.lst ((List.replicate sz.length (0 : Int)).map V.int))) t' (.tup ((List.replicate sz.length (0 : Int)).map V.int))) t' = some (.tup ((List.replicate sz.length (0 : Int)).map V.int)) := upd_same
      generalize upd (upd H' D' (.lst ((List.replicate sz.length (0 : Int)).map V.int))) t' (.tup ((List.replicate sz.length (0 : Int)).map V.int)) = H5 at s7 et' ⊢
      have sB := s2.trans (s6.trans s7)
      have hg5 := hg.mono sB
      obtain ⟨dg, fs, hpg, hfg⟩ := hg5.no
      have zst := zero_st hsz.far
      rw [far_len] at zst
      refine ⟨_, rfl, Z.cl g, p, dg, fs, anyGo.of Z g, rfl, hpg, hfg, _, rfl, _, rfl, p, q, t', far sz, !tap, List.replicate sz.length 0, g, rfl, hg5, hh4.mono s7, et', zst, ok_far hok hn', fun H6 s8 => ?_⟩
      rw [met_zero hz.l1 hn']
      refine ⟨_, rfl, rfl, ?_⟩
      rw [decV]
      refine ⟨(by cases decide (g.amt = 0) <;> rfl), _, rfl, iteNS rfl ?_⟩
      exact fin _ _ _ ((s6.trans s7).trans s8)
    · rw [decide_eq_false hn]
      exact iteF (fin _ _ _ (Same.refl _))
end

theorem mkSame {H H' : Hp} {p dx C : Addr} (np : H p = none) (ndx : H dx = none) (kp : ∀ c o, (upd (upd H dx (.own p)) p (.ins C dx [])) c = some o → c ≠ p → H' c = some o) : Same H H' :=
  fun c o e => kp c o (by rw [upd_ne (ne_of_none e np), upd_ne (ne_of_none e ndx)]; exact e) (ne_of_none e np)
def bitOf (m : Int) (k : Nat) : Bool := decide (Builtin.bitAnd (m / 2 ^ k) 1 = 1)
def jugsOf (m : Int) (n : Nat) : List Int := ((List.range n).filter (bitOf m)).map fun (k : Nat) => (k : Int)
theorem mask_all : ∀ n : Nat, n < 5 → ∀ m : Nat, m < 16 → 1 ≤ m → m < 2 ^ n → ((List.range n).filter (bitOf (m : Int))).length ≠ 0 := by decide +kernel
theorem nodup_cast : ∀ {l : List Nat}, l.Nodup → (l.map fun (k : Nat) => (k : Int)).Nodup
  | [], _ => by simp
  | a :: l, h => by
    rw [List.map_cons, List.nodup_cons]
    rw [List.nodup_cons] at h
    refine ⟨fun hm => ?_, nodup_cast h.2⟩
    obtain ⟨b, hb, e⟩ := List.mem_map.mp hm
    have : b = a := by omega
    exact h.1 (this ▸ hb)
structure Js (n : Nat) (js : List Int) : Prop where
  nd : js.Nodup
  l1 : 1 ≤ js.length
  l4 : js.length ≤ n
  bd : ∀ j ∈ js, 0 ≤ j ∧ j < n
theorem Js.of {n : Nat} {m : Int} (h4 : n ≤ 4) (h0 : 1 ≤ m) (h1 : m < 2 ^ n) : Js n (jugsOf m n) := by
  obtain ⟨k, rfl⟩ : ∃ k : Nat, m = (k : Int) := ⟨m.toNat, by omega⟩
  have hk : k < 2 ^ n := by exact_mod_cast h1
  have hp : 2 ^ n ≤ 2 ^ 4 := Nat.pow_le_pow_right (by decide) h4
  have := mask_all n (by omega) k (by omega) (by omega) hk
  refine ⟨nodup_cast (List.Pairwise.filter _ List.nodup_range), ?_, ?_, fun j hj => ?_⟩
  · unfold jugsOf; rw [List.length_map]; omega
  · unfold jugsOf; rw [List.length_map]
    have := List.length_filter_le (bitOf (k : Int)) (List.range n)
    rw [List.length_range] at this
    exact this
  · obtain ⟨a, ha, rfl⟩ := List.mem_map.mp hj
    have := List.mem_range.mp (List.mem_filter.mp ha).1
    omega
theorem Js.rev {n : Nat} {js : List Int} (h : Js n js) : Js n js.reverse := ⟨List.pairwise_reverse.mpr (List.Pairwise.imp (fun h => Ne.symm h) h.nd), by rw [List.length_reverse]; exact h.l1, by rw [List.length_reverse]; exact h.l4, fun j hj => h.bd j (List.mem_reverse.mp hj)⟩
theorem sum_bd (st : List Int) (b : Int) (hb : 0 ≤ b) : ∀ (js : List Int), (∀ j ∈ js, 0 ≤ J.at0 st j.toNat ∧ J.at0 st j.toNat ≤ b) → 0 ≤ sumAt st js ∧ sumAt st js ≤ js.length * b
  | [], _ => by unfold sumAt; simp
  | j :: js, h => by
    have h1 := h j List.mem_cons_self
    have h2 := sum_bd st b hb js fun x hx => h x (List.mem_cons_of_mem _ hx)
    have e : sumAt st (j :: js) = J.at0 st j.toNat + sumAt st js := by unfold sumAt; rw [List.map_cons, List.sum_cons]
    have e2 : ((j :: js).length : Int) * b = b + js.length * b := by rw [List.length_cons]; push_cast; rw [Int.add_mul]; omega
    rw [e, e2]
    omega
theorem tot_le {sz st js : List Int} (h : LSz sz) (hst : J.IsSt sz st) (hj : Js sz.length js) : 0 ≤ sumAt st js ∧ sumAt st js ≤ 60 := by
  have hb : ∀ j ∈ js, 0 ≤ J.at0 st j.toNat ∧ J.at0 st j.toNat ≤ J.at0 mos (sz.length - 1) := fun j hjm => by
    have b1 := hj.bd j hjm
    have b2 := hst.bnd j.toNat (by omega)
    have b3 := h.bd _ (List.mem_of_getElem? (get_of (l := sz) (i := j.toNat) (by omega)))
    omega
  have hm : ∀ i : Nat, i < 4 → 0 ≤ J.at0 mos i := by decide
  have l1 := h.l1
  have l4 := h.l4
  have := sum_bd st _ (hm (sz.length - 1) (by omega)) js hb
  refine ⟨this.1, Int.le_trans this.2 ?_⟩
  have h3 : (js.length : Int) * J.at0 mos (sz.length - 1) ≤ sz.length * J.at0 mos (sz.length - 1) := Int.mul_le_mul_of_nonneg_right (by have := hj.l4; omega) (hm _ (by omega))
  refine Int.le_trans h3 ?_
  have h5 : ∀ n : Nat, n < 5 → (n : Int) * J.at0 mos (n - 1) ≤ 60 := by decide
  exact h5 sz.length (by omega)
theorem dec_flip (a b : Int) : decide (a = b) = decide (b = a) := by
  rw [Bool.eq_iff_iff, decide_eq_true_iff, decide_eq_true_iff]; exact eq_comm
theorem if_joinS {b : Bool} {t u : TS} {D : Ends} {σ σ2 : St} {H H2 : Hp} (R : St → Hp → Prop) (hN : ∀ σ H, R σ H → D.nx σ H) (h1 : b = true → (∀ σ H, R σ H → D.nx σ H) → t D σ H) (h2 : ¬ b = true → (∀ σ H, R σ H → D.nx σ H) → u D σ2 H2) :
    if b = true then t D σ H else u D σ2 H2 := by
  by_cases h : b = true
  · rw [if_pos h]; exact h1 h hN
  · rw [if_neg h]; exact h2 h hN
/-- a statement and the rest, with what holds between them said -/
def tCut (t u : TS) : TS := fun D σ H => ∃ R : St → Hp → Prop, t { D with nx := R } σ H ∧ ∀ σ' H', R σ' H' → u D σ' H'
theorem pss_cut {X : Cx} {st : Stmt} {rest : List Stmt} {t u : TS} (h1 : PS X st t) (h2 : PSs X rest u) : PSs X (st :: rest) (tCut t u) := by
  intro pins s σ H D I ⟨R, h, hR⟩
  refine wpAny_execs_cons (thn (h1 pins s σ H { D with nx := R } I h) fun f s1 q => ?_)
  cases f with
  | next => obtain ⟨σ', H', I', q'⟩ := q; exact h2 pins s1 σ' H' D I' (hR σ' H' q')
  | ret v => exact q
  | brk => exact q
  | cont => exact q
theorem bt_max : bootBuiltins "max" = some (.builtin "max") := by decide +kernel
section
variable {P : Program} {w : World} {K : PySem.W.Frag} {mg : Str → Option Value} {base : Heap} {CH CG : Addr} {Z : Gz}
def spLaw (K : PySem.W.Frag) : Sp := fun vs H Q _ => ∃ (a : Addr) (ns : List Int), vs = [.ref a] ∧ SqL K H a (ns.map V.int) ∧ ns.length ≤ 63 ∧ ∀ H', Q (.bl true) H'
theorem ok_law4 {f : Addr} {fd : FuncData} (F : Fun K "law" "law" s_law f fd) (B : Bt mg) (C : CHs K CH) (M : GoC K mg Z CG) (hsm : mg "sum" = none) (hmx : mg "max" = none)
    (D : FnB P w K mg base 1 "_law_draw" ["_law_cell", "_law_k", "_law_many"] sp_draw) (CA : FnB P w K mg base 1 "_law_cell_at" ["_law_script", "_law_k"] (sp_cell_at K))
    (LZ : FnB P w K mg base 2 "_law_sizes" ["_law_cell"] sp_law_sizes) (LS : FnB P w K mg base 2 "_law_state" ["_law_cell", "_law_sizes_here"] sp_law_state)
    (R : FnB P w K mg base 6 "_law_right" ["_law_house", "_law_state_here", "_law_goal", "_law_sort", "_law_due", "_law_many"] (sp_right Z CH))
    (MH : MkB P w K mg base 3 "House" CH ["self", "sizes", "tap"] (sp_House_init CH)) (MO : MkB P w K mg base 4 "Holds" Z.H ["self", "jug", "many"] (sp_Holds_init Z)) (MS : MkB P w K mg base 3 "Some" Z.S ["self", "many"] (sp_Some_init Z))
    (MU : MkB P w K mg base 5 "Sum" Z.U ["self", "jugs", "many"] (sp_Sum_init Z)) (MW : MkB P w K mg base 3 "Whole" Z.W ["self", "state"] (sp_Whole_init Z)) : FnOk P w K mg base CX0 7 f fd ["_law_script"] (spLaw K) := by
  refine F.ok sc_law (fun vs H Q E h => ?_) (fun cdv A outer s H vs Q E hr h => ?_)
  · obtain ⟨a, ns, rfl, _⟩ := h
    rfl
  · obtain ⟨a, ns, rfl, hS, hlen, k⟩ := h
    have nd := sc_law.nd
    have hr1 : Room 1 _ := hr.mono (by decide)
    have hr2 : Room 2 _ := hr.mono (by decide)
    have hr4 : Room 4 _ := hr.mono (by decide)
    have hr5 : Room 5 _ := hr.mono (by decide)
    have hu := hr.u20
    refine ⟨_, pss_cons (ps_set (i := 1) nd rfl (Or.inl rfl) (pe_fn LZ hr2 (pa_cons (pe_fn CA hr1 (pa_cons (pv 0) (pa_cons pe_int pa_nil))) pa_nil)))
      (pss_cons (ps_set (i := 2) nd rfl (Or.inl rfl) (pe_mk MH hr4 (pa_cons (pv 1) (pa_cons (pe_cmpR op_eq (pe_fn D hr1 (pa_cons (pe_fn CA hr1 (pa_cons (pv 0) (pa_cons pe_int pa_nil))) (pa_cons pe_int (pa_cons pe_int pa_nil)))) pe_int (nomark _)) pa_nil))))
      (pss_cons (ps_set (i := 3) nd rfl (Or.inr rfl) (pe_fn LS hr2 (pa_cons (pe_fn CA hr1 (pa_cons (pv 0) (pa_cons pe_int pa_nil))) (pa_cons (pv 1) pa_nil))))
      (pss_cut (ps_for PassesOwn.never rfl (pi_range1 (by rfl) B.range (pa_cons (pe_callB call_len_seq (by rfl) B.len PySem.boot_len (pa_cons (pv 1) pa_nil)) pa_nil)) (pg_name (i := 4) nd rfl (Or.inl rfl))
        (pss_one (ps_for PassesOwn.never rfl (pi_range1 (by rfl) B.range (pa_cons (pe_op op_add (pe_ix ix_list (pv 1) (pv 4) (fun _ _ => rfl)) pe_int) pa_nil)) (pg_name (i := 5) nd rfl (Or.inl rfl))
          (pss_cons (ps_if (pt_not (pt_val (pe_fn R hr (pa_cons (pv 2) (pa_cons (pv 3) (pa_cons (pe_mk MO hr5 (pa_cons (pv 4) (pa_cons (pv 5) pa_nil))) (pa_cons pe_int (pa_cons (pe_cmpR op_eq (pe_ix ix_tup (pv 3) (pv 4) (fun _ _ => rfl)) (pv 5) (nomark _)) (pa_cons (pv 5) pa_nil))))))))) pss_never pss_nil)
          (pss_one (ps_if (pt_not (pt_val (pe_fn R hr (pa_cons (pv 2) (pa_cons (pv 3) (pa_cons (pe_mk MS hr4 (pa_cons (pv 5) pa_nil)) (pa_cons pe_int (pa_cons (pe_cmpR op_in_seq (pv 5) (pv 3) (by rfl)) (pa_cons (pv 5) pa_nil))))))))) pss_never pss_nil))))))
      (pss_cons (ps_set (i := 6) nd rfl (Or.inr rfl) (pe_op op_add pe_int (pe_fn D hr1 (pa_cons (pe_fn CA hr1 (pa_cons (pv 0) (pa_cons pe_int pa_nil))) (pa_cons pe_int (pa_cons (pe_op op_sub (pe_op op_shl pe_int (pe_callB call_len_seq (by rfl) B.len PySem.boot_len (pa_cons (pv 1) pa_nil))) pe_int) pa_nil))))))
      (pss_cons (ps_lc (i := 7) sc_law [6] nd rfl rfl (pi_range1 (by rfl) B.range (pa_cons (pe_callB call_len_seq (by rfl) B.len PySem.boot_len (pa_cons (pv 1) pa_nil)) pa_nil)) (fun _ _ _ _ _ _ => ⟨pif_one (pt_cmpR op_eq (pe_op op_and (pe_op op_shr (pv 1) (pv 0)) pe_int) pe_int (nomark _)), pv 0⟩))
      (pss_cons (ps_if (pt_cmpR op_eq (pe_fn D hr1 (pa_cons (pe_fn CA hr1 (pa_cons (pv 0) (pa_cons pe_int pa_nil))) (pa_cons pe_int (pa_cons pe_int pa_nil)))) pe_int (nomark _)) (pss_one (ps_set (i := 7) nd rfl (Or.inl rfl) (pe_rev (pv 7) pe_int))) pss_nil)
      (pss_cons (ps_set (i := 8) nd rfl (Or.inl rfl) (pe_callB (call_sum rfl) (by rfl) hsm bt_sum (pa_cons (pe_lc sc_law [3] (pi_list (pv 7)) (fun _ _ _ _ _ _ => ⟨pif_nil, pe_ix (ix_tupK K) (pv 1) (pv 0) (fun _ _ => rfl)⟩)) pa_nil)))
      (pss_cut (ps_for PassesOwn.never rfl (pi_list (pe_lst (pa_cons (pv 8) (pa_cons (pe_op op_add (pv 8) pe_int) (pa_cons (pe_callB (call_max2 rfl) (by rfl) hmx bt_max (pa_cons pe_int (pa_cons (pe_op op_sub (pv 8) pe_int) pa_nil))) (pa_cons pe_int pa_nil)))))) (pg_name (i := 5) nd rfl (Or.inl rfl))
        (pss_cons (ps_set (i := 9) nd rfl (Or.inl rfl) (pe_callTy call_list_of (by rfl) B.list bt_list (pa_cons (pv 7) pa_nil)))
        (pss_cons (ps_set (i := 10) nd rfl (Or.inl rfl) (pe_mk MU hr (pa_cons (pv 9) (pa_cons (pv 5) pa_nil))))
        (pss_cons (ps_expr (pe_append (pv 9) pe_int))
        (pss_one (ps_if (pt_not (pt_val (pe_fn R hr (pa_cons (pv 2) (pa_cons (pv 3) (pa_cons (pv 10) (pa_cons pe_int (pa_cons (pe_cmpR op_eq (pv 5) (pv 8) (nomark _)) (pa_cons (pv 5) pa_nil))))))))) pss_never pss_nil))))))
      (pss_cons (ps_set (i := 11) nd rfl (Or.inl rfl) (pe_fn LS hr2 (pa_cons (pe_fn CA hr1 (pa_cons (pv 0) (pa_cons pe_int pa_nil))) (pa_cons (pv 1) pa_nil))))
      (pss_cons (ps_if (pt_not (pt_val (pe_fn R hr (pa_cons (pv 2) (pa_cons (pv 3) (pa_cons (pe_mk MW hr4 (pa_cons (pv 3) pa_nil)) (pa_cons pe_int (pa_cons pe_bl (pa_cons pe_int pa_nil))))))))) pss_never pss_nil)
      (pss_one (ps_ret (pe_fn R hr (pa_cons (pv 2) (pa_cons (pv 3) (pa_cons (pe_mk MW hr4 (pa_cons (pv 11) pa_nil)) (pa_cons pe_int (pa_cons (pe_cmpR (op_eqD hu) (pv 11) (pv 3) (nomark _)) (pa_cons pe_int pa_nil))))))))))))))))))), ?_⟩
    -- sizes, the house, the state
    refine ⟨_, rfl, a, ns, 0, rfl, hS, by decide, fun c0 => ⟨c0, rfl, fun l H1 sz s1 nl el lz => ?_⟩⟩
    have hz := lz.hz
    have hnn : ∀ s ∈ sz, 0 ≤ s := fun s hs => by have := hz.bd s hs; omega
    have h1 := hz.l1
    have h4 := hz.l4
    refine ⟨_, rfl, _, rfl, a, ns, 1, rfl, s1.seq hS, by decide, fun c1 => ⟨c1, 0, 2, rfl, by decide, by decide, fun x H2 x0 x2 s2 => ⟨rfl, ?_⟩⟩⟩
    generalize decide (V.int x = V.int 0) = tap
    refine fun p dx np ndx nex => ⟨p, dx, l, sz, tap, rfl, upd_same, ?_, hz, fun H3 kp hh3 => ⟨rfl, ?_⟩⟩
    · have e := s2 _ _ el
      rw [upd_ne (ne_of_none e np), upd_ne (ne_of_none e ndx)]; exact e
    have s3 : Same H2 H3 := mkSame np ndx kp
    have s13 := s2.trans s3
    refine ⟨_, rfl, a, ns, 2, rfl, (s1.trans s13).seq hS, by decide, fun c2 => ⟨_, rfl, c2, l, sz, rfl, s13 _ _ el, h4, hnn, fun t H4 st s4 et hst => ?_⟩⟩
    have el4 := s4 _ _ (s13 _ _ el)
    have hh4 := hh3.mono s4
    have hS4 := (s1.trans (s13.trans s4)).seq hS
    clear kp s3 s13 s2 np ndx nex hh3
    -- each jug, each amount
    refine ⟨fun σ H' => ∃ v4 v5, σ = [some (.ref a), some (.ref l), some (.ref p), some (.ref t), v4, v5, none, none, none, none, none, none] ∧ Same H4 H', ⟨_, rfl, l, _, rfl, .inl (SqL.of el4), ((sz.length : Nat) : Int), (by rw [List.length_map]), by omega, by omega, for_rangeN (n := sz.length) (fun i σ H' => ∃ v4 v5, σ = [some (.ref a), some (.ref l), some (.ref p), some (.ref t), v4, v5, none, none, none, none, none, none] ∧ Same H4 H') ⟨none, none, rfl, Same.refl _⟩ ?_ fun _ _ z => z⟩, ?_⟩
    · rintro j σ K1 hj ⟨v4, v5, rfl, w1⟩
      have hzj := hz.bd _ (List.mem_of_getElem? (get_of hj))
      have hj' : j < st.length := by rw [hst.len]; exact hj
      refine ⟨_, rfl, _, rfl, l, _, _, _, rfl, rfl, SqL.of (w1 _ _ el4), atI_nat (getV_of hj), _, _, rfl, rfl, _, rfl, by omega, by omega, ?_⟩
      refine for_rangeN (n := (J.at0 sz j + 2).toNat) (fun i σ H' => ∃ v5, σ = [some (.ref a), some (.ref l), some (.ref p), some (.ref t), some (.int j), v5, none, none, none, none, none, none] ∧ Same H4 H') ⟨v5, rfl, w1⟩ ?_ ?_
      · rintro m σ K2 hm ⟨v5, rfl, w2⟩
        refine ⟨_, rfl, _, rfl, _, rfl, _, rfl, fun q dq nq ndq neq => ⟨q, dq, j, m, rfl, upd_same, by omega, by omega, by omega, fun K3 kq hgq => ⟨rfl, ?_⟩⟩⟩
        have w3 := w2.trans (mkSame nq ndq kq)
        refine ⟨_, rfl, _, rfl, t, _, _, _, rfl, rfl, SqT.of (w3 _ _ et), atI_nat (getV_of hj'), _, rfl, rfl, ?_⟩
        rw [decV]
        refine ⟨_, rfl, p, t, q, sz, st, tap, .holds j m, rfl, hh4.mono w3, w3 _ _ et, hst, lz, hgq, hj, fun K4 w4 => ⟨_, rfl, iteF ?_⟩⟩
        have w5 := w3.trans w4
        refine ⟨_, rfl, _, rfl, _, rfl, fun q dq nq ndq neq => ⟨q, dq, m, rfl, upd_same, by omega, by omega, fun K5 kq hgq => ⟨rfl, ?_⟩⟩⟩
        have w6 := w5.trans (mkSame nq ndq kq)
        refine ⟨_, rfl, _, rfl, t, _, rfl, .inr (SqT.of (w6 _ _ et)), rfl, flat_ints _, ?_⟩
        show tCons (tVar 5) tNil _ K5 fun vs H2 => sp_right Z CH (V.ref p :: V.ref t :: V.ref q :: V.int 1 :: V.bl (inV (.int m) (st.map V.int)) :: vs ++ []) H2 _ E0
        rw [inV_ints]
        exact ⟨_, rfl, p, t, q, sz, st, tap, .som m, rfl, hh4.mono w6, w6 _ _ et, hst, lz, hgq, trivial, fun K6 w7 => ⟨_, rfl, iteF ⟨_, rfl, w6.trans w7⟩⟩⟩
      · rintro σ K2 ⟨v5, rfl, w2⟩
        exact ⟨_, _, rfl, w2⟩
    rintro σ K1 ⟨v4, v5, rfl, w1⟩
    have hS5 := w1.seq hS4
    -- the jugs of a sum
    refine ⟨_, rfl, a, ns, 3, rfl, hS5, by decide, fun c3 => ⟨_, rfl, l, _, rfl, .inl (SqL.of (w1 _ _ el4)), _, _, rfl, rfl, ⟨by omega, by rw [List.length_map]; omega, by decide⟩, _, _, rfl, rfl, c3, 1, _, rfl, by decide, ?_, fun r K2 r0 r1 w2 => ?_⟩⟩
    · rw [List.length_map, Int.toNat_natCast]
      have : ∀ n : Nat, 1 ≤ n → n ≤ 4 → (0 : Int) < 1 * 2 ^ n - 1 := by
        intro n g1 g4
        match n, g1, g4 with
        | 1, _, _ => decide
        | 2, _, _ => decide
        | 3, _, _ => decide
        | 4, _, _ => decide
      exact this _ h1 h4
    rw [List.length_map, Int.toNat_natCast, Int.one_mul] at r1
    have jsA : Js sz.length (jugsOf (1 + r) sz.length) := Js.of h4 (by omega) (by omega)
    refine ⟨_, _, rfl, rfl, ?_⟩
    have w02 := w1.trans w2
    refine ⟨_, rfl, l, _, rfl, .inl (SqL.of (w02 _ _ el4)), ((sz.length : Nat) : Int), (by rw [List.length_map]), by omega, by omega, ?_⟩
    refine lc_rangeN (n := sz.length) (fun i ys H' => ys = (jugsOf (1 + r) i).map V.int ∧ H' = K2) ⟨rfl, rfl⟩ (small1000 (by omega)) (fun i ys H' ⟨e, _⟩ => by
        rw [e]; unfold jugsOf; rw [List.length_map, List.length_map]
        have := List.length_filter_le (bitOf (1 + r)) (List.range i)
        rw [List.length_range] at this; exact this) ?_ ?_
    · rintro i ys H' hi ⟨rfl, rfl⟩
      refine ⟨_, rfl, _, rfl, _, _, rfl, rfl, by omega, _, _, rfl, rfl, rfl, _, rfl, ?_⟩
      rw [decV, Int.toNat_natCast]
      have e : jugsOf (1 + r) (i + 1) = if bitOf (1 + r) i = true then jugsOf (1 + r) i ++ [(i : Int)] else jugsOf (1 + r) i := by
        unfold jugsOf
        rw [List.range_succ, List.filter_append, List.filter_cons, List.filter_nil]
        split <;> simp
      rw [e]
      show if bitOf (1 + r) i = true then _ else _
      by_cases hb : bitOf (1 + r) i = true
      · rw [if_pos hb, if_pos hb]
        exact ⟨_, rfl, by rw [List.map_append]; rfl, rfl⟩
      · rw [if_neg hb, if_neg hb]
        exact ⟨rfl, rfl⟩
    rintro ys H' ⟨rfl, rfl⟩ g ng
    have w03 := w02.lay (o := .lst ((jugsOf (1 + r) sz.length).map V.int)) ng
    have eg : (upd H' g (.lst ((jugsOf (1 + r) sz.length).map V.int))) g = some (.lst ((jugsOf (1 + r) sz.length).map V.int)) := upd_same
    generalize upd H' g (.lst ((jugsOf (1 + r) sz.length).map V.int)) = K3 at w03 eg ⊢
    refine ⟨_, rfl, a, ns, 3, rfl, w03.seq hS4, by decide, fun c4 => ⟨c4, 0, 2, rfl, by decide, by decide, fun y K4 y0 y2 w4 => ⟨rfl, _, rfl, ?_⟩⟩⟩
    have w04 := w03.trans w4
    have eg4 := w4 _ _ eg
    refine if_joinS (fun σ H' => ∃ g js, σ = [some (.ref a), some (.ref l), some (.ref p), some (.ref t), v4, v5, some (.int (1 + r)), some (.ref g), none, none, none, none] ∧ Same H4 H' ∧ H' g = some (.lst (js.map V.int)) ∧ Js sz.length js) ?_ (fun _ n => ?_) (fun _ n => ?_)
    rotate_left
    · refine ⟨_, rfl, g, _, rfl, SqL.of eg4, fun q nq => n _ _ ⟨q, (jugsOf (1 + r) sz.length).reverse, rfl, w04.lay nq, ?_, jsA.rev⟩⟩
      rw [upd_same, List.map_reverse]
    · exact n _ _ ⟨g, _, rfl, w04, eg4, jsA⟩
    clear w04 eg4 w03 eg ng w02 jsA
    rintro σ K5 ⟨g, js, rfl, w5, eg, hj⟩
    have hjl := hj.l4
    have et5 := w5 _ _ et
    -- the sum
    refine ⟨_, rfl, g, rfl, ⟨_, SqL.of eg⟩, lc_list (xs := js.map V.int) (fun i ys H'' => ys = ((js.take i).map fun j => J.at0 st j.toNat).map V.int ∧ H'' = K5) ⟨rfl, rfl⟩ (by rw [List.length_map]; exact small1000 (by omega)) (fun i ys H' ⟨e, _⟩ => by rw [e]; simp; omega)
      (fun i ys H'' _ ⟨_, e⟩ => by subst e; exact SqL.of eg) (fun i x ys H'' hx ⟨e1, e2⟩ => ?_) (fun ys H'' ⟨e1, e2⟩ => ?_)⟩
    · obtain ⟨z, ez, rfl⟩ := mem_ints hx
      obtain ⟨z0, z1⟩ := hj.bd z (List.mem_of_getElem? ez)
      obtain ⟨j, rfl⟩ : ∃ j : Nat, z = (j : Int) := ⟨z.toNat, (Int.toNat_of_nonneg z0).symm⟩
      have hj' : j < st.length := by rw [hst.len]; omega
      subst e1 e2
      refine tYes_of ⟨_, rfl, _, rfl, t, _, _, .int (J.at0 st j), rfl, rfl, SqT.of et5, atI_nat (getV_of hj'), ?_, rfl⟩
      rw [List.take_add_one, ez, List.map_append, List.map_append]
      rfl
    subst e1 e2
    intro D nD
    have etot : ((js.take (js.map V.int).length).map fun j => J.at0 st j.toNat) = js.map fun j => J.at0 st j.toNat := by rw [List.length_map, List.take_length]
    rw [etot]
    have w6 := w5.lay (o := .lst ((js.map fun j => J.at0 st j.toNat).map V.int)) nD
    have eg6 := (Same.new (o := .lst ((js.map fun j => J.at0 st j.toNat).map V.int)) nD) _ _ eg
    refine ⟨D, _, rfl, SqL.of upd_same, ?_⟩
    generalize upd H'' D (.lst ((js.map fun j => J.at0 st j.toNat).map V.int)) = K6 at w6 eg6 ⊢
    have htot := tot_le lz hst hj
    -- four sums
    refine ⟨fun σ H' => ∃ v5 v9 v10, σ = [some (.ref a), some (.ref l), some (.ref p), some (.ref t), v4, v5, some (.int (1 + r)), some (.ref g), some (.int (sumAt st js)), v9, v10, none] ∧ Same H4 H', ?_, ?_⟩
    refine ⟨_, rfl, _, rfl, _, _, rfl, rfl, _, rfl, _, _, rfl, rfl, 0, sumAt st js - 1, rfl, (by show 4 ≤ sizeLine; decide), fun d ndd => ?_⟩
    have hzs : ∀ z ∈ [sumAt st js, sumAt st js + 1, (if sumAt st js - 1 > 0 then sumAt st js - 1 else 0), 240], 0 ≤ z ∧ z ≤ 240 := by
      intro z hz'
      simp only [List.mem_cons, List.not_mem_nil, or_false] at hz'
      rcases hz' with rfl | rfl | rfl | rfl
      · omega
      · omega
      · split <;> omega
      · omega
    have w7 := w6.lay (o := .lst ([sumAt st js, sumAt st js + 1, (if sumAt st js - 1 > 0 then sumAt st js - 1 else 0), 240].map V.int)) ndd
    have eg7 := (Same.new (o := .lst ([sumAt st js, sumAt st js + 1, (if sumAt st js - 1 > 0 then sumAt st js - 1 else 0), 240].map V.int)) ndd) _ _ eg6
    have ed : (upd K6 d (.lst ([sumAt st js, sumAt st js + 1, (if sumAt st js - 1 > 0 then sumAt st js - 1 else 0), 240].map V.int))) d = some (.lst ([sumAt st js, sumAt st js + 1, (if sumAt st js - 1 > 0 then sumAt st js - 1 else 0), 240].map V.int)) := upd_same
    show ∃ l', _
    refine ⟨d, rfl, ⟨_, SqL.of ed⟩, ?_⟩
    show ∃ W : Nat → Nat → St → Hp → Prop, (∃ m, W 0 m _ (upd K6 d (.lst ([sumAt st js, sumAt st js + 1, (if sumAt st js - 1 > 0 then sumAt st js - 1 else 0), 240].map V.int)))) ∧ _
    generalize hzz : [sumAt st js, sumAt st js + 1, (if sumAt st js - 1 > 0 then sumAt st js - 1 else 0), 240] = zs at hzs w7 eg7 ed ⊢
    generalize upd K6 d (.lst (zs.map V.int)) = K7 at w7 eg7 ed ⊢
    refine for_list (K := K) (a := d) (xs := zs.map V.int) (fun i σ H' => ∃ v5 v9 v10, σ = [some (.ref a), some (.ref l), some (.ref p), some (.ref t), v4, v5, some (.int (1 + r)), some (.ref g), some (.int (sumAt st js)), v9, v10, none] ∧ Same K7 H') ⟨_, _, _, rfl, Same.refl _⟩ (fun i σ H' _ ⟨_, _, _, _, s'⟩ => SqL.of (s' _ _ ed)) ?_ ?_
    · rintro i x σ K8 hx ⟨v5, v9, v10, rfl, w8⟩
      obtain ⟨z, ez, rfl⟩ := mem_ints hx
      obtain ⟨z0, z1⟩ := hzs z (List.mem_of_getElem? ez)
      refine ⟨_, rfl, g, _, rfl, .inl (SqL.of (w8 _ _ eg7)), fun q nq => ?_⟩
      have eq9 : (upd K8 q (.lst (js.map V.int))) q = some (.lst (js.map V.int)) := upd_same
      have w9 := w8.lay (o := .lst (js.map V.int)) nq
      have nq7 : K7 q = none := w8.free nq
      generalize upd K8 q (.lst (js.map V.int)) = K9 at eq9 w9 ⊢
      refine ⟨_, rfl, _, rfl, fun b db nb ndb neb => ⟨b, db, q, js, z, rfl, upd_same, ?_, hj.nd, hj.l1, by omega, fun j hjm => by have := hj.bd j hjm; omega, z0, z1, fun L1 kb hgb => ⟨rfl, ?_⟩⟩⟩
      · rw [upd_ne (ne_of_none eq9 nb), upd_ne (ne_of_none eq9 ndb)]; exact eq9
      have y1 := mkSame nb ndb kb
      have eq1 := y1 _ _ eq9
      refine ⟨_, rfl, .inl ⟨rfl, _, SqL.of eq1⟩, q, _, _, rfl, rfl, eq1, small1000 (by rw [List.length_map]; omega), ?_⟩
      have w10 : Same K7 (upd L1 q (.lst (js.map V.int ++ [V.int 9]))) := (w9.trans y1).put nq7
      have hg10 := hgb.fix (Fix.put (o' := .lst (js.map V.int ++ [V.int 9])) eq1 rfl)
      generalize upd L1 q (.lst (js.map V.int ++ [V.int 9])) = L2' at w10 hg10 ⊢
      have w11 := w7.trans w10
      refine ⟨_, rfl, _, rfl, _, rfl, _, rfl, _, rfl, rfl, ?_⟩
      rw [decV, dec_flip]
      refine ⟨_, rfl, p, t, b, sz, st, tap, .sum js z, rfl, hh4.mono w11, w11 _ _ et, hst, lz, hg10, ⟨by omega, hj.bd⟩, fun L3 y3 => ⟨_, rfl, iteF ⟨_, _, _, rfl, w10.trans y3⟩⟩⟩
    · rintro σ K8 ⟨v5, v9, v10, rfl, w8⟩
      exact ⟨v5, v9, v10, rfl, w7.trans w8⟩
    rintro σ K8 ⟨v5, v9, v10, rfl, w08⟩
    -- the state itself, another one
    refine ⟨_, rfl, a, ns, 4, rfl, w08.seq hS4, by decide, fun c5 => ⟨_, rfl, c5, l, sz, rfl, w08 _ _ el4, h4, hnn, fun o K9 so w9 eo hso => ?_⟩⟩
    have w09 := w08.trans w9
    have stb : ∀ {q : List Int}, J.IsSt sz q → 1 ≤ q.length ∧ q.length ≤ 4 ∧ ∀ j ∈ q, 0 ≤ j ∧ j ≤ 60 := fun {q} hq => by
      refine ⟨by rw [hq.len]; exact h1, by rw [hq.len]; exact h4, fun j hjm => ?_⟩
      obtain ⟨i, hi⟩ := List.mem_iff_getElem?.mp hjm
      have hil : i < sz.length := by have := (List.getElem?_eq_some_iff.mp hi).1; rw [hq.len] at this; exact this
      have b1 := hq.bnd i hil
      have b2 := hz.bd _ (List.mem_of_getElem? (get_of hil))
      rw [at0_of hi] at b1
      omega
    refine ⟨_, rfl, _, rfl, _, rfl, fun b db nb ndb neb => ⟨b, db, t, st, rfl, upd_same, ?_, (stb hst).1, (stb hst).2.1, (stb hst).2.2, fun L1 kb hgb => ⟨rfl, ?_⟩⟩⟩
    · have e := w09 _ _ et
      rw [upd_ne (ne_of_none e nb), upd_ne (ne_of_none e ndb)]; exact e
    have w10 := w09.trans (mkSame nb ndb kb)
    have emet : Go.met st (.whole st) = true := decide_eq_true rfl
    refine ⟨p, t, b, sz, st, tap, .whole st, by rw [emet]; rfl, hh4.mono w10, w10 _ _ et, hst, lz, hgb, hst, fun L2' y2 => ⟨_, rfl, iteF ?_⟩⟩
    have w11 := w10.trans y2
    have eo11 : L2' o = some (.tup (so.map V.int)) := y2 _ _ (mkSame nb ndb kb _ _ eo)
    refine ⟨_, rfl, _, rfl, _, rfl, fun b db nb ndb neb => ⟨b, db, o, so, rfl, upd_same, ?_, (stb hso).1, (stb hso).2.1, (stb hso).2.2, fun L3 kb hgb => ⟨rfl, ?_⟩⟩⟩
    · rw [upd_ne (ne_of_none eo11 nb), upd_ne (ne_of_none eo11 ndb)]; exact eo11
    have y3 := mkSame nb ndb kb
    have w12 := w11.trans y3
    refine ⟨_, rfl, _, rfl, _, rcT (y3 _ _ eo11) (w12 _ _ et), ?_⟩
    have e : decide (so = st) = Go.met st (.whole so) := by
      show _ = decide (st = so)
      rw [Bool.eq_iff_iff, decide_eq_true_iff, decide_eq_true_iff]; exact eq_comm
    rw [e]
    exact ⟨p, t, b, sz, st, tap, .whole so, rfl, hh4.mono w12, w12 _ _ et, hst, lz, hgb, hso, fun L4 _ => k L4⟩
end

theorem anyC {P : Program} {w : World} {K : PySem.W.Frag} {mg : Str → Option Value} {base : Heap} {k : Nat} {Z : Gz} {m : Str} {ps : List Str} {sp : Sp} (h1 : MeB P w K mg base k Z.H m ps sp) (h2 : MeB P w K mg base k Z.S m ps sp) (h3 : MeB P w K mg base k Z.U m ps sp) (h4 : MeB P w K mg base k Z.W m ps sp) :
    ∀ C, anyGo Z C → MeB P w K mg base k C m ps sp := by
  rintro C (rfl | rfl | rfl | rfl)
  · exact h1
  · exact h2
  · exact h3
  · exact h4
theorem len1 {us : List Value} (h : us.length = 1) : ∃ a0, us = [a0] := match us, h with | [a0], _ => ⟨a0, rfl⟩
theorem len2 {us : List Value} (h : us.length = 2) : ∃ a0 a1, us = [a0, a1] := match us, h with | [a0, a1], _ => ⟨a0, a1, rfl⟩
theorem len3 {us : List Value} (h : us.length = 3) : ∃ a0 a1 a2, us = [a0, a1, a2] := match us, h with | [a0, a1, a2], _ => ⟨a0, a1, a2, rfl⟩
theorem len6 {us : List Value} (h : us.length = 6) : ∃ a0 a1 a2 a3 a4 a5, us = [a0, a1, a2, a3, a4, a5] := match us, h with | [a0, a1, a2, a3, a4, a5], _ => ⟨a0, a1, a2, a3, a4, a5, rfl⟩
theorem all_mk {l : PySem.W.OpenLaw} {w : World} {K : PySem.W.Frag} {h : Heap} {mg : Str → Option Value} {fa : Addr} (X : K.In h) (G : h.Ns mainGlobals mg) (hfa : mg "law" = some (.ref fa))
    {t_MOST_JUGS : Tok}
    {t_MOST_SIZE : Tok}
    {t_MOST_STATES : Tok}
    {t_MOST_AMOUNT : Tok}
    {C_Holds : Addr}
    {C_Some : Addr}
    {C_Sum : Addr}
    {C_Whole : Addr}
    {C_House : Addr}
    {C_Goal : Addr}
    {f_is_number : Addr} {oc_is_number kV_is_number dc_is_number pm_is_number cd_is_number ct_is_number : Value} {od_is_number an_is_number : Option Addr} {sl_is_number : Array (Option Value)}
    {f_is_jug : Addr} {oc_is_jug kV_is_jug dc_is_jug pm_is_jug cd_is_jug ct_is_jug : Value} {od_is_jug an_is_jug : Option Addr} {sl_is_jug : Array (Option Value)}
    {f_sizes : Addr} {oc_sizes kV_sizes dc_sizes pm_sizes cd_sizes ct_sizes : Value} {od_sizes an_sizes : Option Addr} {sl_sizes : Array (Option Value)}
    {f_held_in : Addr} {oc_held_in kV_held_in dc_held_in pm_held_in cd_held_in ct_held_in : Value} {od_held_in an_held_in : Option Addr} {sl_held_in : Array (Option Value)}
    {f_check_jug : Addr} {oc_check_jug kV_check_jug dc_check_jug pm_check_jug cd_check_jug ct_check_jug : Value} {od_check_jug an_check_jug : Option Addr} {sl_check_jug : Array (Option Value)}
    {f_check_amount : Addr} {oc_check_amount kV_check_amount dc_check_amount pm_check_amount cd_check_amount ct_check_amount : Value} {od_check_amount an_check_amount : Option Addr} {sl_check_amount : Array (Option Value)}
    {f_jugs_in : Addr} {oc_jugs_in kV_jugs_in dc_jugs_in pm_jugs_in cd_jugs_in ct_jugs_in : Value} {od_jugs_in an_jugs_in : Option Addr} {sl_jugs_in : Array (Option Value)}
    {f_amounts_in : Addr} {oc_amounts_in kV_amounts_in dc_amounts_in pm_amounts_in cd_amounts_in ct_amounts_in : Value} {od_amounts_in an_amounts_in : Option Addr} {sl_amounts_in : Array (Option Value)}
    {f_check_house_has : Addr} {oc_check_house_has kV_check_house_has dc_check_house_has pm_check_house_has cd_check_house_has ct_check_house_has : Value} {od_check_house_has an_check_house_has : Option Addr} {sl_check_house_has : Array (Option Value)}
    {f_check_state_of : Addr} {oc_check_state_of kV_check_state_of dc_check_state_of pm_check_state_of cd_check_state_of ct_check_state_of : Value} {od_check_state_of an_check_state_of : Option Addr} {sl_check_state_of : Array (Option Value)}
    {f_Oi : Addr} {oc_Oi kV_Oi dc_Oi pm_Oi cd_Oi ct_Oi : Value} {od_Oi an_Oi : Option Addr} {sl_Oi : Array (Option Value)}
    {f_Si : Addr} {oc_Si kV_Si dc_Si pm_Si cd_Si ct_Si : Value} {od_Si an_Si : Option Addr} {sl_Si : Array (Option Value)}
    {f_Ui : Addr} {oc_Ui kV_Ui dc_Ui pm_Ui cd_Ui ct_Ui : Value} {od_Ui an_Ui : Option Addr} {sl_Ui : Array (Option Value)}
    {f_Wi : Addr} {oc_Wi kV_Wi dc_Wi pm_Wi cd_Wi ct_Wi : Value} {od_Wi an_Wi : Option Addr} {sl_Wi : Array (Option Value)}
    {f_Om : Addr} {oc_Om kV_Om dc_Om pm_Om cd_Om ct_Om : Value} {od_Om an_Om : Option Addr} {sl_Om : Array (Option Value)}
    {f_Sm : Addr} {oc_Sm kV_Sm dc_Sm pm_Sm cd_Sm ct_Sm : Value} {od_Sm an_Sm : Option Addr} {sl_Sm : Array (Option Value)}
    {f_Um : Addr} {oc_Um kV_Um dc_Um pm_Um cd_Um ct_Um : Value} {od_Um an_Um : Option Addr} {sl_Um : Array (Option Value)}
    {f_Wm : Addr} {oc_Wm kV_Wm dc_Wm pm_Wm cd_Wm ct_Wm : Value} {od_Wm an_Wm : Option Addr} {sl_Wm : Array (Option Value)}
    {f_come : Addr} {oc_come kV_come dc_come pm_come cd_come ct_come : Value} {od_come an_come : Option Addr} {sl_come : Array (Option Value)}
    {f_count_states : Addr} {oc_count_states kV_count_states dc_count_states pm_count_states cd_count_states ct_count_states : Value} {od_count_states an_count_states : Option Addr} {sl_count_states : Array (Option Value)}
    {f_sizes_in : Addr} {oc_sizes_in kV_sizes_in dc_sizes_in pm_sizes_in cd_sizes_in ct_sizes_in : Value} {od_sizes_in an_sizes_in : Option Addr} {sl_sizes_in : Array (Option Value)}
    {f_Hi : Addr} {oc_Hi kV_Hi dc_Hi pm_Hi cd_Hi ct_Hi : Value} {od_Hi an_Hi : Option Addr} {sl_Hi : Array (Option Value)}
    {f_cell_at : Addr} {oc_cell_at kV_cell_at dc_cell_at pm_cell_at cd_cell_at ct_cell_at : Value} {od_cell_at an_cell_at : Option Addr} {sl_cell_at : Array (Option Value)}
    {f_draw : Addr} {oc_draw kV_draw dc_draw pm_draw cd_draw ct_draw : Value} {od_draw an_draw : Option Addr} {sl_draw : Array (Option Value)}
    {f_lsizes : Addr} {oc_lsizes kV_lsizes dc_lsizes pm_lsizes cd_lsizes ct_lsizes : Value} {od_lsizes an_lsizes : Option Addr} {sl_lsizes : Array (Option Value)}
    {f_lstate : Addr} {oc_lstate kV_lstate dc_lstate pm_lstate cd_lstate ct_lstate : Value} {od_lstate an_lstate : Option Addr} {sl_lstate : Array (Option Value)}
    {f_lsorts : Addr} {oc_lsorts kV_lsorts dc_lsorts pm_lsorts cd_lsorts ct_lsorts : Value} {od_lsorts an_lsorts : Option Addr} {sl_lsorts : Array (Option Value)}
    {f_lright : Addr} {oc_lright kV_lright dc_lright pm_lright cd_lright ct_lright : Value} {od_lright an_lright : Option Addr} {sl_lright : Array (Option Value)}
    {f_law : Addr} {oc_law kV_law dc_law pm_law cd_law ct_law : Value} {od_law an_law : Option Addr} {sl_law : Array (Option Value)}
    (z_isinstance : PySem.W.nsIn K mainGlobals "isinstance" = some none)
    (z_int : PySem.W.nsIn K mainGlobals "int" = some none)
    (z_bool : PySem.W.nsIn K mainGlobals "bool" = some none)
    (z_tuple : PySem.W.nsIn K mainGlobals "tuple" = some none)
    (z_list : PySem.W.nsIn K mainGlobals "list" = some none)
    (z_len : PySem.W.nsIn K mainGlobals "len" = some none)
    (z_zip : PySem.W.nsIn K mainGlobals "zip" = some none)
    (z_range : PySem.W.nsIn K mainGlobals "range" = some none)
    (z_min : PySem.W.nsIn K mainGlobals "min" = some none)
    (z_str : PySem.W.nsIn K mainGlobals "str" = some none)
    (z_set : PySem.W.nsIn K mainGlobals "set" = some none)
    (z_sum : PySem.W.nsIn K mainGlobals "sum" = some none)
    (z_max : PySem.W.nsIn K mainGlobals "max" = some none)
    (z_MOST_JUGS : PySem.W.nsIn K mainGlobals "MOST_JUGS" = some (some (.int 4 t_MOST_JUGS)))
    (z_MOST_SIZE : PySem.W.nsIn K mainGlobals "MOST_SIZE" = some (some (.int 60 t_MOST_SIZE)))
    (z_MOST_STATES : PySem.W.nsIn K mainGlobals "MOST_STATES" = some (some (.int 2000 t_MOST_STATES)))
    (z_MOST_AMOUNT : PySem.W.nsIn K mainGlobals "MOST_AMOUNT" = some (some (.int 240 t_MOST_AMOUNT)))
    (a_Holds : PySem.W.nsIn K mainGlobals "Holds" = some (some (.ref C_Holds)))
    (pg_Holds : PySem.W.plainGet K C_Holds Str.empty = true)
    (hd_Holds : PySem.W.hasDictIn K C_Holds = true)
    (po_Holds : PySem.W.plainOver K C_Holds = true)
    (sa_Holds : PySem.W.findIn K (.ref C_Holds) "__setattr__" = some (some (.builtin "object.__setattr__")))
    (mk_Holds : PySem.W.makesIn K C_Holds = true)
    (kc_Holds : PySem.W.keepIn K (.ref C_Holds) = true)
    (n_Holds_jug : PySem.W.findIn K (.ref C_Holds) "jug" = some none)
    (n_Holds_many : PySem.W.findIn K (.ref C_Holds) "many" = some none)
    (ha_Holds : PySem.W.findIn K (.ref C_Holds) "__class__" = some (some (.builtin "object.__class__")))
    (hm_Holds : PySem.W.mroIn K C_Holds (.type "object") = some true)
    (a_Some : PySem.W.nsIn K mainGlobals "Some" = some (some (.ref C_Some)))
    (pg_Some : PySem.W.plainGet K C_Some Str.empty = true)
    (hd_Some : PySem.W.hasDictIn K C_Some = true)
    (po_Some : PySem.W.plainOver K C_Some = true)
    (sa_Some : PySem.W.findIn K (.ref C_Some) "__setattr__" = some (some (.builtin "object.__setattr__")))
    (mk_Some : PySem.W.makesIn K C_Some = true)
    (kc_Some : PySem.W.keepIn K (.ref C_Some) = true)
    (n_Some_many : PySem.W.findIn K (.ref C_Some) "many" = some none)
    (ha_Some : PySem.W.findIn K (.ref C_Some) "__class__" = some (some (.builtin "object.__class__")))
    (hm_Some : PySem.W.mroIn K C_Some (.type "object") = some true)
    (a_Sum : PySem.W.nsIn K mainGlobals "Sum" = some (some (.ref C_Sum)))
    (pg_Sum : PySem.W.plainGet K C_Sum Str.empty = true)
    (hd_Sum : PySem.W.hasDictIn K C_Sum = true)
    (po_Sum : PySem.W.plainOver K C_Sum = true)
    (sa_Sum : PySem.W.findIn K (.ref C_Sum) "__setattr__" = some (some (.builtin "object.__setattr__")))
    (mk_Sum : PySem.W.makesIn K C_Sum = true)
    (kc_Sum : PySem.W.keepIn K (.ref C_Sum) = true)
    (n_Sum_jugs : PySem.W.findIn K (.ref C_Sum) "jugs" = some none)
    (n_Sum_many : PySem.W.findIn K (.ref C_Sum) "many" = some none)
    (ha_Sum : PySem.W.findIn K (.ref C_Sum) "__class__" = some (some (.builtin "object.__class__")))
    (hm_Sum : PySem.W.mroIn K C_Sum (.type "object") = some true)
    (a_Whole : PySem.W.nsIn K mainGlobals "Whole" = some (some (.ref C_Whole)))
    (pg_Whole : PySem.W.plainGet K C_Whole Str.empty = true)
    (hd_Whole : PySem.W.hasDictIn K C_Whole = true)
    (po_Whole : PySem.W.plainOver K C_Whole = true)
    (sa_Whole : PySem.W.findIn K (.ref C_Whole) "__setattr__" = some (some (.builtin "object.__setattr__")))
    (mk_Whole : PySem.W.makesIn K C_Whole = true)
    (kc_Whole : PySem.W.keepIn K (.ref C_Whole) = true)
    (n_Whole_state : PySem.W.findIn K (.ref C_Whole) "state" = some none)
    (ha_Whole : PySem.W.findIn K (.ref C_Whole) "__class__" = some (some (.builtin "object.__class__")))
    (hm_Whole : PySem.W.mroIn K C_Whole (.type "object") = some true)
    (a_House : PySem.W.nsIn K mainGlobals "House" = some (some (.ref C_House)))
    (pg_House : PySem.W.plainGet K C_House Str.empty = true)
    (hd_House : PySem.W.hasDictIn K C_House = true)
    (po_House : PySem.W.plainOver K C_House = true)
    (sa_House : PySem.W.findIn K (.ref C_House) "__setattr__" = some (some (.builtin "object.__setattr__")))
    (mk_House : PySem.W.makesIn K C_House = true)
    (kc_House : PySem.W.keepIn K (.ref C_House) = true)
    (n_House_jug_sizes : PySem.W.findIn K (.ref C_House) "jug_sizes" = some none)
    (n_House_tap : PySem.W.findIn K (.ref C_House) "tap" = some none)
    (a_Goal : PySem.W.nsIn K mainGlobals "Goal" = some (some (.ref C_Goal)))
    (pg_Goal : PySem.W.plainGet K C_Goal Str.empty = true)
    (hd_Goal : PySem.W.hasDictIn K C_Goal = true)
    (po_Goal : PySem.W.plainOver K C_Goal = true)
    (sa_Goal : PySem.W.findIn K (.ref C_Goal) "__setattr__" = some (some (.builtin "object.__setattr__")))
    (hn : PySem.W.specialIn K (.builtin "object.__class__") "__get__" = some (some (.builtin "getset_descriptor.__get__")))
    (htk : PySem.W.takesIn K (.builtin "object.__class__") = some true)
    (k_Holds_Some : PySem.W.kitOne K (.ref C_Holds) (.ref C_Some) = some false)
    (k_Holds_Sum : PySem.W.kitOne K (.ref C_Holds) (.ref C_Sum) = some false)
    (k_Holds_Whole : PySem.W.kitOne K (.ref C_Holds) (.ref C_Whole) = some false)
    (k_Some_Holds : PySem.W.kitOne K (.ref C_Some) (.ref C_Holds) = some false)
    (k_Some_Sum : PySem.W.kitOne K (.ref C_Some) (.ref C_Sum) = some false)
    (k_Some_Whole : PySem.W.kitOne K (.ref C_Some) (.ref C_Whole) = some false)
    (k_Sum_Holds : PySem.W.kitOne K (.ref C_Sum) (.ref C_Holds) = some false)
    (k_Sum_Some : PySem.W.kitOne K (.ref C_Sum) (.ref C_Some) = some false)
    (k_Sum_Whole : PySem.W.kitOne K (.ref C_Sum) (.ref C_Whole) = some false)
    (k_Whole_Holds : PySem.W.kitOne K (.ref C_Whole) (.ref C_Holds) = some false)
    (k_Whole_Some : PySem.W.kitOne K (.ref C_Whole) (.ref C_Some) = some false)
    (k_Whole_Sum : PySem.W.kitOne K (.ref C_Whole) (.ref C_Sum) = some false)
    (k_Holds_Goal : PySem.W.kitOne K (.ref C_Holds) (.ref C_Goal) = some true)
    (k_Some_Goal : PySem.W.kitOne K (.ref C_Some) (.ref C_Goal) = some true)
    (k_Sum_Goal : PySem.W.kitOne K (.ref C_Sum) (.ref C_Goal) = some true)
    (k_Whole_Goal : PySem.W.kitOne K (.ref C_Whole) (.ref C_Goal) = some true)
    (a_is_number : PySem.W.nsIn K mainGlobals "is_number" = some (some (.ref f_is_number)))
    (l_is_number : K.lookup f_is_number = some ⟨oc_is_number, od_is_number, .func (PySem.W.fnOf "is_number" "is_number" (defArgs s_is_number) (defBody s_is_number) (defScope s_is_number) .none kV_is_number dc_is_number pm_is_number an_is_number cd_is_number ct_is_number), sl_is_number⟩)
    (c_is_number : PySem.W.codeIn K cd_is_number "is_number" = true)
    (kp_is_number : PySem.W.keepIn K (.ref f_is_number) = true)
    (a_is_jug : PySem.W.nsIn K mainGlobals "is_jug" = some (some (.ref f_is_jug)))
    (l_is_jug : K.lookup f_is_jug = some ⟨oc_is_jug, od_is_jug, .func (PySem.W.fnOf "is_jug" "is_jug" (defArgs s_is_jug) (defBody s_is_jug) (defScope s_is_jug) .none kV_is_jug dc_is_jug pm_is_jug an_is_jug cd_is_jug ct_is_jug), sl_is_jug⟩)
    (c_is_jug : PySem.W.codeIn K cd_is_jug "is_jug" = true)
    (kp_is_jug : PySem.W.keepIn K (.ref f_is_jug) = true)
    (a_sizes_House : PySem.W.findIn K (.ref C_House) "sizes" = some (some (.ref f_sizes)))
    (i_sizes : PySem.W.isFn K (.ref f_sizes) = true)
    (l_sizes : K.lookup f_sizes = some ⟨oc_sizes, od_sizes, .func (PySem.W.fnOf "sizes" "House.sizes" (defArgs s_House_sizes) (defBody s_House_sizes) (defScope s_House_sizes) .none kV_sizes dc_sizes pm_sizes an_sizes cd_sizes ct_sizes), sl_sizes⟩)
    (c_sizes : PySem.W.codeIn K cd_sizes "House.sizes" = true)
    (kp_sizes : PySem.W.keepIn K (.ref f_sizes) = true)
    (a_held_in : PySem.W.nsIn K mainGlobals "held_in" = some (some (.ref f_held_in)))
    (l_held_in : K.lookup f_held_in = some ⟨oc_held_in, od_held_in, .func (PySem.W.fnOf "held_in" "held_in" (defArgs s_held_in) (defBody s_held_in) (defScope s_held_in) .none kV_held_in dc_held_in pm_held_in an_held_in cd_held_in ct_held_in), sl_held_in⟩)
    (c_held_in : PySem.W.codeIn K cd_held_in "held_in" = true)
    (kp_held_in : PySem.W.keepIn K (.ref f_held_in) = true)
    (a_check_jug : PySem.W.nsIn K mainGlobals "check_jug" = some (some (.ref f_check_jug)))
    (l_check_jug : K.lookup f_check_jug = some ⟨oc_check_jug, od_check_jug, .func (PySem.W.fnOf "check_jug" "check_jug" (defArgs s_check_jug) (defBody s_check_jug) (defScope s_check_jug) .none kV_check_jug dc_check_jug pm_check_jug an_check_jug cd_check_jug ct_check_jug), sl_check_jug⟩)
    (c_check_jug : PySem.W.codeIn K cd_check_jug "check_jug" = true)
    (kp_check_jug : PySem.W.keepIn K (.ref f_check_jug) = true)
    (a_check_amount : PySem.W.nsIn K mainGlobals "check_amount" = some (some (.ref f_check_amount)))
    (l_check_amount : K.lookup f_check_amount = some ⟨oc_check_amount, od_check_amount, .func (PySem.W.fnOf "check_amount" "check_amount" (defArgs s_check_amount) (defBody s_check_amount) (defScope s_check_amount) .none kV_check_amount dc_check_amount pm_check_amount an_check_amount cd_check_amount ct_check_amount), sl_check_amount⟩)
    (c_check_amount : PySem.W.codeIn K cd_check_amount "check_amount" = true)
    (kp_check_amount : PySem.W.keepIn K (.ref f_check_amount) = true)
    (a_jugs_in : PySem.W.nsIn K mainGlobals "jugs_in" = some (some (.ref f_jugs_in)))
    (l_jugs_in : K.lookup f_jugs_in = some ⟨oc_jugs_in, od_jugs_in, .func (PySem.W.fnOf "jugs_in" "jugs_in" (defArgs s_jugs_in) (defBody s_jugs_in) (defScope s_jugs_in) .none kV_jugs_in dc_jugs_in pm_jugs_in an_jugs_in cd_jugs_in ct_jugs_in), sl_jugs_in⟩)
    (c_jugs_in : PySem.W.codeIn K cd_jugs_in "jugs_in" = true)
    (kp_jugs_in : PySem.W.keepIn K (.ref f_jugs_in) = true)
    (a_amounts_in : PySem.W.nsIn K mainGlobals "amounts_in" = some (some (.ref f_amounts_in)))
    (l_amounts_in : K.lookup f_amounts_in = some ⟨oc_amounts_in, od_amounts_in, .func (PySem.W.fnOf "amounts_in" "amounts_in" (defArgs s_amounts_in) (defBody s_amounts_in) (defScope s_amounts_in) .none kV_amounts_in dc_amounts_in pm_amounts_in an_amounts_in cd_amounts_in ct_amounts_in), sl_amounts_in⟩)
    (c_amounts_in : PySem.W.codeIn K cd_amounts_in "amounts_in" = true)
    (kp_amounts_in : PySem.W.keepIn K (.ref f_amounts_in) = true)
    (a_check_house_has : PySem.W.nsIn K mainGlobals "check_house_has" = some (some (.ref f_check_house_has)))
    (l_check_house_has : K.lookup f_check_house_has = some ⟨oc_check_house_has, od_check_house_has, .func (PySem.W.fnOf "check_house_has" "check_house_has" (defArgs s_check_house_has) (defBody s_check_house_has) (defScope s_check_house_has) .none kV_check_house_has dc_check_house_has pm_check_house_has an_check_house_has cd_check_house_has ct_check_house_has), sl_check_house_has⟩)
    (c_check_house_has : PySem.W.codeIn K cd_check_house_has "check_house_has" = true)
    (kp_check_house_has : PySem.W.keepIn K (.ref f_check_house_has) = true)
    (a_check_state_of : PySem.W.nsIn K mainGlobals "check_state_of" = some (some (.ref f_check_state_of)))
    (l_check_state_of : K.lookup f_check_state_of = some ⟨oc_check_state_of, od_check_state_of, .func (PySem.W.fnOf "check_state_of" "check_state_of" (defArgs s_check_state_of) (defBody s_check_state_of) (defScope s_check_state_of) .none kV_check_state_of dc_check_state_of pm_check_state_of an_check_state_of cd_check_state_of ct_check_state_of), sl_check_state_of⟩)
    (c_check_state_of : PySem.W.codeIn K cd_check_state_of "check_state_of" = true)
    (kp_check_state_of : PySem.W.keepIn K (.ref f_check_state_of) = true)
    (a_Oi_Holds : PySem.W.findIn K (.ref C_Holds) "__init__" = some (some (.ref f_Oi)))
    (i_Oi : PySem.W.isFn K (.ref f_Oi) = true)
    (l_Oi : K.lookup f_Oi = some ⟨oc_Oi, od_Oi, .func (PySem.W.fnOf "__init__" "Holds.__init__" (defArgs s_Holds_init) (defBody s_Holds_init) (defScope s_Holds_init) .none kV_Oi dc_Oi pm_Oi an_Oi cd_Oi ct_Oi), sl_Oi⟩)
    (c_Oi : PySem.W.codeIn K cd_Oi "Holds.__init__" = true)
    (kp_Oi : PySem.W.keepIn K (.ref f_Oi) = true)
    (a_Si_Some : PySem.W.findIn K (.ref C_Some) "__init__" = some (some (.ref f_Si)))
    (i_Si : PySem.W.isFn K (.ref f_Si) = true)
    (l_Si : K.lookup f_Si = some ⟨oc_Si, od_Si, .func (PySem.W.fnOf "__init__" "Some.__init__" (defArgs s_Some_init) (defBody s_Some_init) (defScope s_Some_init) .none kV_Si dc_Si pm_Si an_Si cd_Si ct_Si), sl_Si⟩)
    (c_Si : PySem.W.codeIn K cd_Si "Some.__init__" = true)
    (kp_Si : PySem.W.keepIn K (.ref f_Si) = true)
    (a_Ui_Sum : PySem.W.findIn K (.ref C_Sum) "__init__" = some (some (.ref f_Ui)))
    (i_Ui : PySem.W.isFn K (.ref f_Ui) = true)
    (l_Ui : K.lookup f_Ui = some ⟨oc_Ui, od_Ui, .func (PySem.W.fnOf "__init__" "Sum.__init__" (defArgs s_Sum_init) (defBody s_Sum_init) (defScope s_Sum_init) .none kV_Ui dc_Ui pm_Ui an_Ui cd_Ui ct_Ui), sl_Ui⟩)
    (c_Ui : PySem.W.codeIn K cd_Ui "Sum.__init__" = true)
    (kp_Ui : PySem.W.keepIn K (.ref f_Ui) = true)
    (a_Wi_Whole : PySem.W.findIn K (.ref C_Whole) "__init__" = some (some (.ref f_Wi)))
    (i_Wi : PySem.W.isFn K (.ref f_Wi) = true)
    (l_Wi : K.lookup f_Wi = some ⟨oc_Wi, od_Wi, .func (PySem.W.fnOf "__init__" "Whole.__init__" (defArgs s_Whole_init) (defBody s_Whole_init) (defScope s_Whole_init) .none kV_Wi dc_Wi pm_Wi an_Wi cd_Wi ct_Wi), sl_Wi⟩)
    (c_Wi : PySem.W.codeIn K cd_Wi "Whole.__init__" = true)
    (kp_Wi : PySem.W.keepIn K (.ref f_Wi) = true)
    (a_Om_Holds : PySem.W.findIn K (.ref C_Holds) "met_by" = some (some (.ref f_Om)))
    (i_Om : PySem.W.isFn K (.ref f_Om) = true)
    (l_Om : K.lookup f_Om = some ⟨oc_Om, od_Om, .func (PySem.W.fnOf "met_by" "Holds.met_by" (defArgs s_Holds_met_by) (defBody s_Holds_met_by) (defScope s_Holds_met_by) .none kV_Om dc_Om pm_Om an_Om cd_Om ct_Om), sl_Om⟩)
    (c_Om : PySem.W.codeIn K cd_Om "Holds.met_by" = true)
    (kp_Om : PySem.W.keepIn K (.ref f_Om) = true)
    (a_Sm_Some : PySem.W.findIn K (.ref C_Some) "met_by" = some (some (.ref f_Sm)))
    (i_Sm : PySem.W.isFn K (.ref f_Sm) = true)
    (l_Sm : K.lookup f_Sm = some ⟨oc_Sm, od_Sm, .func (PySem.W.fnOf "met_by" "Some.met_by" (defArgs s_Some_met_by) (defBody s_Some_met_by) (defScope s_Some_met_by) .none kV_Sm dc_Sm pm_Sm an_Sm cd_Sm ct_Sm), sl_Sm⟩)
    (c_Sm : PySem.W.codeIn K cd_Sm "Some.met_by" = true)
    (kp_Sm : PySem.W.keepIn K (.ref f_Sm) = true)
    (a_Um_Sum : PySem.W.findIn K (.ref C_Sum) "met_by" = some (some (.ref f_Um)))
    (i_Um : PySem.W.isFn K (.ref f_Um) = true)
    (l_Um : K.lookup f_Um = some ⟨oc_Um, od_Um, .func (PySem.W.fnOf "met_by" "Sum.met_by" (defArgs s_Sum_met_by) (defBody s_Sum_met_by) (defScope s_Sum_met_by) .none kV_Um dc_Um pm_Um an_Um cd_Um ct_Um), sl_Um⟩)
    (c_Um : PySem.W.codeIn K cd_Um "Sum.met_by" = true)
    (kp_Um : PySem.W.keepIn K (.ref f_Um) = true)
    (a_Wm_Whole : PySem.W.findIn K (.ref C_Whole) "met_by" = some (some (.ref f_Wm)))
    (i_Wm : PySem.W.isFn K (.ref f_Wm) = true)
    (l_Wm : K.lookup f_Wm = some ⟨oc_Wm, od_Wm, .func (PySem.W.fnOf "met_by" "Whole.met_by" (defArgs s_Whole_met_by) (defBody s_Whole_met_by) (defScope s_Whole_met_by) .none kV_Wm dc_Wm pm_Wm an_Wm cd_Wm ct_Wm), sl_Wm⟩)
    (c_Wm : PySem.W.codeIn K cd_Wm "Whole.met_by" = true)
    (kp_Wm : PySem.W.keepIn K (.ref f_Wm) = true)
    (a_come_Holds : PySem.W.findIn K (.ref C_Holds) "come" = some (some (.ref f_come)))
    (a_come_Some : PySem.W.findIn K (.ref C_Some) "come" = some (some (.ref f_come)))
    (a_come_Sum : PySem.W.findIn K (.ref C_Sum) "come" = some (some (.ref f_come)))
    (a_come_Whole : PySem.W.findIn K (.ref C_Whole) "come" = some (some (.ref f_come)))
    (i_come : PySem.W.isFn K (.ref f_come) = true)
    (l_come : K.lookup f_come = some ⟨oc_come, od_come, .func (PySem.W.fnOf "come" "Goal.come" (defArgs s_Goal_come) (defBody s_Goal_come) (defScope s_Goal_come) .none kV_come dc_come pm_come an_come cd_come ct_come), sl_come⟩)
    (c_come : PySem.W.codeIn K cd_come "Goal.come" = true)
    (kp_come : PySem.W.keepIn K (.ref f_come) = true)
    (a_count_states : PySem.W.nsIn K mainGlobals "count_states" = some (some (.ref f_count_states)))
    (l_count_states : K.lookup f_count_states = some ⟨oc_count_states, od_count_states, .func (PySem.W.fnOf "count_states" "count_states" (defArgs s_count_states) (defBody s_count_states) (defScope s_count_states) .none kV_count_states dc_count_states pm_count_states an_count_states cd_count_states ct_count_states), sl_count_states⟩)
    (c_count_states : PySem.W.codeIn K cd_count_states "count_states" = true)
    (kp_count_states : PySem.W.keepIn K (.ref f_count_states) = true)
    (a_sizes_in : PySem.W.nsIn K mainGlobals "sizes_in" = some (some (.ref f_sizes_in)))
    (l_sizes_in : K.lookup f_sizes_in = some ⟨oc_sizes_in, od_sizes_in, .func (PySem.W.fnOf "sizes_in" "sizes_in" (defArgs s_sizes_in) (defBody s_sizes_in) (defScope s_sizes_in) .none kV_sizes_in dc_sizes_in pm_sizes_in an_sizes_in cd_sizes_in ct_sizes_in), sl_sizes_in⟩)
    (c_sizes_in : PySem.W.codeIn K cd_sizes_in "sizes_in" = true)
    (kp_sizes_in : PySem.W.keepIn K (.ref f_sizes_in) = true)
    (a_Hi_House : PySem.W.findIn K (.ref C_House) "__init__" = some (some (.ref f_Hi)))
    (i_Hi : PySem.W.isFn K (.ref f_Hi) = true)
    (l_Hi : K.lookup f_Hi = some ⟨oc_Hi, od_Hi, .func (PySem.W.fnOf "__init__" "House.__init__" (defArgs s_House_init) (defBody s_House_init) (defScope s_House_init) .none kV_Hi dc_Hi pm_Hi an_Hi cd_Hi ct_Hi), sl_Hi⟩)
    (c_Hi : PySem.W.codeIn K cd_Hi "House.__init__" = true)
    (kp_Hi : PySem.W.keepIn K (.ref f_Hi) = true)
    (a_cell_at : PySem.W.nsIn K mainGlobals "_law_cell_at" = some (some (.ref f_cell_at)))
    (l_cell_at : K.lookup f_cell_at = some ⟨oc_cell_at, od_cell_at, .func (PySem.W.fnOf "_law_cell_at" "_law_cell_at" (defArgs s__law_cell_at) (defBody s__law_cell_at) (defScope s__law_cell_at) .none kV_cell_at dc_cell_at pm_cell_at an_cell_at cd_cell_at ct_cell_at), sl_cell_at⟩)
    (c_cell_at : PySem.W.codeIn K cd_cell_at "_law_cell_at" = true)
    (kp_cell_at : PySem.W.keepIn K (.ref f_cell_at) = true)
    (a_draw : PySem.W.nsIn K mainGlobals "_law_draw" = some (some (.ref f_draw)))
    (l_draw : K.lookup f_draw = some ⟨oc_draw, od_draw, .func (PySem.W.fnOf "_law_draw" "_law_draw" (defArgs s__law_draw) (defBody s__law_draw) (defScope s__law_draw) .none kV_draw dc_draw pm_draw an_draw cd_draw ct_draw), sl_draw⟩)
    (c_draw : PySem.W.codeIn K cd_draw "_law_draw" = true)
    (kp_draw : PySem.W.keepIn K (.ref f_draw) = true)
    (a_lsizes : PySem.W.nsIn K mainGlobals "_law_sizes" = some (some (.ref f_lsizes)))
    (l_lsizes : K.lookup f_lsizes = some ⟨oc_lsizes, od_lsizes, .func (PySem.W.fnOf "_law_sizes" "_law_sizes" (defArgs s__law_sizes) (defBody s__law_sizes) (defScope s__law_sizes) .none kV_lsizes dc_lsizes pm_lsizes an_lsizes cd_lsizes ct_lsizes), sl_lsizes⟩)
    (c_lsizes : PySem.W.codeIn K cd_lsizes "_law_sizes" = true)
    (kp_lsizes : PySem.W.keepIn K (.ref f_lsizes) = true)
    (a_lstate : PySem.W.nsIn K mainGlobals "_law_state" = some (some (.ref f_lstate)))
    (l_lstate : K.lookup f_lstate = some ⟨oc_lstate, od_lstate, .func (PySem.W.fnOf "_law_state" "_law_state" (defArgs s__law_state) (defBody s__law_state) (defScope s__law_state) .none kV_lstate dc_lstate pm_lstate an_lstate cd_lstate ct_lstate), sl_lstate⟩)
    (c_lstate : PySem.W.codeIn K cd_lstate "_law_state" = true)
    (kp_lstate : PySem.W.keepIn K (.ref f_lstate) = true)
    (a_lsorts : PySem.W.nsIn K mainGlobals "_law_sorts" = some (some (.ref f_lsorts)))
    (l_lsorts : K.lookup f_lsorts = some ⟨oc_lsorts, od_lsorts, .func (PySem.W.fnOf "_law_sorts" "_law_sorts" (defArgs s__law_sorts) (defBody s__law_sorts) (defScope s__law_sorts) .none kV_lsorts dc_lsorts pm_lsorts an_lsorts cd_lsorts ct_lsorts), sl_lsorts⟩)
    (c_lsorts : PySem.W.codeIn K cd_lsorts "_law_sorts" = true)
    (kp_lsorts : PySem.W.keepIn K (.ref f_lsorts) = true)
    (a_lright : PySem.W.nsIn K mainGlobals "_law_right" = some (some (.ref f_lright)))
    (l_lright : K.lookup f_lright = some ⟨oc_lright, od_lright, .func (PySem.W.fnOf "_law_right" "_law_right" (defArgs s__law_right) (defBody s__law_right) (defScope s__law_right) .none kV_lright dc_lright pm_lright an_lright cd_lright ct_lright), sl_lright⟩)
    (c_lright : PySem.W.codeIn K cd_lright "_law_right" = true)
    (kp_lright : PySem.W.keepIn K (.ref f_lright) = true)
    (a_law : PySem.W.nsIn K mainGlobals "law" = some (some (.ref f_law)))
    (l_law : K.lookup f_law = some ⟨oc_law, od_law, .func (PySem.W.fnOf "law" "law" (defArgs s_law) (defBody s_law) (defScope s_law) .none kV_law dc_law pm_law an_law cd_law ct_law), sl_law⟩)
    (c_law : PySem.W.codeIn K cd_law "law" = true)
    (kp_law : PySem.W.keepIn K (.ref f_law) = true)
    : ∃ fd : FuncData, (∀ (s : Shared) (v : Value), BindsTo s fd ⟨[v], []⟩ [("_law_script", v)]) ∧ ∀ base : Heap, K.In base → base.Ns mainGlobals mg → FnOk l.prog w K mg base CX0 7 fa fd ["_law_script"] (spLaw K) := by
  have e := hfa.symm.trans (PySem.W.mg_of X G a_law)
  cases e
  have F_is_number := fun_mk (st := s_is_number) l_is_number c_is_number kp_is_number
  have b_is_number := F_is_number.binds (ps := ["value", "least", "most"]) fun _ _ _ _ _ _ us hl => by obtain ⟨_, _, _, rfl⟩ := len3 hl; rfl
  have F_is_jug := fun_mk (st := s_is_jug) l_is_jug c_is_jug kp_is_jug
  have b_is_jug := F_is_jug.binds (ps := ["value"]) fun _ _ _ _ _ _ us hl => by obtain ⟨_, rfl⟩ := len1 hl; rfl
  have F_sizes := fun_mk (st := s_House_sizes) l_sizes c_sizes kp_sizes
  have b_sizes := F_sizes.binds (ps := ["self"]) fun _ _ _ _ _ _ us hl => by obtain ⟨_, rfl⟩ := len1 hl; rfl
  have F_held_in := fun_mk (st := s_held_in) l_held_in c_held_in kp_held_in
  have b_held_in := F_held_in.binds (ps := ["house", "state"]) fun _ _ _ _ _ _ us hl => by obtain ⟨_, _, rfl⟩ := len2 hl; rfl
  have F_check_jug := fun_mk (st := s_check_jug) l_check_jug c_check_jug kp_check_jug
  have b_check_jug := F_check_jug.binds (ps := ["jug"]) fun _ _ _ _ _ _ us hl => by obtain ⟨_, rfl⟩ := len1 hl; rfl
  have F_check_amount := fun_mk (st := s_check_amount) l_check_amount c_check_amount kp_check_amount
  have b_check_amount := F_check_amount.binds (ps := ["many"]) fun _ _ _ _ _ _ us hl => by obtain ⟨_, rfl⟩ := len1 hl; rfl
  have F_jugs_in := fun_mk (st := s_jugs_in) l_jugs_in c_jugs_in kp_jugs_in
  have b_jugs_in := F_jugs_in.binds (ps := ["jugs"]) fun _ _ _ _ _ _ us hl => by obtain ⟨_, rfl⟩ := len1 hl; rfl
  have F_amounts_in := fun_mk (st := s_amounts_in) l_amounts_in c_amounts_in kp_amounts_in
  have b_amounts_in := F_amounts_in.binds (ps := ["state"]) fun _ _ _ _ _ _ us hl => by obtain ⟨_, rfl⟩ := len1 hl; rfl
  have F_check_house_has := fun_mk (st := s_check_house_has) l_check_house_has c_check_house_has kp_check_house_has
  have b_check_house_has := F_check_house_has.binds (ps := ["house", "jug"]) fun _ _ _ _ _ _ us hl => by obtain ⟨_, _, rfl⟩ := len2 hl; rfl
  have F_check_state_of := fun_mk (st := s_check_state_of) l_check_state_of c_check_state_of kp_check_state_of
  have b_check_state_of := F_check_state_of.binds (ps := ["house", "state"]) fun _ _ _ _ _ _ us hl => by obtain ⟨_, _, rfl⟩ := len2 hl; rfl
  have F_Oi := fun_mk (st := s_Holds_init) l_Oi c_Oi kp_Oi
  have b_Oi := F_Oi.binds (ps := ["self", "jug", "many"]) fun _ _ _ _ _ _ us hl => by obtain ⟨_, _, _, rfl⟩ := len3 hl; rfl
  have F_Si := fun_mk (st := s_Some_init) l_Si c_Si kp_Si
  have b_Si := F_Si.binds (ps := ["self", "many"]) fun _ _ _ _ _ _ us hl => by obtain ⟨_, _, rfl⟩ := len2 hl; rfl
  have F_Ui := fun_mk (st := s_Sum_init) l_Ui c_Ui kp_Ui
  have b_Ui := F_Ui.binds (ps := ["self", "jugs", "many"]) fun _ _ _ _ _ _ us hl => by obtain ⟨_, _, _, rfl⟩ := len3 hl; rfl
  have F_Wi := fun_mk (st := s_Whole_init) l_Wi c_Wi kp_Wi
  have b_Wi := F_Wi.binds (ps := ["self", "state"]) fun _ _ _ _ _ _ us hl => by obtain ⟨_, _, rfl⟩ := len2 hl; rfl
  have F_Om := fun_mk (st := s_Holds_met_by) l_Om c_Om kp_Om
  have b_Om := F_Om.binds (ps := ["self", "house", "held"]) fun _ _ _ _ _ _ us hl => by obtain ⟨_, _, _, rfl⟩ := len3 hl; rfl
  have F_Sm := fun_mk (st := s_Some_met_by) l_Sm c_Sm kp_Sm
  have b_Sm := F_Sm.binds (ps := ["self", "house", "held"]) fun _ _ _ _ _ _ us hl => by obtain ⟨_, _, _, rfl⟩ := len3 hl; rfl
  have F_Um := fun_mk (st := s_Sum_met_by) l_Um c_Um kp_Um
  have b_Um := F_Um.binds (ps := ["self", "house", "held"]) fun _ _ _ _ _ _ us hl => by obtain ⟨_, _, _, rfl⟩ := len3 hl; rfl
  have F_Wm := fun_mk (st := s_Whole_met_by) l_Wm c_Wm kp_Wm
  have b_Wm := F_Wm.binds (ps := ["self", "house", "held"]) fun _ _ _ _ _ _ us hl => by obtain ⟨_, _, _, rfl⟩ := len3 hl; rfl
  have F_come := fun_mk (st := s_Goal_come) l_come c_come kp_come
  have b_come := F_come.binds (ps := ["self", "house", "state"]) fun _ _ _ _ _ _ us hl => by obtain ⟨_, _, _, rfl⟩ := len3 hl; rfl
  have F_count_states := fun_mk (st := s_count_states) l_count_states c_count_states kp_count_states
  have b_count_states := F_count_states.binds (ps := ["sizes"]) fun _ _ _ _ _ _ us hl => by obtain ⟨_, rfl⟩ := len1 hl; rfl
  have F_sizes_in := fun_mk (st := s_sizes_in) l_sizes_in c_sizes_in kp_sizes_in
  have b_sizes_in := F_sizes_in.binds (ps := ["sizes"]) fun _ _ _ _ _ _ us hl => by obtain ⟨_, rfl⟩ := len1 hl; rfl
  have F_Hi := fun_mk (st := s_House_init) l_Hi c_Hi kp_Hi
  have b_Hi := F_Hi.binds (ps := ["self", "sizes", "tap"]) fun _ _ _ _ _ _ us hl => by obtain ⟨_, _, _, rfl⟩ := len3 hl; rfl
  have F_cell_at := fun_mk (st := s__law_cell_at) l_cell_at c_cell_at kp_cell_at
  have b_cell_at := F_cell_at.binds (ps := ["_law_script", "_law_k"]) fun _ _ _ _ _ _ us hl => by obtain ⟨_, _, rfl⟩ := len2 hl; rfl
  have F_draw := fun_mk (st := s__law_draw) l_draw c_draw kp_draw
  have b_draw := F_draw.binds (ps := ["_law_cell", "_law_k", "_law_many"]) fun _ _ _ _ _ _ us hl => by obtain ⟨_, _, _, rfl⟩ := len3 hl; rfl
  have F_lsizes := fun_mk (st := s__law_sizes) l_lsizes c_lsizes kp_lsizes
  have b_lsizes := F_lsizes.binds (ps := ["_law_cell"]) fun _ _ _ _ _ _ us hl => by obtain ⟨_, rfl⟩ := len1 hl; rfl
  have F_lstate := fun_mk (st := s__law_state) l_lstate c_lstate kp_lstate
  have b_lstate := F_lstate.binds (ps := ["_law_cell", "_law_sizes_here"]) fun _ _ _ _ _ _ us hl => by obtain ⟨_, _, rfl⟩ := len2 hl; rfl
  have F_lsorts := fun_mk (st := s__law_sorts) l_lsorts c_lsorts kp_lsorts
  have b_lsorts := F_lsorts.binds (ps := ["_law_goal"]) fun _ _ _ _ _ _ us hl => by obtain ⟨_, rfl⟩ := len1 hl; rfl
  have F_lright := fun_mk (st := s__law_right) l_lright c_lright kp_lright
  have b_lright := F_lright.binds (ps := ["_law_house", "_law_state_here", "_law_goal", "_law_sort", "_law_due", "_law_many"]) fun _ _ _ _ _ _ us hl => by obtain ⟨_, _, _, _, _, _, rfl⟩ := len6 hl; rfl
  have F_law := fun_mk (st := s_law) l_law c_law kp_law
  have b_law := F_law.binds (ps := ["_law_script"]) fun _ _ _ _ _ _ us hl => by obtain ⟨_, rfl⟩ := len1 hl; rfl
  have g := fun {x : Str} {v : Value} (q : PySem.W.nsIn K mainGlobals x = some (some v)) => PySem.W.mg_of X G q
  have g0 := fun {x : Str} (q : PySem.W.nsIn K mainGlobals x = some none) => PySem.W.mg_none_of X G q
  have B : Bt mg := ⟨g0 z_isinstance, g0 z_int, g0 z_bool, g0 z_tuple, g0 z_list, g0 z_len, g0 z_zip, g0 z_range, g0 z_min, g0 z_str, ⟨_, g z_MOST_JUGS⟩, ⟨_, g z_MOST_SIZE⟩⟩
  have cl_Holds : Cls K C_Holds := ⟨pg_Holds, hd_Holds, po_Holds, sa_Holds⟩
  have cl_Some : Cls K C_Some := ⟨pg_Some, hd_Some, po_Some, sa_Some⟩
  have cl_Sum : Cls K C_Sum := ⟨pg_Sum, hd_Sum, po_Sum, sa_Sum⟩
  have cl_Whole : Cls K C_Whole := ⟨pg_Whole, hd_Whole, po_Whole, sa_Whole⟩
  have cl_House : Cls K C_House := ⟨pg_House, hd_House, po_House, sa_House⟩
  have CHo : CHs K C_House := ⟨cl_House, n_House_jug_sizes, n_House_tap⟩
  let Zz : Gz := ⟨C_Holds, C_Some, C_Sum, C_Whole⟩
  have M : GoC K mg Zz C_Goal := ⟨⟨cl_Holds, n_Holds_jug, n_Holds_many⟩, ⟨cl_Some, n_Some_many⟩, ⟨cl_Sum, n_Sum_jugs, n_Sum_many⟩, ⟨cl_Whole, n_Whole_state⟩, ⟨ha_Holds, hn, htk, hm_Holds⟩, ⟨ha_Some, hn, htk, hm_Some⟩, ⟨ha_Sum, hn, htk, hm_Sum⟩, ⟨ha_Whole, hn, htk, hm_Whole⟩, g a_Goal, g a_Holds, g a_Some, g a_Sum, g a_Whole, k_Holds_Some, k_Holds_Sum, k_Holds_Whole, k_Some_Holds, k_Some_Sum, k_Some_Whole, k_Sum_Holds, k_Sum_Some, k_Sum_Whole, k_Whole_Holds, k_Whole_Some, k_Whole_Sum, k_Holds_Goal, k_Some_Goal, k_Sum_Goal, k_Whole_Goal⟩
  refine ⟨PySem.W.fnOf "law" "law" (defArgs s_law) (defBody s_law) (defScope s_law) .none kV_law dc_law pm_law an_law cd_law ct_law, fun s v => .of_eq rfl, fun base _ _ => ?_⟩
  have o_is_number := ok_is_number (P := l.prog) (w := w) (base := base) F_is_number B
  have q_is_number : FnB l.prog w K mg base 1 "is_number" ["value", "least", "most"] _ := ⟨_, _, o_is_number, g a_is_number, kp_is_number, b_is_number⟩
  have o_is_jug := ok_is_jug F_is_jug B q_is_number
  have q_is_jug : FnB l.prog w K mg base 2 "is_jug" ["value"] _ := ⟨_, _, o_is_jug, g a_is_jug, kp_is_jug, b_is_jug⟩
  have o_sizes := ok_sizes (P := l.prog) (w := w) (base := base) F_sizes B CHo
  have q_sizes : MeB l.prog w K mg base 1 C_House "sizes" ["self"] _ := ⟨_, _, o_sizes, ⟨a_sizes_House, i_sizes, kp_sizes⟩, b_sizes, cl_House⟩
  have o_held_in := ok_held_in F_held_in B q_is_number q_sizes
  have q_held_in : FnB l.prog w K mg base 2 "held_in" ["house", "state"] _ := ⟨_, _, o_held_in, g a_held_in, kp_held_in, b_held_in⟩
  have o_check_jug := ok_check_jug F_check_jug q_is_jug
  have q_check_jug : FnB l.prog w K mg base 3 "check_jug" ["jug"] _ := ⟨_, _, o_check_jug, g a_check_jug, kp_check_jug, b_check_jug⟩
  have o_check_amount := ok_check_amount F_check_amount ⟨_, g z_MOST_AMOUNT⟩ q_is_number
  have q_check_amount : FnB l.prog w K mg base 2 "check_amount" ["many"] _ := ⟨_, _, o_check_amount, g a_check_amount, kp_check_amount, b_check_amount⟩
  have o_jugs_in := ok_jugs_in F_jugs_in B (g0 z_set) q_check_jug
  have q_jugs_in : FnB l.prog w K mg base 4 "jugs_in" ["jugs"] _ := ⟨_, _, o_jugs_in, g a_jugs_in, kp_jugs_in, b_jugs_in⟩
  have o_amounts_in := ok_amounts_in F_amounts_in B q_is_number
  have q_amounts_in : FnB l.prog w K mg base 2 "amounts_in" ["state"] _ := ⟨_, _, o_amounts_in, g a_amounts_in, kp_amounts_in, b_amounts_in⟩
  have o_check_house_has := ok_check_house_has F_check_house_has B q_sizes
  have q_check_house_has : FnB l.prog w K mg base 2 "check_house_has" ["house", "jug"] _ := ⟨_, _, o_check_house_has, g a_check_house_has, kp_check_house_has, b_check_house_has⟩
  have o_check_state_of := ok_check_state_of F_check_state_of q_held_in
  have q_check_state_of : FnB l.prog w K mg base 3 "check_state_of" ["house", "state"] _ := ⟨_, _, o_check_state_of, g a_check_state_of, kp_check_state_of, b_check_state_of⟩
  have o_Oi := ok_Holds_init (Z := Zz) F_Oi M.ho q_check_jug q_check_amount
  have q_Oi : MkB l.prog w K mg base 4 "Holds" C_Holds ["self", "jug", "many"] _ := ⟨_, _, o_Oi, g a_Holds, ⟨mk_Holds, a_Oi_Holds, i_Oi, kc_Holds⟩, b_Oi⟩
  have o_Si := ok_Some_init (Z := Zz) F_Si M.so q_check_amount
  have q_Si : MkB l.prog w K mg base 3 "Some" C_Some ["self", "many"] _ := ⟨_, _, o_Si, g a_Some, ⟨mk_Some, a_Si_Some, i_Si, kc_Some⟩, b_Si⟩
  have o_Ui := ok_Sum_init (Z := Zz) F_Ui B M.su q_jugs_in q_check_amount
  have q_Ui : MkB l.prog w K mg base 5 "Sum" C_Sum ["self", "jugs", "many"] _ := ⟨_, _, o_Ui, g a_Sum, ⟨mk_Sum, a_Ui_Sum, i_Ui, kc_Sum⟩, b_Ui⟩
  have o_Wi := ok_Whole_init (Z := Zz) F_Wi B M.wh q_amounts_in
  have q_Wi : MkB l.prog w K mg base 3 "Whole" C_Whole ["self", "state"] _ := ⟨_, _, o_Wi, g a_Whole, ⟨mk_Whole, a_Wi_Whole, i_Wi, kc_Whole⟩, b_Wi⟩
  have o_Om := (ok_Holds_met (Z := Zz) F_Om M.ho q_check_house_has).mono (k := 4) (by decide)
  have q_Om : MeB l.prog w K mg base 4 C_Holds "met_by" ["self", "house", "held"] _ := ⟨_, _, o_Om, ⟨a_Om_Holds, i_Om, kp_Om⟩, b_Om, cl_Holds⟩
  have o_Sm := (ok_Some_met (P := l.prog) (w := w) (mg := mg) (base := base) (CH := C_House) (Z := Zz) F_Sm M.so).mono (k := 4) (by decide)
  have q_Sm : MeB l.prog w K mg base 4 C_Some "met_by" ["self", "house", "held"] _ := ⟨_, _, o_Sm, ⟨a_Sm_Some, i_Sm, kp_Sm⟩, b_Sm, cl_Some⟩
  have o_Um := (ok_Sum_met (Z := Zz) F_Um M.su (g0 z_sum) q_check_house_has).mono (k := 4) (by decide)
  have q_Um : MeB l.prog w K mg base 4 C_Sum "met_by" ["self", "house", "held"] _ := ⟨_, _, o_Um, ⟨a_Um_Sum, i_Um, kp_Um⟩, b_Um, cl_Sum⟩
  have o_Wm := ok_Whole_met (Z := Zz) F_Wm B M.wh q_check_state_of
  have q_Wm : MeB l.prog w K mg base 4 C_Whole "met_by" ["self", "house", "held"] _ := ⟨_, _, o_Wm, ⟨a_Wm_Whole, i_Wm, kp_Wm⟩, b_Wm, cl_Whole⟩
  have o_come := ok_come (Z := Zz) F_come q_held_in q_Om q_Sm q_Um q_Wm
  have q_come_Holds : MeB l.prog w K mg base 5 C_Holds "come" ["self", "house", "state"] _ := ⟨_, _, o_come, ⟨a_come_Holds, i_come, kp_come⟩, b_come, cl_Holds⟩
  have q_come_Some : MeB l.prog w K mg base 5 C_Some "come" ["self", "house", "state"] _ := ⟨_, _, o_come, ⟨a_come_Some, i_come, kp_come⟩, b_come, cl_Some⟩
  have q_come_Sum : MeB l.prog w K mg base 5 C_Sum "come" ["self", "house", "state"] _ := ⟨_, _, o_come, ⟨a_come_Sum, i_come, kp_come⟩, b_come, cl_Sum⟩
  have q_come_Whole : MeB l.prog w K mg base 5 C_Whole "come" ["self", "house", "state"] _ := ⟨_, _, o_come, ⟨a_come_Whole, i_come, kp_come⟩, b_come, cl_Whole⟩
  have o_count_states := ok_count_states (P := l.prog) (w := w) (mg := mg) (base := base) F_count_states
  have q_count_states : FnB l.prog w K mg base 1 "count_states" ["sizes"] _ := ⟨_, _, o_count_states, g a_count_states, kp_count_states, b_count_states⟩
  have o_sizes_in := ok_sizes_in F_sizes_in B ⟨_, g z_MOST_STATES⟩ q_is_number q_count_states
  have q_sizes_in : FnB l.prog w K mg base 2 "sizes_in" ["sizes"] _ := ⟨_, _, o_sizes_in, g a_sizes_in, kp_sizes_in, b_sizes_in⟩
  have o_Hi := ok_House_init F_Hi B CHo q_sizes_in
  have q_Hi : MkB l.prog w K mg base 3 "House" C_House ["self", "sizes", "tap"] _ := ⟨_, _, o_Hi, g a_House, ⟨mk_House, a_Hi_House, i_Hi, kc_House⟩, b_Hi⟩
  have o_cell_at := ok_cell_at (P := l.prog) (w := w) (base := base) F_cell_at B
  have q_cell_at : FnB l.prog w K mg base 1 "_law_cell_at" ["_law_script", "_law_k"] _ := ⟨_, _, o_cell_at, g a_cell_at, kp_cell_at, b_cell_at⟩
  have o_draw := ok_draw (P := l.prog) (w := w) (mg := mg) (base := base) F_draw
  have q_draw : FnB l.prog w K mg base 1 "_law_draw" ["_law_cell", "_law_k", "_law_many"] _ := ⟨_, _, o_draw, g a_draw, kp_draw, b_draw⟩
  have o_lsizes := ok_law_sizes F_lsizes B q_draw
  have q_lsizes : FnB l.prog w K mg base 2 "_law_sizes" ["_law_cell"] _ := ⟨_, _, o_lsizes, g a_lsizes, kp_lsizes, b_lsizes⟩
  have o_lstate := ok_law_state F_lstate B q_draw
  have q_lstate : FnB l.prog w K mg base 2 "_law_state" ["_law_cell", "_law_sizes_here"] _ := ⟨_, _, o_lstate, g a_lstate, kp_lstate, b_lstate⟩
  have o_lsorts := ok_gsorts (P := l.prog) (w := w) (base := base) (Z := Zz) F_lsorts B M
  have q_lsorts : FnB l.prog w K mg base 1 "_law_sorts" ["_law_goal"] _ := ⟨_, _, o_lsorts, g a_lsorts, kp_lsorts, b_lsorts⟩
  have o_lright := ok_right (Z := Zz) F_lright B CHo M q_lsorts q_sizes q_Hi (anyC q_come_Holds q_come_Some q_come_Sum q_come_Whole)
  have q_lright : FnB l.prog w K mg base 6 "_law_right" ["_law_house", "_law_state_here", "_law_goal", "_law_sort", "_law_due", "_law_many"] _ := ⟨_, _, o_lright, g a_lright, kp_lright, b_lright⟩
  exact ok_law4 (Z := Zz) F_law B CHo M (g0 z_sum) (g0 z_max) q_draw q_cell_at q_lsizes q_lstate q_lright q_Hi q_Oi q_Si q_Ui q_Wi
theorem walk {l : PySem.W.OpenLaw} {q : Program} {loose : List Str} {XP : (Str → Option Value) → Heap → Prop} {YP : World → Heap → Prop} {d : DefRec} {K : Params → PySem.W.Frag} (hn : l.most = some 63) (hdf : d.params.defaults = [])
    (hY : ∀ (w : World) (h : Heap), YP w h → (K w.params).In h)
    (F : ∀ (w : World) (mg : Str → Option Value) (fa : Addr) (h : Heap), (K w.params).In h → h.Ns mainGlobals mg → mg d.name = some (.ref fa) →
      ∃ fd : FuncData, (∀ (s : Shared) (u : Value), BindsTo s fd ⟨[u], []⟩ [("_law_script", u)]) ∧ ∀ base : Heap, (K w.params).In base → base.Ns mainGlobals mg → FnOk l.prog w (K w.params) mg base CX0 7 fa fd ["_law_script"] (spLaw (K w.params))) :
    PySem.W.WalkO q loose XP YP l.row.toRowW d [] (fun f vs => PySem.call f vs) :=
  L2.walk_of (n := 63) (k := 7) (x := "_law_script") (CX := fun _ => CX0) (sp := fun w => spLaw (K w.params)) hn (by decide) hdf ⟨rfl, by decide, by decide⟩ hY F (fun _ _ a ns hl _ hS => ⟨a, ns, rfl, hS, hl, fun _ => rfl⟩) fun _ _ _ _ _ z => z

end Jug
noncomputable section
namespace Hd
open PySem PySem.W PySem.Calls PyProof.Rows
set_option maxHeartbeats 0
abbrev pg : Program := PySem.Challenge.pw_jughouse_k04_goals
def st (i : Nat) : Stmt := pg.main.body.getD i (.Pass ⟨0, 0, 0, 0⟩)
def me (i j : Nat) : Stmt := L2.inClass (st i) j
def de (P : Params) (k : Str) (t : Nat) (v : Value) : DictEntry := ⟨PyData.keyHash P k, .str k t, v⟩
def fu (s : Stmt) (n q : Str) (g : Addr) (cl : List (Str × Addr)) (a b c d : Value) (an : Option Addr) (e f : Value) (bu : Addr) : FuncData := ⟨n, q, L2.defArgs s, .stmts (L2.defBody s), L2.defScope s, g, cl, a, b, c, d, an, e, f, bu⟩
def o11 (P : Params) : Obj := (.mk (.type "code") none (.fields #[(.str "<module>" 182), (.str "<module>" 183), (.str "/claim/cut.py" 184), (.int 1 0), (.int 0 0), (.int 0 0), (.int 0 0), (.int 0 0), (.ref 11), (.bool false), (.int 181 0), (.ref 12), .none, .none, .none, .none, (.int 185 0), (.int 1 0), (.str "/claim/cut.py" 186)]) #[])
def o12 (P : Params) : Obj := (.mk (.type "frame") none .plain #[(some (.ref 13)), (some (.ref 3)), (some (.ref 3)), none, (some (.str "__main__" 164)), none, (some (.ref 0))])
def o13 (P : Params) : Obj := (.mk (.type "dict") none (.dict #[(de P "__name__" 165 (.str "law_jughouse_k04_goals" 605)), (de P "__doc__" 166 .none), (de P "__package__" 167 .none), (de P "__loader__" 168 (.builtin "__main__.__loader__#opaque")), (de P "__spec__" 169 .none), (de P "__annotations__" 170 (.ref 6)), (de P "__builtins__" 171 (.ref 4)), (de P "__file__" 173 (.str "/claim/cut.py" 172)), (de P "__cached__" 174 .none), (de P "_wall" 193 (.ref 21)), (de P "JugError" 213 (.ref 31)), (de P "BadHouse" 229 (.ref 44)), (de P "BadState" 245 (.ref 56)), (de P "BadGoal" 261 (.ref 68)), (de P "MOST_JUGS" 265 (.int 4 264)), (de P "MOST_SIZE" 267 (.int 60 266)), (de P "is_number" 276 (.ref 77)), (de P "is_jug" 283 (.ref 84)), (de P "held_in" 295 (.ref 91)), (de P "MOST_AMOUNT" 299 (.int 240 298)), (de P "check_jug" 306 (.ref 98)), (de P "check_amount" 313 (.ref 105)), (de P "jugs_in" 322 (.ref 112)), (de P "amounts_in" 331 (.ref 119)), (de P "check_house_has" 339 (.ref 126)), (de P "check_state_of" 347 (.ref 133)), (de P "Goal" 386 (.ref 157)), (de P "Holds" 422 (.ref 185)), (de P "Some" 456 (.ref 211)), (de P "Sum" 489 (.ref 235)), (de P "Whole" 523 (.ref 261)), (de P "MOST_STATES" 527 (.int 2000 526)), (de P "sizes_in" 536 (.ref 270)), (de P "count_states" 545 (.ref 277)), (de P "House" 604 (.ref 322)), (de P "_law_cell_at" 614 (.ref 333)), (de P "_law_draw" 624 (.ref 340)), (de P "_law_sizes" 630 (.ref 345)), (de P "_law_state" 641 (.ref 352)), (de P "_law_sorts" 648 (.ref 359)), (de P "_law_right" 654 (.ref 364)), (de P "law" 660 (.ref 369))] 42) #[])
def o14 (P : Params) : Obj := (.mk .none none (.fields #[(.int 1 0), (.int 0 0), (.ref 20), (.int 5 0), (.int 0 0), (.ref 27), (.int 7 0), (.int 0 0), (.ref 40), (.int 9 0), (.int 0 0), (.ref 52), (.int 11 0), (.int 0 0), (.ref 64), (.int 16 0), (.int 0 0), (.ref 76), (.int 18 0), (.int 0 0), (.ref 83), (.int 20 0), (.int 0 0), (.ref 90), (.int 33 0), (.int 0 0), (.ref 97), (.int 36 0), (.int 0 0), (.ref 104), (.int 39 0), (.int 0 0), (.ref 111), (.int 50 0), (.int 0 0), (.ref 118), (.int 60 0), (.int 0 0), (.ref 125), (.int 63 0), (.int 0 0), (.ref 132), (.int 68 0), (.int 0 0), (.ref 139), (.int 76 0), (.int 0 0), (.ref 167), (.int 87 0), (.int 0 0), (.ref 193), (.int 95 0), (.int 0 0), (.ref 219), (.int 106 0), (.int 0 0), (.ref 243), (.int 116 0), (.int 0 0), (.ref 269), (.int 128 0), (.int 0 0), (.ref 276), (.int 133 0), (.int 0 0), (.ref 283), (.int 153 0), (.int 0 0), (.ref 332), (.int 157 0), (.int 0 0), (.ref 339), (.int 160 0), (.int 0 0), (.ref 344), (.int 164 0), (.int 0 0), (.ref 351), (.int 170 0), (.int 0 0), (.ref 358), (.int 172 0), (.int 0 0), (.ref 363), (.int 182 0), (.int 0 0), (.ref 368)]) #[])
def o15 (P : Params) : Obj := (.mk (.type "tuple") none (.seq #[(.str "k" 190)] 0) #[])
def o16 (P : Params) : Obj := (.mk .none none (.func (fu (st 0) "_wall" "_wall" 0 [] .none .none .none .none none .none .none 0)) #[])
def o17 (P : Params) : Obj := (.mk (.type "code") none (.fields #[(.str "_wall" 187), (.str "_wall" 188), (.str "/claim/cut.py" 189), (.int 1 0), (.int 1 0), (.int 0 0), (.int 0 0), (.int 3 0), (.ref 15), (.bool true), (.int 181 0), (.ref 16), .none, (.ref 17), (.ref 18), (.ref 19), (.int 191 0), (.int 1 0), (.str "/claim/cut.py" 192)]) #[])
def o18 (P : Params) : Obj := (.mk (.type "function") none (.func (fu (st 0) "_wall" "_wall" 3 [] .none .none .none (.str "__main__" 164) none (.ref 20) .none 0)) #[])
def o19 (P : Params) : Obj := (.mk (.type "tuple") none (.seq #[(.type "ValueError")] 0) #[])
def o20 (P : Params) : Obj := (.mk (.type "builtin_function_or_method") none (.fields #[(.builtin "type.__prepare__"), (.type "type")]) #[])
def o21 (P : Params) : Obj := (.mk (.type "dict") none (.dict #[(de P "__module__" 203 (.str "jughouse.errors" 194)), (de P "__qualname__" 205 (.str "JugError" 204)), (de P "__firstlineno__" 207 (.int 5 206)), (de P "__static_attributes__" 208 (.ref 29))] 4) #[])
def o22 (P : Params) : Obj := (.mk (.type "code") none (.fields #[(.str "JugError" 198), (.str "JugError" 199), (.str "/claim/cut.py" 200), (.int 5 0), (.int 0 0), (.int 0 0), (.int 0 0), (.int 0 0), (.ref 25), (.bool false), (.int 181 0), (.ref 26), .none, .none, .none, .none, (.int 201 0), (.int 5 0), (.str "/claim/cut.py" 202)]) #[])
def o23 (P : Params) : Obj := (.mk (.type "frame") none .plain #[(some (.ref 27)), (some (.ref 3)), (some (.ref 24)), none, (some (.str "jughouse.errors" 194)), none, (some (.ref 0))])
def o24 (P : Params) : Obj := (.mk (.type "dict") none (.dict #[(de P "__module__" 203 (.str "jughouse.errors" 194)), (de P "__firstlineno__" 207 (.int 5 206)), (de P "__static_attributes__" 208 (.ref 29)), (de P "__weakref__" 210 (.ref 32)), (de P "__doc__" 211 .none)] 3) #[])
def o25 (P : Params) : Obj := (.mk (.type "type") none (.cls (.mk "JugError" [(.type "ValueError")] [(.ref 31), (.type "ValueError"), (.type "Exception"), (.type "BaseException"), (.type "object")] 30 "JugError" true [] [(.ref 44), (.ref 56), (.ref 68)] false none false)) #[(some (.ref 22)), none, (some (.str "JugError" 196)), (some (.str "JugError" 204)), (some (.builtin "ValueError.__new__")), (some (.bool true))])
def o26 (P : Params) : Obj := (.mk (.type "getset_descriptor") none (.fields #[(.str "__weakref__" 209), (.ref 31), (.builtin "ExceptionGroup.__weakref__"), .none]) #[])
def o27 (P : Params) : Obj := (.mk (.type "super") none (.fields #[(.ref 31), (.ref 31), (.ref 31)]) #[])
def o28 (P : Params) : Obj := (.mk (.type "builtin_function_or_method") none (.fields #[(.builtin "object.__init_subclass__"), (.ref 31)]) #[])
def o29 (P : Params) : Obj := (.mk (.type "tuple") none (.seq #[(.ref 31)] 0) #[])
def o30 (P : Params) : Obj := (.mk (.type "dict") none (.dict #[(de P "__module__" 221 (.str "jughouse.errors" 194)), (de P "__qualname__" 223 (.str "BadHouse" 222)), (de P "__firstlineno__" 225 (.int 7 224)), (de P "__static_attributes__" 226 (.ref 42))] 4) #[])
def o31 (P : Params) : Obj := (.mk (.type "code") none (.fields #[(.str "BadHouse" 216), (.str "BadHouse" 217), (.str "/claim/cut.py" 218), (.int 7 0), (.int 0 0), (.int 0 0), (.int 0 0), (.int 0 0), (.ref 38), (.bool false), (.int 181 0), (.ref 39), .none, .none, .none, .none, (.int 219 0), (.int 7 0), (.str "/claim/cut.py" 220)]) #[])
def o32 (P : Params) : Obj := (.mk (.type "frame") none .plain #[(some (.ref 40)), (some (.ref 3)), (some (.ref 37)), none, (some (.str "jughouse.errors" 194)), none, (some (.ref 0))])
def o33 (P : Params) : Obj := (.mk (.type "dict") none (.dict #[(de P "__module__" 221 (.str "jughouse.errors" 194)), (de P "__firstlineno__" 225 (.int 7 224)), (de P "__static_attributes__" 226 (.ref 42)), (de P "__doc__" 227 .none)] 2) #[])
def o34 (P : Params) : Obj := (.mk (.type "type") none (.cls (.mk "BadHouse" [(.ref 31)] [(.ref 44), (.ref 31), (.type "ValueError"), (.type "Exception"), (.type "BaseException"), (.type "object")] 43 "BadHouse" true [] [] false none false)) #[(some (.ref 35)), none, (some (.str "BadHouse" 214)), (some (.str "BadHouse" 222)), (some (.builtin "ValueError.__new__")), (some (.bool true))])
def o35 (P : Params) : Obj := (.mk (.type "super") none (.fields #[(.ref 44), (.ref 44), (.ref 44)]) #[])
def o36 (P : Params) : Obj := (.mk (.type "builtin_function_or_method") none (.fields #[(.builtin "object.__init_subclass__"), (.ref 44)]) #[])
def o37 (P : Params) : Obj := (.mk (.type "dict") none (.dict #[(de P "__module__" 237 (.str "jughouse.errors" 194)), (de P "__qualname__" 239 (.str "BadState" 238)), (de P "__firstlineno__" 241 (.int 9 240)), (de P "__static_attributes__" 242 (.ref 54))] 4) #[])
def o38 (P : Params) : Obj := (.mk (.type "code") none (.fields #[(.str "BadState" 232), (.str "BadState" 233), (.str "/claim/cut.py" 234), (.int 9 0), (.int 0 0), (.int 0 0), (.int 0 0), (.int 0 0), (.ref 50), (.bool false), (.int 181 0), (.ref 51), .none, .none, .none, .none, (.int 235 0), (.int 9 0), (.str "/claim/cut.py" 236)]) #[])
def o39 (P : Params) : Obj := (.mk (.type "frame") none .plain #[(some (.ref 52)), (some (.ref 3)), (some (.ref 49)), none, (some (.str "jughouse.errors" 194)), none, (some (.ref 0))])
def o40 (P : Params) : Obj := (.mk (.type "dict") none (.dict #[(de P "__module__" 237 (.str "jughouse.errors" 194)), (de P "__firstlineno__" 241 (.int 9 240)), (de P "__static_attributes__" 242 (.ref 54)), (de P "__doc__" 243 .none)] 2) #[])
def o41 (P : Params) : Obj := (.mk (.type "type") none (.cls (.mk "BadState" [(.ref 31)] [(.ref 56), (.ref 31), (.type "ValueError"), (.type "Exception"), (.type "BaseException"), (.type "object")] 55 "BadState" true [] [] false none false)) #[(some (.ref 47)), none, (some (.str "BadState" 230)), (some (.str "BadState" 238)), (some (.builtin "ValueError.__new__")), (some (.bool true))])
def o42 (P : Params) : Obj := (.mk (.type "super") none (.fields #[(.ref 56), (.ref 56), (.ref 56)]) #[])
def o43 (P : Params) : Obj := (.mk (.type "builtin_function_or_method") none (.fields #[(.builtin "object.__init_subclass__"), (.ref 56)]) #[])
def o44 (P : Params) : Obj := (.mk (.type "dict") none (.dict #[(de P "__module__" 253 (.str "jughouse.errors" 194)), (de P "__qualname__" 255 (.str "BadGoal" 254)), (de P "__firstlineno__" 257 (.int 11 256)), (de P "__static_attributes__" 258 (.ref 66))] 4) #[])
def o45 (P : Params) : Obj := (.mk (.type "code") none (.fields #[(.str "BadGoal" 248), (.str "BadGoal" 249), (.str "/claim/cut.py" 250), (.int 11 0), (.int 0 0), (.int 0 0), (.int 0 0), (.int 0 0), (.ref 62), (.bool false), (.int 181 0), (.ref 63), .none, .none, .none, .none, (.int 251 0), (.int 11 0), (.str "/claim/cut.py" 252)]) #[])
def o46 (P : Params) : Obj := (.mk (.type "frame") none .plain #[(some (.ref 64)), (some (.ref 3)), (some (.ref 61)), none, (some (.str "jughouse.errors" 194)), none, (some (.ref 0))])
def o47 (P : Params) : Obj := (.mk (.type "dict") none (.dict #[(de P "__module__" 253 (.str "jughouse.errors" 194)), (de P "__firstlineno__" 257 (.int 11 256)), (de P "__static_attributes__" 258 (.ref 66)), (de P "__doc__" 259 .none)] 2) #[])
def o48 (P : Params) : Obj := (.mk (.type "type") none (.cls (.mk "BadGoal" [(.ref 31)] [(.ref 68), (.ref 31), (.type "ValueError"), (.type "Exception"), (.type "BaseException"), (.type "object")] 67 "BadGoal" true [] [] false none false)) #[(some (.ref 59)), none, (some (.str "BadGoal" 246)), (some (.str "BadGoal" 254)), (some (.builtin "ValueError.__new__")), (some (.bool true))])
def o49 (P : Params) : Obj := (.mk (.type "super") none (.fields #[(.ref 68), (.ref 68), (.ref 68)]) #[])
def o50 (P : Params) : Obj := (.mk (.type "builtin_function_or_method") none (.fields #[(.builtin "object.__init_subclass__"), (.ref 68)]) #[])
def o51 (P : Params) : Obj := (.mk (.type "tuple") none (.seq #[(.str "value" 271), (.str "least" 272), (.str "most" 273)] 0) #[])
def o52 (P : Params) : Obj := (.mk .none none (.func (fu (st 9) "is_number" "is_number" 0 [] .none .none .none .none none .none .none 0)) #[])
def o53 (P : Params) : Obj := (.mk (.type "code") none (.fields #[(.str "is_number" 268), (.str "is_number" 269), (.str "/claim/cut.py" 270), (.int 16 0), (.int 3 0), (.int 0 0), (.int 0 0), (.int 3 0), (.ref 71), (.bool true), (.int 181 0), (.ref 72), .none, (.ref 73), (.ref 74), (.ref 75), (.int 274 0), (.int 16 0), (.str "/claim/cut.py" 275)]) #[])
def o54 (P : Params) : Obj := (.mk (.type "function") none (.func (fu (st 9) "is_number" "is_number" 3 [] .none .none .none (.str "jughouse.checks" 262) none (.ref 76) .none 0)) #[])
def o55 (P : Params) : Obj := (.mk (.type "tuple") none (.seq #[(.str "value" 280)] 0) #[])
def o56 (P : Params) : Obj := (.mk .none none (.func (fu (st 10) "is_jug" "is_jug" 0 [] .none .none .none .none none .none .none 0)) #[])
def o57 (P : Params) : Obj := (.mk (.type "code") none (.fields #[(.str "is_jug" 277), (.str "is_jug" 278), (.str "/claim/cut.py" 279), (.int 18 0), (.int 1 0), (.int 0 0), (.int 0 0), (.int 3 0), (.ref 78), (.bool true), (.int 181 0), (.ref 79), .none, (.ref 80), (.ref 81), (.ref 82), (.int 281 0), (.int 18 0), (.str "/claim/cut.py" 282)]) #[])
def o58 (P : Params) : Obj := (.mk (.type "function") none (.func (fu (st 10) "is_jug" "is_jug" 3 [] .none .none .none (.str "jughouse.checks" 262) none (.ref 83) .none 0)) #[])
def o59 (P : Params) : Obj := (.mk (.type "tuple") none (.seq #[(.str "house" 287), (.str "state" 288), (.str "held" 289), (.str "sizes" 290), (.str "many" 291), (.str "size" 292)] 0) #[])
def o60 (P : Params) : Obj := (.mk .none none (.func (fu (st 11) "held_in" "held_in" 0 [] .none .none .none .none none .none .none 0)) #[])
def o61 (P : Params) : Obj := (.mk (.type "code") none (.fields #[(.str "held_in" 284), (.str "held_in" 285), (.str "/claim/cut.py" 286), (.int 20 0), (.int 2 0), (.int 0 0), (.int 0 0), (.int 3 0), (.ref 85), (.bool true), (.int 181 0), (.ref 86), .none, (.ref 87), (.ref 88), (.ref 89), (.int 293 0), (.int 20 0), (.str "/claim/cut.py" 294)]) #[])
def o62 (P : Params) : Obj := (.mk (.type "function") none (.func (fu (st 11) "held_in" "held_in" 3 [] .none .none .none (.str "jughouse.checks" 262) none (.ref 90) .none 0)) #[])
def o63 (P : Params) : Obj := (.mk (.type "tuple") none (.seq #[(.str "jug" 303)] 0) #[])
def o64 (P : Params) : Obj := (.mk .none none (.func (fu (st 14) "check_jug" "check_jug" 0 [] .none .none .none .none none .none .none 0)) #[])
def o65 (P : Params) : Obj := (.mk (.type "code") none (.fields #[(.str "check_jug" 300), (.str "check_jug" 301), (.str "/claim/cut.py" 302), (.int 33 0), (.int 1 0), (.int 0 0), (.int 0 0), (.int 3 0), (.ref 92), (.bool true), (.int 181 0), (.ref 93), .none, (.ref 94), (.ref 95), (.ref 96), (.int 304 0), (.int 33 0), (.str "/claim/cut.py" 305)]) #[])
def o66 (P : Params) : Obj := (.mk (.type "function") none (.func (fu (st 14) "check_jug" "check_jug" 3 [] .none .none .none (.str "jughouse.goals" 296) none (.ref 97) .none 0)) #[])
def o67 (P : Params) : Obj := (.mk (.type "tuple") none (.seq #[(.str "many" 310)] 0) #[])
def o68 (P : Params) : Obj := (.mk .none none (.func (fu (st 15) "check_amount" "check_amount" 0 [] .none .none .none .none none .none .none 0)) #[])
def o69 (P : Params) : Obj := (.mk (.type "code") none (.fields #[(.str "check_amount" 307), (.str "check_amount" 308), (.str "/claim/cut.py" 309), (.int 36 0), (.int 1 0), (.int 0 0), (.int 0 0), (.int 3 0), (.ref 99), (.bool true), (.int 181 0), (.ref 100), .none, (.ref 101), (.ref 102), (.ref 103), (.int 311 0), (.int 36 0), (.str "/claim/cut.py" 312)]) #[])
def o70 (P : Params) : Obj := (.mk (.type "function") none (.func (fu (st 15) "check_amount" "check_amount" 3 [] .none .none .none (.str "jughouse.goals" 296) none (.ref 104) .none 0)) #[])
def o71 (P : Params) : Obj := (.mk (.type "tuple") none (.seq #[(.str "jugs" 317), (.str "told" 318), (.str "jug" 319)] 0) #[])
def o72 (P : Params) : Obj := (.mk .none none (.func (fu (st 16) "jugs_in" "jugs_in" 0 [] .none .none .none .none none .none .none 0)) #[])
def o73 (P : Params) : Obj := (.mk (.type "code") none (.fields #[(.str "jugs_in" 314), (.str "jugs_in" 315), (.str "/claim/cut.py" 316), (.int 39 0), (.int 1 0), (.int 0 0), (.int 0 0), (.int 3 0), (.ref 106), (.bool true), (.int 181 0), (.ref 107), .none, (.ref 108), (.ref 109), (.ref 110), (.int 320 0), (.int 39 0), (.str "/claim/cut.py" 321)]) #[])
def o74 (P : Params) : Obj := (.mk (.type "function") none (.func (fu (st 16) "jugs_in" "jugs_in" 3 [] .none .none .none (.str "jughouse.goals" 296) none (.ref 111) .none 0)) #[])
def o75 (P : Params) : Obj := (.mk (.type "tuple") none (.seq #[(.str "state" 326), (.str "told" 327), (.str "many" 328)] 0) #[])
def o76 (P : Params) : Obj := (.mk .none none (.func (fu (st 17) "amounts_in" "amounts_in" 0 [] .none .none .none .none none .none .none 0)) #[])
def o77 (P : Params) : Obj := (.mk (.type "code") none (.fields #[(.str "amounts_in" 323), (.str "amounts_in" 324), (.str "/claim/cut.py" 325), (.int 50 0), (.int 1 0), (.int 0 0), (.int 0 0), (.int 3 0), (.ref 113), (.bool true), (.int 181 0), (.ref 114), .none, (.ref 115), (.ref 116), (.ref 117), (.int 329 0), (.int 50 0), (.str "/claim/cut.py" 330)]) #[])
def o78 (P : Params) : Obj := (.mk (.type "function") none (.func (fu (st 17) "amounts_in" "amounts_in" 3 [] .none .none .none (.str "jughouse.goals" 296) none (.ref 118) .none 0)) #[])
def o79 (P : Params) : Obj := (.mk (.type "tuple") none (.seq #[(.str "house" 335), (.str "jug" 336)] 0) #[])
def o80 (P : Params) : Obj := (.mk .none none (.func (fu (st 18) "check_house_has" "check_house_has" 0 [] .none .none .none .none none .none .none 0)) #[])
def o81 (P : Params) : Obj := (.mk (.type "code") none (.fields #[(.str "check_house_has" 332), (.str "check_house_has" 333), (.str "/claim/cut.py" 334), (.int 60 0), (.int 2 0), (.int 0 0), (.int 0 0), (.int 3 0), (.ref 120), (.bool true), (.int 181 0), (.ref 121), .none, (.ref 122), (.ref 123), (.ref 124), (.int 337 0), (.int 60 0), (.str "/claim/cut.py" 338)]) #[])
def o82 (P : Params) : Obj := (.mk (.type "function") none (.func (fu (st 18) "check_house_has" "check_house_has" 3 [] .none .none .none (.str "jughouse.goals" 296) none (.ref 125) .none 0)) #[])
def o83 (P : Params) : Obj := (.mk (.type "tuple") none (.seq #[(.str "house" 343), (.str "state" 344)] 0) #[])
def o84 (P : Params) : Obj := (.mk .none none (.func (fu (st 19) "check_state_of" "check_state_of" 0 [] .none .none .none .none none .none .none 0)) #[])
def o85 (P : Params) : Obj := (.mk (.type "code") none (.fields #[(.str "check_state_of" 340), (.str "check_state_of" 341), (.str "/claim/cut.py" 342), (.int 63 0), (.int 2 0), (.int 0 0), (.int 0 0), (.int 3 0), (.ref 127), (.bool true), (.int 181 0), (.ref 128), .none, (.ref 129), (.ref 130), (.ref 131), (.int 345 0), (.int 63 0), (.str "/claim/cut.py" 346)]) #[])
def o86 (P : Params) : Obj := (.mk (.type "function") none (.func (fu (st 19) "check_state_of" "check_state_of" 3 [] .none .none .none (.str "jughouse.goals" 296) none (.ref 132) .none 0)) #[])
def o87 (P : Params) : Obj := (.mk (.type "dict") none (.dict #[(de P "__module__" 355 (.str "jughouse.goals" 296)), (de P "__qualname__" 357 (.str "Goal" 356)), (de P "__firstlineno__" 359 (.int 68 358)), (de P "come" 369 (.ref 147)), (de P "met_by" 378 (.ref 154)), (de P "__static_attributes__" 379 (.ref 155))] 6) #[])
def o88 (P : Params) : Obj := (.mk .none none (.fields #[(.int 70 0), (.int 4 0), (.ref 146), (.int 74 0), (.int 4 0), (.ref 153)]) #[])
def o89 (P : Params) : Obj := (.mk (.type "code") none (.fields #[(.str "Goal" 350), (.str "Goal" 351), (.str "/claim/cut.py" 352), (.int 68 0), (.int 0 0), (.int 0 0), (.int 0 0), (.int 0 0), (.ref 137), (.bool false), (.int 181 0), (.ref 138), .none, .none, .none, .none, (.int 353 0), (.int 68 0), (.str "/claim/cut.py" 354)]) #[])
def o90 (P : Params) : Obj := (.mk (.type "frame") none .plain #[(some (.ref 139)), (some (.ref 3)), (some (.ref 136)), none, (some (.str "jughouse.goals" 296)), none, (some (.ref 0))])
def o91 (P : Params) : Obj := (.mk (.type "tuple") none (.seq #[(.str "self" 363), (.str "house" 364), (.str "state" 365), (.str "held" 366)] 0) #[])
def o92 (P : Params) : Obj := (.mk .none none (.func (fu (me 20 0) "come" "Goal.come" 0 [] .none .none .none .none none .none .none 0)) #[])
def o93 (P : Params) : Obj := (.mk (.type "code") none (.fields #[(.str "come" 360), (.str "Goal.come" 361), (.str "/claim/cut.py" 362), (.int 70 0), (.int 3 0), (.int 0 0), (.int 0 0), (.int 3 0), (.ref 141), (.bool true), (.int 181 0), (.ref 142), .none, (.ref 143), (.ref 144), (.ref 145), (.int 367 0), (.int 70 0), (.str "/claim/cut.py" 368)]) #[])
def o94 (P : Params) : Obj := (.mk (.type "function") none (.func (fu (me 20 0) "come" "Goal.come" 3 [] .none .none .none (.str "jughouse.goals" 296) none (.ref 146) .none 0)) #[])
def o95 (P : Params) : Obj := (.mk (.type "tuple") none (.seq #[(.str "self" 373), (.str "house" 374), (.str "held" 375)] 0) #[])
def o96 (P : Params) : Obj := (.mk .none none (.func (fu (me 20 1) "met_by" "Goal.met_by" 0 [] .none .none .none .none none .none .none 0)) #[])
def o97 (P : Params) : Obj := (.mk (.type "code") none (.fields #[(.str "met_by" 370), (.str "Goal.met_by" 371), (.str "/claim/cut.py" 372), (.int 74 0), (.int 3 0), (.int 0 0), (.int 0 0), (.int 3 0), (.ref 148), (.bool true), (.int 181 0), (.ref 149), .none, (.ref 150), (.ref 151), (.ref 152), (.int 376 0), (.int 74 0), (.str "/claim/cut.py" 377)]) #[])
def o98 (P : Params) : Obj := (.mk (.type "function") none (.func (fu (me 20 1) "met_by" "Goal.met_by" 3 [] .none .none .none (.str "jughouse.goals" 296) none (.ref 153) .none 0)) #[])
def o99 (P : Params) : Obj := (.mk (.type "dict") none (.dict #[(de P "__module__" 355 (.str "jughouse.goals" 296)), (de P "__firstlineno__" 359 (.int 68 358)), (de P "come" 369 (.ref 147)), (de P "met_by" 378 (.ref 154)), (de P "__static_attributes__" 379 (.ref 155)), (de P "__dict__" 381 (.ref 158)), (de P "__weakref__" 383 (.ref 159)), (de P "__doc__" 384 .none)] 4) #[])
def o100 (P : Params) : Obj := (.mk (.type "type") none (.cls (.mk "Goal" [(.type "object")] [(.ref 157), (.type "object")] 156 "Goal" true [] [(.ref 185), (.ref 211), (.ref 235), (.ref 261)] false none false)) #[none, none, (some (.str "Goal" 348)), (some (.str "Goal" 356)), (some (.builtin "object.__new__")), (some (.bool true))])
def o101 (P : Params) : Obj := (.mk (.type "getset_descriptor") none (.fields #[(.str "__dict__" 380), (.ref 157), (.builtin "function.__dict__"), (.builtin "function.__dict__#set")]) #[])
def o102 (P : Params) : Obj := (.mk (.type "getset_descriptor") none (.fields #[(.str "__weakref__" 382), (.ref 157), (.builtin "ExceptionGroup.__weakref__"), .none]) #[])
def o103 (P : Params) : Obj := (.mk (.type "super") none (.fields #[(.ref 157), (.ref 157), (.ref 157)]) #[])
def o104 (P : Params) : Obj := (.mk (.type "builtin_function_or_method") none (.fields #[(.builtin "object.__init_subclass__"), (.ref 157)]) #[])
def o105 (P : Params) : Obj := (.mk (.type "tuple") none (.seq #[(.ref 157)] 0) #[])
def o106 (P : Params) : Obj := (.mk (.type "dict") none (.dict #[(de P "__module__" 394 (.str "jughouse.goals" 296)), (de P "__qualname__" 396 (.str "Holds" 395)), (de P "__firstlineno__" 398 (.int 76 397)), (de P "__init__" 407 (.ref 175)), (de P "met_by" 416 (.ref 182)), (de P "__static_attributes__" 419 (.ref 183))] 6) #[])
def o107 (P : Params) : Obj := (.mk .none none (.fields #[(.int 78 0), (.int 4 0), (.ref 174), (.int 84 0), (.int 4 0), (.ref 181)]) #[])
def o108 (P : Params) : Obj := (.mk (.type "code") none (.fields #[(.str "Holds" 389), (.str "Holds" 390), (.str "/claim/cut.py" 391), (.int 76 0), (.int 0 0), (.int 0 0), (.int 0 0), (.int 0 0), (.ref 165), (.bool false), (.int 181 0), (.ref 166), .none, .none, .none, .none, (.int 392 0), (.int 76 0), (.str "/claim/cut.py" 393)]) #[])
def o109 (P : Params) : Obj := (.mk (.type "frame") none .plain #[(some (.ref 167)), (some (.ref 3)), (some (.ref 164)), none, (some (.str "jughouse.goals" 296)), none, (some (.ref 0))])
def o110 (P : Params) : Obj := (.mk (.type "tuple") none (.seq #[(.str "self" 402), (.str "jug" 403), (.str "many" 404)] 0) #[])
def o111 (P : Params) : Obj := (.mk .none none (.func (fu (me 21 0) "__init__" "Holds.__init__" 0 [] .none .none .none .none none .none .none 0)) #[])
def o112 (P : Params) : Obj := (.mk (.type "code") none (.fields #[(.str "__init__" 399), (.str "Holds.__init__" 400), (.str "/claim/cut.py" 401), (.int 78 0), (.int 3 0), (.int 0 0), (.int 0 0), (.int 3 0), (.ref 169), (.bool true), (.int 181 0), (.ref 170), .none, (.ref 171), (.ref 172), (.ref 173), (.int 405 0), (.int 78 0), (.str "/claim/cut.py" 406)]) #[])
def o113 (P : Params) : Obj := (.mk (.type "function") none (.func (fu (me 21 0) "__init__" "Holds.__init__" 3 [] .none .none .none (.str "jughouse.goals" 296) none (.ref 174) .none 0)) #[])
def o114 (P : Params) : Obj := (.mk (.type "tuple") none (.seq #[(.str "self" 411), (.str "house" 412), (.str "held" 413)] 0) #[])
def o115 (P : Params) : Obj := (.mk .none none (.func (fu (me 21 1) "met_by" "Holds.met_by" 0 [] .none .none .none .none none .none .none 0)) #[])
def o116 (P : Params) : Obj := (.mk (.type "code") none (.fields #[(.str "met_by" 408), (.str "Holds.met_by" 409), (.str "/claim/cut.py" 410), (.int 84 0), (.int 3 0), (.int 0 0), (.int 0 0), (.int 3 0), (.ref 176), (.bool true), (.int 181 0), (.ref 177), .none, (.ref 178), (.ref 179), (.ref 180), (.int 414 0), (.int 84 0), (.str "/claim/cut.py" 415)]) #[])
def o117 (P : Params) : Obj := (.mk (.type "function") none (.func (fu (me 21 1) "met_by" "Holds.met_by" 3 [] .none .none .none (.str "jughouse.goals" 296) none (.ref 181) .none 0)) #[])
def o118 (P : Params) : Obj := (.mk (.type "tuple") none (.seq #[(.str "jug" 417), (.str "many" 418)] 0) #[])
def o119 (P : Params) : Obj := (.mk (.type "dict") none (.dict #[(de P "__module__" 394 (.str "jughouse.goals" 296)), (de P "__firstlineno__" 398 (.int 76 397)), (de P "__init__" 407 (.ref 175)), (de P "met_by" 416 (.ref 182)), (de P "__static_attributes__" 419 (.ref 183)), (de P "__doc__" 420 .none)] 2) #[])
def o120 (P : Params) : Obj := (.mk (.type "type") none (.cls (.mk "Holds" [(.ref 157)] [(.ref 185), (.ref 157), (.type "object")] 184 "Holds" true [] [] false none false)) #[(some (.ref 162)), none, (some (.str "Holds" 387)), (some (.str "Holds" 395)), (some (.builtin "object.__new__")), (some (.bool true))])
def o121 (P : Params) : Obj := (.mk (.type "super") none (.fields #[(.ref 185), (.ref 185), (.ref 185)]) #[])
def o122 (P : Params) : Obj := (.mk (.type "builtin_function_or_method") none (.fields #[(.builtin "object.__init_subclass__"), (.ref 185)]) #[])
def o123 (P : Params) : Obj := (.mk (.type "dict") none (.dict #[(de P "__module__" 430 (.str "jughouse.goals" 296)), (de P "__qualname__" 432 (.str "Some" 431)), (de P "__firstlineno__" 434 (.int 87 433)), (de P "__init__" 442 (.ref 201)), (de P "met_by" 451 (.ref 208)), (de P "__static_attributes__" 453 (.ref 209))] 6) #[])
def o124 (P : Params) : Obj := (.mk .none none (.fields #[(.int 89 0), (.int 4 0), (.ref 200), (.int 93 0), (.int 4 0), (.ref 207)]) #[])
def o125 (P : Params) : Obj := (.mk (.type "code") none (.fields #[(.str "Some" 425), (.str "Some" 426), (.str "/claim/cut.py" 427), (.int 87 0), (.int 0 0), (.int 0 0), (.int 0 0), (.int 0 0), (.ref 191), (.bool false), (.int 181 0), (.ref 192), .none, .none, .none, .none, (.int 428 0), (.int 87 0), (.str "/claim/cut.py" 429)]) #[])
def o126 (P : Params) : Obj := (.mk (.type "frame") none .plain #[(some (.ref 193)), (some (.ref 3)), (some (.ref 190)), none, (some (.str "jughouse.goals" 296)), none, (some (.ref 0))])
def o127 (P : Params) : Obj := (.mk (.type "tuple") none (.seq #[(.str "self" 438), (.str "many" 439)] 0) #[])
def o128 (P : Params) : Obj := (.mk .none none (.func (fu (me 22 0) "__init__" "Some.__init__" 0 [] .none .none .none .none none .none .none 0)) #[])
def o129 (P : Params) : Obj := (.mk (.type "code") none (.fields #[(.str "__init__" 435), (.str "Some.__init__" 436), (.str "/claim/cut.py" 437), (.int 89 0), (.int 2 0), (.int 0 0), (.int 0 0), (.int 3 0), (.ref 195), (.bool true), (.int 181 0), (.ref 196), .none, (.ref 197), (.ref 198), (.ref 199), (.int 440 0), (.int 89 0), (.str "/claim/cut.py" 441)]) #[])
def o130 (P : Params) : Obj := (.mk (.type "function") none (.func (fu (me 22 0) "__init__" "Some.__init__" 3 [] .none .none .none (.str "jughouse.goals" 296) none (.ref 200) .none 0)) #[])
def o131 (P : Params) : Obj := (.mk (.type "tuple") none (.seq #[(.str "self" 446), (.str "house" 447), (.str "held" 448)] 0) #[])
def o132 (P : Params) : Obj := (.mk .none none (.func (fu (me 22 1) "met_by" "Some.met_by" 0 [] .none .none .none .none none .none .none 0)) #[])
def o133 (P : Params) : Obj := (.mk (.type "code") none (.fields #[(.str "met_by" 443), (.str "Some.met_by" 444), (.str "/claim/cut.py" 445), (.int 93 0), (.int 3 0), (.int 0 0), (.int 0 0), (.int 3 0), (.ref 202), (.bool true), (.int 181 0), (.ref 203), .none, (.ref 204), (.ref 205), (.ref 206), (.int 449 0), (.int 93 0), (.str "/claim/cut.py" 450)]) #[])
def o134 (P : Params) : Obj := (.mk (.type "function") none (.func (fu (me 22 1) "met_by" "Some.met_by" 3 [] .none .none .none (.str "jughouse.goals" 296) none (.ref 207) .none 0)) #[])
def o135 (P : Params) : Obj := (.mk (.type "tuple") none (.seq #[(.str "many" 452)] 0) #[])
def o136 (P : Params) : Obj := (.mk (.type "dict") none (.dict #[(de P "__module__" 430 (.str "jughouse.goals" 296)), (de P "__firstlineno__" 434 (.int 87 433)), (de P "__init__" 442 (.ref 201)), (de P "met_by" 451 (.ref 208)), (de P "__static_attributes__" 453 (.ref 209)), (de P "__doc__" 454 .none)] 2) #[])
def o137 (P : Params) : Obj := (.mk (.type "type") none (.cls (.mk "Some" [(.ref 157)] [(.ref 211), (.ref 157), (.type "object")] 210 "Some" true [] [] false none false)) #[(some (.ref 188)), none, (some (.str "Some" 423)), (some (.str "Some" 431)), (some (.builtin "object.__new__")), (some (.bool true))])
def o138 (P : Params) : Obj := (.mk (.type "super") none (.fields #[(.ref 211), (.ref 211), (.ref 211)]) #[])
def o139 (P : Params) : Obj := (.mk (.type "builtin_function_or_method") none (.fields #[(.builtin "object.__init_subclass__"), (.ref 211)]) #[])
def o140 (P : Params) : Obj := (.mk (.type "dict") none (.dict #[(de P "__module__" 464 (.str "jughouse.goals" 296)), (de P "__qualname__" 466 (.str "Sum" 465)), (de P "__firstlineno__" 468 (.int 95 467)), (de P "__init__" 477 (.ref 227)), (de P "met_by" 483 (.ref 232)), (de P "__static_attributes__" 486 (.ref 233))] 6) #[])
def o141 (P : Params) : Obj := (.mk .none none (.fields #[(.int 97 0), (.int 4 0), (.ref 226), (.int 102 0), (.int 4 0), (.ref 231)]) #[])
def o142 (P : Params) : Obj := (.mk (.type "code") none (.fields #[(.str "Sum" 459), (.str "Sum" 460), (.str "/claim/cut.py" 461), (.int 95 0), (.int 0 0), (.int 0 0), (.int 0 0), (.int 0 0), (.ref 217), (.bool false), (.int 181 0), (.ref 218), .none, .none, .none, .none, (.int 462 0), (.int 95 0), (.str "/claim/cut.py" 463)]) #[])
def o143 (P : Params) : Obj := (.mk (.type "frame") none .plain #[(some (.ref 219)), (some (.ref 3)), (some (.ref 216)), none, (some (.str "jughouse.goals" 296)), none, (some (.ref 0))])
def o144 (P : Params) : Obj := (.mk (.type "tuple") none (.seq #[(.str "self" 472), (.str "jugs" 473), (.str "many" 474)] 0) #[])
def o145 (P : Params) : Obj := (.mk .none none (.func (fu (me 23 0) "__init__" "Sum.__init__" 0 [] .none .none .none .none none .none .none 0)) #[])
def o146 (P : Params) : Obj := (.mk (.type "code") none (.fields #[(.str "__init__" 469), (.str "Sum.__init__" 470), (.str "/claim/cut.py" 471), (.int 97 0), (.int 3 0), (.int 0 0), (.int 0 0), (.int 3 0), (.ref 221), (.bool true), (.int 181 0), (.ref 222), .none, (.ref 223), (.ref 224), (.ref 225), (.int 475 0), (.int 97 0), (.str "/claim/cut.py" 476)]) #[])
def o147 (P : Params) : Obj := (.mk (.type "function") none (.func (fu (me 23 0) "__init__" "Sum.__init__" 3 [] .none .none .none (.str "jughouse.goals" 296) none (.ref 226) .none 0)) #[])
def o148 (P : Params) : Obj := (.mk .none none (.func (fu (me 23 1) "met_by" "Sum.met_by" 0 [] .none .none .none .none none .none .none 0)) #[])
def o149 (P : Params) : Obj := (.mk (.type "code") none (.fields #[(.str "met_by" 478), (.str "Sum.met_by" 479), (.str "/claim/cut.py" 480), (.int 102 0), (.int 3 0), (.int 0 0), (.int 0 0), (.int 3 0), (.ref 228), (.bool true), (.int 181 0), (.ref 229), .none, .none, .none, (.ref 230), (.int 481 0), (.int 102 0), (.str "/claim/cut.py" 482)]) #[])
def o150 (P : Params) : Obj := (.mk (.type "function") none (.func (fu (me 23 1) "met_by" "Sum.met_by" 3 [] .none .none .none (.str "jughouse.goals" 296) none (.ref 231) .none 0)) #[])
def o151 (P : Params) : Obj := (.mk (.type "tuple") none (.seq #[(.str "jugs" 484), (.str "many" 485)] 0) #[])
def o152 (P : Params) : Obj := (.mk (.type "dict") none (.dict #[(de P "__module__" 464 (.str "jughouse.goals" 296)), (de P "__firstlineno__" 468 (.int 95 467)), (de P "__init__" 477 (.ref 227)), (de P "met_by" 483 (.ref 232)), (de P "__static_attributes__" 486 (.ref 233)), (de P "__doc__" 487 .none)] 2) #[])
def o153 (P : Params) : Obj := (.mk (.type "type") none (.cls (.mk "Sum" [(.ref 157)] [(.ref 235), (.ref 157), (.type "object")] 234 "Sum" true [] [] false none false)) #[(some (.ref 214)), none, (some (.str "Sum" 457)), (some (.str "Sum" 465)), (some (.builtin "object.__new__")), (some (.bool true))])
def o154 (P : Params) : Obj := (.mk (.type "super") none (.fields #[(.ref 235), (.ref 235), (.ref 235)]) #[])
def o155 (P : Params) : Obj := (.mk (.type "builtin_function_or_method") none (.fields #[(.builtin "object.__init_subclass__"), (.ref 235)]) #[])
def o156 (P : Params) : Obj := (.mk (.type "dict") none (.dict #[(de P "__module__" 497 (.str "jughouse.goals" 296)), (de P "__qualname__" 499 (.str "Whole" 498)), (de P "__firstlineno__" 501 (.int 106 500)), (de P "__init__" 509 (.ref 251)), (de P "met_by" 518 (.ref 258)), (de P "__static_attributes__" 520 (.ref 259))] 6) #[])
def o157 (P : Params) : Obj := (.mk .none none (.fields #[(.int 108 0), (.int 4 0), (.ref 250), (.int 111 0), (.int 4 0), (.ref 257)]) #[])
def o158 (P : Params) : Obj := (.mk (.type "code") none (.fields #[(.str "Whole" 492), (.str "Whole" 493), (.str "/claim/cut.py" 494), (.int 106 0), (.int 0 0), (.int 0 0), (.int 0 0), (.int 0 0), (.ref 241), (.bool false), (.int 181 0), (.ref 242), .none, .none, .none, .none, (.int 495 0), (.int 106 0), (.str "/claim/cut.py" 496)]) #[])
def o159 (P : Params) : Obj := (.mk (.type "frame") none .plain #[(some (.ref 243)), (some (.ref 3)), (some (.ref 240)), none, (some (.str "jughouse.goals" 296)), none, (some (.ref 0))])
def o160 (P : Params) : Obj := (.mk (.type "tuple") none (.seq #[(.str "self" 505), (.str "state" 506)] 0) #[])
def o161 (P : Params) : Obj := (.mk .none none (.func (fu (me 24 0) "__init__" "Whole.__init__" 0 [] .none .none .none .none none .none .none 0)) #[])
def o162 (P : Params) : Obj := (.mk (.type "code") none (.fields #[(.str "__init__" 502), (.str "Whole.__init__" 503), (.str "/claim/cut.py" 504), (.int 108 0), (.int 2 0), (.int 0 0), (.int 0 0), (.int 3 0), (.ref 245), (.bool true), (.int 181 0), (.ref 246), .none, (.ref 247), (.ref 248), (.ref 249), (.int 507 0), (.int 108 0), (.str "/claim/cut.py" 508)]) #[])
def o163 (P : Params) : Obj := (.mk (.type "function") none (.func (fu (me 24 0) "__init__" "Whole.__init__" 3 [] .none .none .none (.str "jughouse.goals" 296) none (.ref 250) .none 0)) #[])
def o164 (P : Params) : Obj := (.mk (.type "tuple") none (.seq #[(.str "self" 513), (.str "house" 514), (.str "held" 515)] 0) #[])
def o165 (P : Params) : Obj := (.mk .none none (.func (fu (me 24 1) "met_by" "Whole.met_by" 0 [] .none .none .none .none none .none .none 0)) #[])
def o166 (P : Params) : Obj := (.mk (.type "code") none (.fields #[(.str "met_by" 510), (.str "Whole.met_by" 511), (.str "/claim/cut.py" 512), (.int 111 0), (.int 3 0), (.int 0 0), (.int 0 0), (.int 3 0), (.ref 252), (.bool true), (.int 181 0), (.ref 253), .none, (.ref 254), (.ref 255), (.ref 256), (.int 516 0), (.int 111 0), (.str "/claim/cut.py" 517)]) #[])
def o167 (P : Params) : Obj := (.mk (.type "function") none (.func (fu (me 24 1) "met_by" "Whole.met_by" 3 [] .none .none .none (.str "jughouse.goals" 296) none (.ref 257) .none 0)) #[])
def o168 (P : Params) : Obj := (.mk (.type "tuple") none (.seq #[(.str "state" 519)] 0) #[])
def o169 (P : Params) : Obj := (.mk (.type "dict") none (.dict #[(de P "__module__" 497 (.str "jughouse.goals" 296)), (de P "__firstlineno__" 501 (.int 106 500)), (de P "__init__" 509 (.ref 251)), (de P "met_by" 518 (.ref 258)), (de P "__static_attributes__" 520 (.ref 259)), (de P "__doc__" 521 .none)] 2) #[])
def o170 (P : Params) : Obj := (.mk (.type "type") none (.cls (.mk "Whole" [(.ref 157)] [(.ref 261), (.ref 157), (.type "object")] 260 "Whole" true [] [] false none false)) #[(some (.ref 238)), none, (some (.str "Whole" 490)), (some (.str "Whole" 498)), (some (.builtin "object.__new__")), (some (.bool true))])
def o171 (P : Params) : Obj := (.mk (.type "super") none (.fields #[(.ref 261), (.ref 261), (.ref 261)]) #[])
def o172 (P : Params) : Obj := (.mk (.type "builtin_function_or_method") none (.fields #[(.builtin "object.__init_subclass__"), (.ref 261)]) #[])
def o173 (P : Params) : Obj := (.mk (.type "tuple") none (.seq #[(.str "sizes" 531), (.str "told" 532), (.str "size" 533)] 0) #[])
def o174 (P : Params) : Obj := (.mk .none none (.func (fu (st 27) "sizes_in" "sizes_in" 0 [] .none .none .none .none none .none .none 0)) #[])
def o175 (P : Params) : Obj := (.mk (.type "code") none (.fields #[(.str "sizes_in" 528), (.str "sizes_in" 529), (.str "/claim/cut.py" 530), (.int 116 0), (.int 1 0), (.int 0 0), (.int 0 0), (.int 3 0), (.ref 264), (.bool true), (.int 181 0), (.ref 265), .none, (.ref 266), (.ref 267), (.ref 268), (.int 534 0), (.int 116 0), (.str "/claim/cut.py" 535)]) #[])
def o176 (P : Params) : Obj := (.mk (.type "function") none (.func (fu (st 27) "sizes_in" "sizes_in" 3 [] .none .none .none (.str "jughouse.houses" 524) none (.ref 269) .none 0)) #[])
def o177 (P : Params) : Obj := (.mk (.type "tuple") none (.seq #[(.str "sizes" 540), (.str "many" 541), (.str "size" 542)] 0) #[])
def o178 (P : Params) : Obj := (.mk .none none (.func (fu (st 28) "count_states" "count_states" 0 [] .none .none .none .none none .none .none 0)) #[])
def o179 (P : Params) : Obj := (.mk (.type "code") none (.fields #[(.str "count_states" 537), (.str "count_states" 538), (.str "/claim/cut.py" 539), (.int 128 0), (.int 1 0), (.int 0 0), (.int 0 0), (.int 3 0), (.ref 271), (.bool true), (.int 181 0), (.ref 272), .none, (.ref 273), (.ref 274), (.ref 275), (.int 543 0), (.int 128 0), (.str "/claim/cut.py" 544)]) #[])
def o180 (P : Params) : Obj := (.mk (.type "function") none (.func (fu (st 28) "count_states" "count_states" 3 [] .none .none .none (.str "jughouse.houses" 524) none (.ref 276) .none 0)) #[])
def o181 (P : Params) : Obj := (.mk (.type "dict") none (.dict #[(de P "__module__" 553 (.str "jughouse.houses" 524)), (de P "__qualname__" 555 (.str "House" 554)), (de P "__firstlineno__" 557 (.int 133 556)), (de P "__init__" 566 (.ref 291)), (de P "sizes" 573 (.ref 298)), (de P "moves" 580 (.ref 305)), (de P "states" 587 (.ref 312)), (de P "empty" 594 (.ref 319)), (de P "__static_attributes__" 597 (.ref 320))] 9) #[])
def o182 (P : Params) : Obj := (.mk .none none (.fields #[(.int 135 0), (.int 4 0), (.ref 290), (.int 141 0), (.int 4 0), (.ref 297), (.int 144 0), (.int 4 0), (.ref 304), (.int 147 0), (.int 4 0), (.ref 311), (.int 150 0), (.int 4 0), (.ref 318)]) #[])
def o183 (P : Params) : Obj := (.mk (.type "code") none (.fields #[(.str "House" 548), (.str "House" 549), (.str "/claim/cut.py" 550), (.int 133 0), (.int 0 0), (.int 0 0), (.int 0 0), (.int 0 0), (.ref 281), (.bool false), (.int 181 0), (.ref 282), .none, .none, .none, .none, (.int 551 0), (.int 133 0), (.str "/claim/cut.py" 552)]) #[])
def o184 (P : Params) : Obj := (.mk (.type "frame") none .plain #[(some (.ref 283)), (some (.ref 3)), (some (.ref 280)), none, (some (.str "jughouse.houses" 524)), none, (some (.ref 0))])
def o185 (P : Params) : Obj := (.mk (.type "tuple") none (.seq #[(.str "self" 561), (.str "sizes" 562), (.str "tap" 563)] 0) #[])
def o186 (P : Params) : Obj := (.mk .none none (.func (fu (me 29 0) "__init__" "House.__init__" 0 [] .none .none .none .none none .none .none 0)) #[])
def o187 (P : Params) : Obj := (.mk (.type "code") none (.fields #[(.str "__init__" 558), (.str "House.__init__" 559), (.str "/claim/cut.py" 560), (.int 135 0), (.int 3 0), (.int 0 0), (.int 0 0), (.int 3 0), (.ref 285), (.bool true), (.int 181 0), (.ref 286), .none, (.ref 287), (.ref 288), (.ref 289), (.int 564 0), (.int 135 0), (.str "/claim/cut.py" 565)]) #[])
def o188 (P : Params) : Obj := (.mk (.type "function") none (.func (fu (me 29 0) "__init__" "House.__init__" 3 [] .none .none .none (.str "jughouse.houses" 524) none (.ref 290) .none 0)) #[])
def o189 (P : Params) : Obj := (.mk (.type "tuple") none (.seq #[(.str "self" 570)] 0) #[])
def o190 (P : Params) : Obj := (.mk .none none (.func (fu (me 29 1) "sizes" "House.sizes" 0 [] .none .none .none .none none .none .none 0)) #[])
def o191 (P : Params) : Obj := (.mk (.type "code") none (.fields #[(.str "sizes" 567), (.str "House.sizes" 568), (.str "/claim/cut.py" 569), (.int 141 0), (.int 1 0), (.int 0 0), (.int 0 0), (.int 3 0), (.ref 292), (.bool true), (.int 181 0), (.ref 293), .none, (.ref 294), (.ref 295), (.ref 296), (.int 571 0), (.int 141 0), (.str "/claim/cut.py" 572)]) #[])
def o192 (P : Params) : Obj := (.mk (.type "function") none (.func (fu (me 29 1) "sizes" "House.sizes" 3 [] .none .none .none (.str "jughouse.houses" 524) none (.ref 297) .none 0)) #[])
def o193 (P : Params) : Obj := (.mk (.type "tuple") none (.seq #[(.str "self" 577)] 0) #[])
def o194 (P : Params) : Obj := (.mk .none none (.func (fu (me 29 2) "moves" "House.moves" 0 [] .none .none .none .none none .none .none 0)) #[])
def o195 (P : Params) : Obj := (.mk (.type "code") none (.fields #[(.str "moves" 574), (.str "House.moves" 575), (.str "/claim/cut.py" 576), (.int 144 0), (.int 1 0), (.int 0 0), (.int 0 0), (.int 3 0), (.ref 299), (.bool true), (.int 181 0), (.ref 300), .none, (.ref 301), (.ref 302), (.ref 303), (.int 578 0), (.int 144 0), (.str "/claim/cut.py" 579)]) #[])
def o196 (P : Params) : Obj := (.mk (.type "function") none (.func (fu (me 29 2) "moves" "House.moves" 3 [] .none .none .none (.str "jughouse.houses" 524) none (.ref 304) .none 0)) #[])
def o197 (P : Params) : Obj := (.mk (.type "tuple") none (.seq #[(.str "self" 584)] 0) #[])
def o198 (P : Params) : Obj := (.mk .none none (.func (fu (me 29 3) "states" "House.states" 0 [] .none .none .none .none none .none .none 0)) #[])
def o199 (P : Params) : Obj := (.mk (.type "code") none (.fields #[(.str "states" 581), (.str "House.states" 582), (.str "/claim/cut.py" 583), (.int 147 0), (.int 1 0), (.int 0 0), (.int 0 0), (.int 3 0), (.ref 306), (.bool true), (.int 181 0), (.ref 307), .none, (.ref 308), (.ref 309), (.ref 310), (.int 585 0), (.int 147 0), (.str "/claim/cut.py" 586)]) #[])
def o200 (P : Params) : Obj := (.mk (.type "function") none (.func (fu (me 29 3) "states" "House.states" 3 [] .none .none .none (.str "jughouse.houses" 524) none (.ref 311) .none 0)) #[])
def o201 (P : Params) : Obj := (.mk (.type "tuple") none (.seq #[(.str "self" 591)] 0) #[])
def o202 (P : Params) : Obj := (.mk .none none (.func (fu (me 29 4) "empty" "House.empty" 0 [] .none .none .none .none none .none .none 0)) #[])
def o203 (P : Params) : Obj := (.mk (.type "code") none (.fields #[(.str "empty" 588), (.str "House.empty" 589), (.str "/claim/cut.py" 590), (.int 150 0), (.int 1 0), (.int 0 0), (.int 0 0), (.int 3 0), (.ref 313), (.bool true), (.int 181 0), (.ref 314), .none, (.ref 315), (.ref 316), (.ref 317), (.int 592 0), (.int 150 0), (.str "/claim/cut.py" 593)]) #[])
def o204 (P : Params) : Obj := (.mk (.type "function") none (.func (fu (me 29 4) "empty" "House.empty" 3 [] .none .none .none (.str "jughouse.houses" 524) none (.ref 318) .none 0)) #[])
def o205 (P : Params) : Obj := (.mk (.type "tuple") none (.seq #[(.str "jug_sizes" 595), (.str "tap" 596)] 0) #[])
def o206 (P : Params) : Obj := (.mk (.type "dict") none (.dict #[(de P "__module__" 553 (.str "jughouse.houses" 524)), (de P "__firstlineno__" 557 (.int 133 556)), (de P "__init__" 566 (.ref 291)), (de P "sizes" 573 (.ref 298)), (de P "moves" 580 (.ref 305)), (de P "states" 587 (.ref 312)), (de P "empty" 594 (.ref 319)), (de P "__static_attributes__" 597 (.ref 320)), (de P "__dict__" 599 (.ref 323)), (de P "__weakref__" 601 (.ref 324)), (de P "__doc__" 602 .none)] 4) #[])
def o207 (P : Params) : Obj := (.mk (.type "type") none (.cls (.mk "House" [(.type "object")] [(.ref 322), (.type "object")] 321 "House" true [] [] false none false)) #[none, none, (some (.str "House" 546)), (some (.str "House" 554)), (some (.builtin "object.__new__")), (some (.bool true))])
def o208 (P : Params) : Obj := (.mk (.type "getset_descriptor") none (.fields #[(.str "__dict__" 598), (.ref 322), (.builtin "function.__dict__"), (.builtin "function.__dict__#set")]) #[])
def o209 (P : Params) : Obj := (.mk (.type "getset_descriptor") none (.fields #[(.str "__weakref__" 600), (.ref 322), (.builtin "ExceptionGroup.__weakref__"), .none]) #[])
def o210 (P : Params) : Obj := (.mk (.type "super") none (.fields #[(.ref 322), (.ref 322), (.ref 322)]) #[])
def o211 (P : Params) : Obj := (.mk (.type "builtin_function_or_method") none (.fields #[(.builtin "object.__init_subclass__"), (.ref 322)]) #[])
def o212 (P : Params) : Obj := (.mk (.type "tuple") none (.seq #[(.str "_law_script" 610), (.str "_law_k" 611)] 0) #[])
def o213 (P : Params) : Obj := (.mk .none none (.func (fu (st 31) "_law_cell_at" "_law_cell_at" 0 [] .none .none .none .none none .none .none 0)) #[])
def o214 (P : Params) : Obj := (.mk (.type "code") none (.fields #[(.str "_law_cell_at" 607), (.str "_law_cell_at" 608), (.str "/claim/cut.py" 609), (.int 153 0), (.int 2 0), (.int 0 0), (.int 0 0), (.int 3 0), (.ref 327), (.bool true), (.int 181 0), (.ref 328), .none, (.ref 329), (.ref 330), (.ref 331), (.int 612 0), (.int 153 0), (.str "/claim/cut.py" 613)]) #[])
def o215 (P : Params) : Obj := (.mk (.type "function") none (.func (fu (st 31) "_law_cell_at" "_law_cell_at" 3 [] .none .none .none (.str "law_jughouse_k04_goals" 605) none (.ref 332) .none 0)) #[])
def o216 (P : Params) : Obj := (.mk (.type "tuple") none (.seq #[(.str "_law_cell" 618), (.str "_law_k" 619), (.str "_law_many" 620), (.str "_law_primes" 621)] 0) #[])
def o217 (P : Params) : Obj := (.mk .none none (.func (fu (st 32) "_law_draw" "_law_draw" 0 [] .none .none .none .none none .none .none 0)) #[])
def o218 (P : Params) : Obj := (.mk (.type "code") none (.fields #[(.str "_law_draw" 615), (.str "_law_draw" 616), (.str "/claim/cut.py" 617), (.int 157 0), (.int 3 0), (.int 0 0), (.int 0 0), (.int 3 0), (.ref 334), (.bool true), (.int 181 0), (.ref 335), .none, (.ref 336), (.ref 337), (.ref 338), (.int 622 0), (.int 157 0), (.str "/claim/cut.py" 623)]) #[])
def o219 (P : Params) : Obj := (.mk (.type "function") none (.func (fu (st 32) "_law_draw" "_law_draw" 3 [] .none .none .none (.str "law_jughouse_k04_goals" 605) none (.ref 339) .none 0)) #[])
def o220 (P : Params) : Obj := (.mk .none none (.func (fu (st 33) "_law_sizes" "_law_sizes" 0 [] .none .none .none .none none .none .none 0)) #[])
def o221 (P : Params) : Obj := (.mk (.type "code") none (.fields #[(.str "_law_sizes" 625), (.str "_law_sizes" 626), (.str "/claim/cut.py" 627), (.int 160 0), (.int 1 0), (.int 0 0), (.int 0 0), (.int 3 0), (.ref 341), (.bool true), (.int 181 0), (.ref 342), .none, .none, .none, (.ref 343), (.int 628 0), (.int 160 0), (.str "/claim/cut.py" 629)]) #[])
def o222 (P : Params) : Obj := (.mk (.type "function") none (.func (fu (st 33) "_law_sizes" "_law_sizes" 3 [] .none .none .none (.str "law_jughouse_k04_goals" 605) none (.ref 344) .none 0)) #[])
def o223 (P : Params) : Obj := (.mk (.type "tuple") none (.seq #[(.str "_law_cell" 634), (.str "_law_sizes_here" 635), (.str "_law_state_here" 636), (.str "_law_k" 637), (.str "_law_kind" 638)] 0) #[])
def o224 (P : Params) : Obj := (.mk .none none (.func (fu (st 34) "_law_state" "_law_state" 0 [] .none .none .none .none none .none .none 0)) #[])
def o225 (P : Params) : Obj := (.mk (.type "code") none (.fields #[(.str "_law_state" 631), (.str "_law_state" 632), (.str "/claim/cut.py" 633), (.int 164 0), (.int 2 0), (.int 0 0), (.int 0 0), (.int 3 0), (.ref 346), (.bool true), (.int 181 0), (.ref 347), .none, (.ref 348), (.ref 349), (.ref 350), (.int 639 0), (.int 164 0), (.str "/claim/cut.py" 640)]) #[])
def o226 (P : Params) : Obj := (.mk (.type "function") none (.func (fu (st 34) "_law_state" "_law_state" 3 [] .none .none .none (.str "law_jughouse_k04_goals" 605) none (.ref 351) .none 0)) #[])
def o227 (P : Params) : Obj := (.mk (.type "tuple") none (.seq #[(.str "_law_goal" 645)] 0) #[])
def o228 (P : Params) : Obj := (.mk .none none (.func (fu (st 35) "_law_sorts" "_law_sorts" 0 [] .none .none .none .none none .none .none 0)) #[])
def o229 (P : Params) : Obj := (.mk (.type "code") none (.fields #[(.str "_law_sorts" 642), (.str "_law_sorts" 643), (.str "/claim/cut.py" 644), (.int 170 0), (.int 1 0), (.int 0 0), (.int 0 0), (.int 3 0), (.ref 353), (.bool true), (.int 181 0), (.ref 354), .none, (.ref 355), (.ref 356), (.ref 357), (.int 646 0), (.int 170 0), (.str "/claim/cut.py" 647)]) #[])
def o230 (P : Params) : Obj := (.mk (.type "function") none (.func (fu (st 35) "_law_sorts" "_law_sorts" 3 [] .none .none .none (.str "law_jughouse_k04_goals" 605) none (.ref 358) .none 0)) #[])
def o231 (P : Params) : Obj := (.mk .none none (.func (fu (st 36) "_law_right" "_law_right" 0 [] .none .none .none .none none .none .none 0)) #[])
def o232 (P : Params) : Obj := (.mk (.type "code") none (.fields #[(.str "_law_right" 649), (.str "_law_right" 650), (.str "/claim/cut.py" 651), (.int 172 0), (.int 6 0), (.int 0 0), (.int 0 0), (.int 3 0), (.ref 360), (.bool true), (.int 181 0), (.ref 361), .none, .none, .none, (.ref 362), (.int 652 0), (.int 172 0), (.str "/claim/cut.py" 653)]) #[])
def o233 (P : Params) : Obj := (.mk (.type "function") none (.func (fu (st 36) "_law_right" "_law_right" 3 [] .none .none .none (.str "law_jughouse_k04_goals" 605) none (.ref 363) .none 0)) #[])
def o234 (P : Params) : Obj := (.mk .none none (.func (fu (st 37) "law" "law" 0 [] .none .none .none .none none .none .none 0)) #[])
def o235 (P : Params) : Obj := (.mk (.type "code") none (.fields #[(.str "law" 655), (.str "law" 656), (.str "/claim/cut.py" 657), (.int 182 0), (.int 1 0), (.int 0 0), (.int 0 0), (.int 3 0), (.ref 365), (.bool true), (.int 181 0), (.ref 366), .none, .none, .none, (.ref 367), (.int 658 0), (.int 182 0), (.str "/claim/cut.py" 659)]) #[])
def o236 (P : Params) : Obj := (.mk (.type "function") none (.func (fu (st 37) "law" "law" 3 [] .none .none .none (.str "law_jughouse_k04_goals" 605) none (.ref 368) .none 0)) #[])
abbrev N := BT.node
abbrev L := BT.nil
def lifeF : Life := (.mk [] [] [] 0 [] [] false #[] [] 0 false false false 0 [2000, 10, 10] false 0 true [] [] 0 false)
def drawnF : Drawn := (.mk 0 0 0 0)
def hA (P : Params) : Heap := ⟨Array.mk (boot_o_0 P :: boot_o_1 P :: boot_o_2 P :: boot_o_3 P :: boot_o_4 P :: boot_o_5 P :: boot_o_6 P :: boot_o_7 P :: boot_o_8 P :: boot_o_9 P :: boot_o_10 P :: boot_o_7 P :: 
  boot_o_8 P :: o11 P :: o12 P :: []), lifeF⟩
def sA (w : World) (os : OsState) : Shared := ⟨hA w.params, Array.mk [], drawnF, 187, os⟩
def tB (P : Params) : BT := (N (boot_o_0 P) (N (boot_o_1 P) (N (boot_o_3 P) (N (boot_o_7 P) L L) (N (boot_o_7 P) L L)) (N (boot_o_5 P) (N (boot_o_9 P) L L) (N (o11 P) L L))) (N (boot_o_2 P) (N (boot_o_4 P) (N (boot_o_8 P) L L) (N (boot_o_8 P) L L)) (N (boot_o_6 P) (N (boot_o_10 P) L L) (N (o12 P) L L))))
def sB (w : World) (os : OsState) : SharedT := ⟨tB w.params, 15, lifeF, Array.mk [], drawnF, 187, os⟩
def tC0 (P : Params) : BT := (N (boot_o_0 P) (N (boot_o_1 P) (N (o13 P) (N (boot_o_7 P) (N (boot_o_7 P) (N (o25 P) (N (boot_o_8 P) (N (boot_o_7 P) (N (boot_o_7 P) L L) L) (N (boot_o_7 P) (N (o204 P) L L) L)) (N (boot_o_7 P) (N (o102 P) (N (o185 P) L L) L) (N (o144 P) (N (o225 P) L L) L))) (N (o29 P) (N (boot_o_8 P) (N (o91 P) (N (boot_o_7 P) L L) L) (N (o133 P) (N (boot_o_8 P) L L) L)) (N (o73 P) (N (o113 P) (N (o194 P) L L) L) (N (o20 P) (N (o234 P) L L) L)))) (N (o20 P) (N (boot_o_8 P) (N (boot_o_7 P) (N (o20 P) (N (o172 P) L L) L) (N (o128 P) (N (boot_o_7 P) L L) L)) (N (o68 P) (N (o108 P) (N (boot_o_7 P) L L) L) (N (o149 P) (N (o230 P) L L) L))) (N (o40 P) (N (o59 P) (N (boot_o_7 P) (N (o20 P) L L) L) (N (o20 P) (N (o220 P) L L) L)) (N (o78 P) (N (o118 P) (N (o199 P) L L) L) (N (o160 P) L L))))) (N (boot_o_7 P) (N (o16 P) (N (o29 P) (N (o47 P) (N (o84 P) (N (o168 P) L L) L) (N (boot_o_7 P) (N (o208 P) L L) L)) (N (boot_o_7 P) (N (o20 P) (N (o188 P) L L) L) (N (o147 P) (N (o227 P) L L) L))) (N (boot_o_8 P) (N (o57 P) (N (o94 P) (N (o178 P) L L) L) (N (o137 P) (N (o218 P) L L) L)) (N (o75 P) (N (boot_o_7 P) (N (boot_o_8 P) L L) L) (N (o158 P) L L)))) (N (o22 P) (N (o33 P) (N (o52 P) (N (o89 P) (N (boot_o_7 P) L L) L) (N (boot_o_8 P) (N (o213 P) L L) L)) (N (boot_o_8 P) (N (o110 P) (N (boot_o_7 P) L L) L) (N (o153 P) (N (o232 P) L L) L))) (N (o29 P) (N (o62 P) (N (boot_o_7 P) (N (o183 P) L L) L) (N (o142 P) (N (boot_o_8 P) L L) L)) (N (boot_o_7 P) (N (o122 P) (N (o201 P) L L) L) (N (o163 P) L L)))))) (N (boot_o_5 P) (N (boot_o_9 P) (N (o15 P) (N (o27 P) (N (o46 P) (N (o83 P) (N (o166 P) L L) L) (N (o125 P) (N (o206 P) L L) L)) (N (o65 P) (N (o104 P) (N (o186 P) L L) L) (N (o145 P) (N (boot_o_7 P) L L) L))) (N (o37 P) (N (boot_o_7 P) (N (o92 P) (N (o177 P) L L) L) (N (o135 P) (N (boot_o_7 P) L L) L)) (N (boot_o_7 P) (N (boot_o_8 P) (N (o196 P) L L) L) (N (boot_o_7 P) (N (o236 P) L L) L)))) (N (boot_o_7 P) (N (o32 P) (N (o51 P) (N (boot_o_7 P) (N (boot_o_8 P) L L) L) (N (o130 P) (N (o212 P) L L) L)) (N (o70 P) (N (boot_o_7 P) (N (o191 P) L L) L) (N (o151 P) (N (boot_o_8 P) L L) L))) (N (o42 P) (N (o60 P) (N (o97 P) (N (boot_o_7 P) L L) L) (N (boot_o_7 P) (N (o222 P) L L) L)) (N (boot_o_8 P) (N (o120 P) (N (boot_o_7 P) L L) L) (N (o161 P) L L))))) (N (o11 P) (N (o18 P) (N (o30 P) (N (o49 P) (N (o86 P) (N (o170 P) L L) L) (N (o127 P) (N (o210 P) L L) L)) (N (o67 P) (N (boot_o_7 P) (N (boot_o_8 P) L L) L) (N (boot_o_8 P) (N (o228 P) L L) L))) (N (o39 P) (N (boot_o_7 P) (N (boot_o_8 P) (N (o180 P) L L) L) (N (o139 P) (N (boot_o_7 P) L L) L)) (N (o76 P) (N (o116 P) (N (boot_o_7 P) L L) L) (N (boot_o_7 P) L L)))) (N (boot_o_7 P) (N (o35 P) (N (o54 P) (N (boot_o_7 P) (N (o175 P) L L) L) (N (boot_o_7 P) (N (o215 P) L L) L)) (N (boot_o_7 P) (N (o111 P) (N (o193 P) L L) L) (N (o155 P) (N (boot_o_7 P) L L) L))) (N (o44 P) (N (boot_o_8 P) (N (o100 P) (N (boot_o_7 P) L L) L) (N (boot_o_7 P) (N (boot_o_7 P) L L) L)) (N (o81 P) (N (o20 P) (N (o202 P) L L) L) (N (boot_o_8 P) L L))))))) (N (boot_o_2 P) (N (boot_o_4 P) (N (boot_o_8 P) (N (boot_o_8 P) (N (o26 P) (N (o45 P) (N (boot_o_8 P) (N (o165 P) L L) L) (N (o124 P) (N (o205 P) L L) L)) (N (o64 P) (N (o103 P) (N (boot_o_7 P) L L) L) (N (boot_o_7 P) (N (o226 P) L L) L))) (N (o20 P) (N (o55 P) (N (boot_o_7 P) (N (boot_o_8 P) L L) L) (N (o134 P) (N (o216 P) L L) L)) (N (o74 P) (N (boot_o_7 P) (N (o195 P) L L) L) (N (o156 P) (N (o235 P) L L) L)))) (N (o21 P) (N (o31 P) (N (boot_o_8 P) (N (o87 P) (N (boot_o_7 P) L L) L) (N (o129 P) (N (boot_o_8 P) L L) L)) (N (o69 P) (N (o109 P) (N (o190 P) L L) L) (N (o150 P) (N (boot_o_7 P) L L) L))) (N (o41 P) (N (boot_o_7 P) (N (o96 P) (N (o181 P) L L) L) (N (o140 P) (N (o221 P) L L) L)) (N (boot_o_7 P) (N (o119 P) (N (o200 P) L L) L) (N (boot_o_7 P) L L))))) (N (o14 P) (N (o17 P) (N (o20 P) (N (o48 P) (N (o85 P) (N (o169 P) L L) L) (N (boot_o_8 P) (N (o209 P) L L) L)) (N (boot_o_8 P) (N (o106 P) (N (boot_o_7 P) L L) L) (N (boot_o_7 P) (N (boot_o_7 P) L L) L))) (N (o38 P) (N (o58 P) (N (boot_o_7 P) (N (o179 P) L L) L) (N (o138 P) (N (o219 P) L L) L)) (N (boot_o_7 P) (N (o115 P) (N (o197 P) L L) L) (N (o159 P) L L)))) (N (o23 P) (N (o34 P) (N (o53 P) (N (o90 P) (N (o174 P) L L) L) (N (o131 P) (N (o214 P) L L) L)) (N (o71 P) (N (boot_o_7 P) (N (boot_o_8 P) L L) L) (N (o154 P) (N (o233 P) L L) L))) (N (o20 P) (N (boot_o_7 P) (N (o99 P) (N (o184 P) L L) L) (N (o143 P) (N (o223 P) L L) L)) (N (o80 P) (N (o105 P) (N (boot_o_7 P) L L) L) (N (boot_o_7 P) L L)))))) (N (boot_o_6 P) (N (boot_o_10 P) (N (boot_o_7 P) (N (o28 P) (N (boot_o_7 P) (N (boot_o_7 P) (N (o167 P) L L) L) (N (o126 P) (N (o207 P) L L) L)) (N (o66 P) (N (o105 P) (N (o187 P) L L) L) (N (o146 P) (N (boot_o_8 P) L L) L))) (N (boot_o_7 P) (N (o56 P) (N (o93 P) (N (boot_o_7 P) L L) L) (N (o136 P) (N (o217 P) L L) L)) (N (boot_o_8 P) (N (o114 P) (N (boot_o_7 P) L L) L) (N (o157 P) L L)))) (N (boot_o_8 P) (N (boot_o_7 P) (N (boot_o_7 P) (N (o88 P) (N (o173 P) L L) L) (N (boot_o_7 P) (N (boot_o_7 P) L L) L)) (N (boot_o_7 P) (N (boot_o_8 P) (N (o192 P) L L) L) (N (o152 P) (N (o231 P) L L) L))) (N (o43 P) (N (o61 P) (N (o98 P) (N (o182 P) L L) L) (N (o141 P) (N (boot_o_7 P) L L) L)) (N (o79 P) (N (o121 P) (N (boot_o_8 P) L L) L) (N (o162 P) L L))))) (N (o12 P) (N (o19 P) (N (boot_o_7 P) (N (o50 P) (N (boot_o_7 P) (N (o171 P) L L) L) (N (boot_o_7 P) (N (o211 P) L L) L)) (N (boot_o_7 P) (N (o107 P) (N (o189 P) L L) L) (N (o148 P) (N (o229 P) L L) L))) (N (boot_o_7 P) (N (boot_o_8 P) (N (o95 P) (N (boot_o_7 P) L L) L) (N (o105 P) (N (boot_o_8 P) L L) L)) (N (o77 P) (N (o117 P) (N (o198 P) L L) L) (N (boot_o_8 P) L L)))) (N (o24 P) (N (o36 P) (N (boot_o_7 P) (N (boot_o_8 P) (N (o176 P) L L) L) (N (o132 P) (N (boot_o_7 P) L L) L)) (N (o72 P) (N (o112 P) (N (boot_o_7 P) L L) L) (N (o105 P) (N (boot_o_8 P) L L) L))) (N (boot_o_7 P) (N (o63 P) (N (o101 P) (N (boot_o_8 P) L L) L) (N (boot_o_8 P) (N (o224 P) L L) L)) (N (o82 P) (N (o123 P) (N (o203 P) L L) L) (N (o164 P) L L))))))))
def sC0 (w : World) (os : OsState) : SharedT := ⟨tC0 w.params, 370, lifeF, Array.mk [], drawnF, 661, os⟩
def hF (P : Params) : Heap := ⟨Array.mk (boot_o_0 P :: boot_o_1 P :: boot_o_2 P :: o13 P :: boot_o_4 P :: boot_o_5 P :: boot_o_6 P :: boot_o_7 P :: boot_o_8 P :: boot_o_9 P :: boot_o_10 P :: boot_o_7 P :: 
  o14 P :: o11 P :: o12 P :: boot_o_7 P :: boot_o_8 P :: o15 P :: boot_o_7 P :: o16 P :: o17 P :: o18 P :: o19 P :: o20 P :: 
  o21 P :: boot_o_7 P :: boot_o_8 P :: o22 P :: o23 P :: boot_o_7 P :: o24 P :: o25 P :: o26 P :: o27 P :: o28 P :: o29 P :: 
  o20 P :: o30 P :: boot_o_7 P :: boot_o_8 P :: o31 P :: o32 P :: boot_o_7 P :: o33 P :: o34 P :: o35 P :: o36 P :: o29 P :: 
  o20 P :: o37 P :: boot_o_7 P :: boot_o_8 P :: o38 P :: o39 P :: boot_o_7 P :: o40 P :: o41 P :: o42 P :: o43 P :: o29 P :: 
  o20 P :: o44 P :: boot_o_7 P :: boot_o_8 P :: o45 P :: o46 P :: boot_o_7 P :: o47 P :: o48 P :: o49 P :: o50 P :: boot_o_7 P :: 
  boot_o_8 P :: o51 P :: boot_o_7 P :: o52 P :: o53 P :: o54 P :: boot_o_7 P :: boot_o_8 P :: o55 P :: boot_o_7 P :: o56 P :: o57 P :: 
  o58 P :: boot_o_7 P :: boot_o_8 P :: o59 P :: boot_o_7 P :: o60 P :: o61 P :: o62 P :: boot_o_7 P :: boot_o_8 P :: o63 P :: boot_o_7 P :: 
  o64 P :: o65 P :: o66 P :: boot_o_7 P :: boot_o_8 P :: o67 P :: boot_o_7 P :: o68 P :: o69 P :: o70 P :: boot_o_7 P :: boot_o_8 P :: 
  o71 P :: boot_o_7 P :: o72 P :: o73 P :: o74 P :: boot_o_7 P :: boot_o_8 P :: o75 P :: boot_o_7 P :: o76 P :: o77 P :: o78 P :: 
  boot_o_7 P :: boot_o_8 P :: o79 P :: boot_o_7 P :: o80 P :: o81 P :: o82 P :: boot_o_7 P :: boot_o_8 P :: o83 P :: boot_o_7 P :: o84 P :: 
  o85 P :: o86 P :: boot_o_7 P :: o20 P :: o87 P :: boot_o_7 P :: o88 P :: o89 P :: o90 P :: boot_o_7 P :: boot_o_8 P :: o91 P :: 
  boot_o_7 P :: o92 P :: o93 P :: o94 P :: boot_o_7 P :: boot_o_8 P :: o95 P :: boot_o_7 P :: o96 P :: o97 P :: o98 P :: boot_o_7 P :: 
  o99 P :: o100 P :: o101 P :: o102 P :: o103 P :: o104 P :: o105 P :: o20 P :: o106 P :: boot_o_7 P :: o107 P :: o108 P :: 
  o109 P :: boot_o_7 P :: boot_o_8 P :: o110 P :: boot_o_7 P :: o111 P :: o112 P :: o113 P :: boot_o_7 P :: boot_o_8 P :: o114 P :: boot_o_7 P :: 
  o115 P :: o116 P :: o117 P :: o118 P :: o119 P :: o120 P :: o121 P :: o122 P :: o105 P :: o20 P :: o123 P :: boot_o_7 P :: 
  o124 P :: o125 P :: o126 P :: boot_o_7 P :: boot_o_8 P :: o127 P :: boot_o_7 P :: o128 P :: o129 P :: o130 P :: boot_o_7 P :: boot_o_8 P :: 
  o131 P :: boot_o_7 P :: o132 P :: o133 P :: o134 P :: o135 P :: o136 P :: o137 P :: o138 P :: o139 P :: o105 P :: o20 P :: 
  o140 P :: boot_o_7 P :: o141 P :: o142 P :: o143 P :: boot_o_7 P :: boot_o_8 P :: o144 P :: boot_o_7 P :: o145 P :: o146 P :: o147 P :: 
  boot_o_7 P :: boot_o_8 P :: o148 P :: o149 P :: o150 P :: o151 P :: o152 P :: o153 P :: o154 P :: o155 P :: o105 P :: o20 P :: 
  o156 P :: boot_o_7 P :: o157 P :: o158 P :: o159 P :: boot_o_7 P :: boot_o_8 P :: o160 P :: boot_o_7 P :: o161 P :: o162 P :: o163 P :: 
  boot_o_7 P :: boot_o_8 P :: o164 P :: boot_o_7 P :: o165 P :: o166 P :: o167 P :: o168 P :: o169 P :: o170 P :: o171 P :: o172 P :: 
  boot_o_7 P :: boot_o_8 P :: o173 P :: boot_o_7 P :: o174 P :: o175 P :: o176 P :: boot_o_7 P :: boot_o_8 P :: o177 P :: boot_o_7 P :: o178 P :: 
  o179 P :: o180 P :: boot_o_7 P :: o20 P :: o181 P :: boot_o_7 P :: o182 P :: o183 P :: o184 P :: boot_o_7 P :: boot_o_8 P :: o185 P :: 
  boot_o_7 P :: o186 P :: o187 P :: o188 P :: boot_o_7 P :: boot_o_8 P :: o189 P :: boot_o_7 P :: o190 P :: o191 P :: o192 P :: boot_o_7 P :: 
  boot_o_8 P :: o193 P :: boot_o_7 P :: o194 P :: o195 P :: o196 P :: boot_o_7 P :: boot_o_8 P :: o197 P :: boot_o_7 P :: o198 P :: o199 P :: 
  o200 P :: boot_o_7 P :: boot_o_8 P :: o201 P :: boot_o_7 P :: o202 P :: o203 P :: o204 P :: o205 P :: o206 P :: o207 P :: o208 P :: 
  o209 P :: o210 P :: o211 P :: boot_o_7 P :: boot_o_8 P :: o212 P :: boot_o_7 P :: o213 P :: o214 P :: o215 P :: boot_o_7 P :: boot_o_8 P :: 
  o216 P :: boot_o_7 P :: o217 P :: o218 P :: o219 P :: boot_o_7 P :: boot_o_8 P :: o220 P :: o221 P :: o222 P :: boot_o_7 P :: boot_o_8 P :: 
  o223 P :: boot_o_7 P :: o224 P :: o225 P :: o226 P :: boot_o_7 P :: boot_o_8 P :: o227 P :: boot_o_7 P :: o228 P :: o229 P :: o230 P :: 
  boot_o_7 P :: boot_o_8 P :: o231 P :: o232 P :: o233 P :: boot_o_7 P :: boot_o_8 P :: o234 P :: o235 P :: o236 P :: []), lifeF⟩
def sF (w : World) (os : OsState) : Shared := ⟨hF w.params, Array.mk [], drawnF, 661, os⟩
def KK (P : Params) : Frag := (nat_lit 2, boot_o_2 P) :: (nat_lit 3, o13 P) :: (nat_lit 15, boot_o_7 P) :: (nat_lit 17, o15 P) :: (nat_lit 18, boot_o_7 P) :: (nat_lit 20, o17 P) :: (nat_lit 21, o18 P) :: (nat_lit 22, o19 P) :: 
  (nat_lit 29, boot_o_7 P) :: (nat_lit 30, o24 P) :: (nat_lit 31, o25 P) :: (nat_lit 32, o26 P) :: (nat_lit 35, o29 P) :: (nat_lit 42, boot_o_7 P) :: (nat_lit 43, o33 P) :: (nat_lit 44, o34 P) :: 
  (nat_lit 47, o29 P) :: (nat_lit 54, boot_o_7 P) :: (nat_lit 55, o40 P) :: (nat_lit 56, o41 P) :: (nat_lit 59, o29 P) :: (nat_lit 66, boot_o_7 P) :: (nat_lit 67, o47 P) :: (nat_lit 68, o48 P) :: 
  (nat_lit 71, boot_o_7 P) :: (nat_lit 73, o51 P) :: (nat_lit 74, boot_o_7 P) :: (nat_lit 76, o53 P) :: (nat_lit 77, o54 P) :: (nat_lit 78, boot_o_7 P) :: (nat_lit 80, o55 P) :: (nat_lit 81, boot_o_7 P) :: 
  (nat_lit 83, o57 P) :: (nat_lit 84, o58 P) :: (nat_lit 85, boot_o_7 P) :: (nat_lit 87, o59 P) :: (nat_lit 88, boot_o_7 P) :: (nat_lit 90, o61 P) :: (nat_lit 91, o62 P) :: (nat_lit 92, boot_o_7 P) :: 
  (nat_lit 94, o63 P) :: (nat_lit 95, boot_o_7 P) :: (nat_lit 97, o65 P) :: (nat_lit 98, o66 P) :: (nat_lit 99, boot_o_7 P) :: (nat_lit 101, o67 P) :: (nat_lit 102, boot_o_7 P) :: (nat_lit 104, o69 P) :: 
  (nat_lit 105, o70 P) :: (nat_lit 106, boot_o_7 P) :: (nat_lit 108, o71 P) :: (nat_lit 109, boot_o_7 P) :: (nat_lit 111, o73 P) :: (nat_lit 112, o74 P) :: (nat_lit 113, boot_o_7 P) :: (nat_lit 115, o75 P) :: 
  (nat_lit 116, boot_o_7 P) :: (nat_lit 118, o77 P) :: (nat_lit 119, o78 P) :: (nat_lit 120, boot_o_7 P) :: (nat_lit 122, o79 P) :: (nat_lit 123, boot_o_7 P) :: (nat_lit 125, o81 P) :: (nat_lit 126, o82 P) :: 
  (nat_lit 127, boot_o_7 P) :: (nat_lit 129, o83 P) :: (nat_lit 130, boot_o_7 P) :: (nat_lit 132, o85 P) :: (nat_lit 133, o86 P) :: (nat_lit 141, boot_o_7 P) :: (nat_lit 143, o91 P) :: (nat_lit 144, boot_o_7 P) :: 
  (nat_lit 146, o93 P) :: (nat_lit 147, o94 P) :: (nat_lit 148, boot_o_7 P) :: (nat_lit 150, o95 P) :: (nat_lit 151, boot_o_7 P) :: (nat_lit 153, o97 P) :: (nat_lit 154, o98 P) :: (nat_lit 155, boot_o_7 P) :: 
  (nat_lit 156, o99 P) :: (nat_lit 157, o100 P) :: (nat_lit 158, o101 P) :: (nat_lit 159, o102 P) :: (nat_lit 162, o105 P) :: (nat_lit 169, boot_o_7 P) :: (nat_lit 171, o110 P) :: (nat_lit 172, boot_o_7 P) :: 
  (nat_lit 174, o112 P) :: (nat_lit 175, o113 P) :: (nat_lit 176, boot_o_7 P) :: (nat_lit 178, o114 P) :: (nat_lit 179, boot_o_7 P) :: (nat_lit 181, o116 P) :: (nat_lit 182, o117 P) :: (nat_lit 183, o118 P) :: 
  (nat_lit 184, o119 P) :: (nat_lit 185, o120 P) :: (nat_lit 188, o105 P) :: (nat_lit 195, boot_o_7 P) :: (nat_lit 197, o127 P) :: (nat_lit 198, boot_o_7 P) :: (nat_lit 200, o129 P) :: (nat_lit 201, o130 P) :: 
  (nat_lit 202, boot_o_7 P) :: (nat_lit 204, o131 P) :: (nat_lit 205, boot_o_7 P) :: (nat_lit 207, o133 P) :: (nat_lit 208, o134 P) :: (nat_lit 209, o135 P) :: (nat_lit 210, o136 P) :: (nat_lit 211, o137 P) :: 
  (nat_lit 214, o105 P) :: (nat_lit 221, boot_o_7 P) :: (nat_lit 223, o144 P) :: (nat_lit 224, boot_o_7 P) :: (nat_lit 226, o146 P) :: (nat_lit 227, o147 P) :: (nat_lit 228, boot_o_7 P) :: (nat_lit 231, o149 P) :: 
  (nat_lit 232, o150 P) :: (nat_lit 233, o151 P) :: (nat_lit 234, o152 P) :: (nat_lit 235, o153 P) :: (nat_lit 238, o105 P) :: (nat_lit 245, boot_o_7 P) :: (nat_lit 247, o160 P) :: (nat_lit 248, boot_o_7 P) :: 
  (nat_lit 250, o162 P) :: (nat_lit 251, o163 P) :: (nat_lit 252, boot_o_7 P) :: (nat_lit 254, o164 P) :: (nat_lit 255, boot_o_7 P) :: (nat_lit 257, o166 P) :: (nat_lit 258, o167 P) :: (nat_lit 259, o168 P) :: 
  (nat_lit 260, o169 P) :: (nat_lit 261, o170 P) :: (nat_lit 264, boot_o_7 P) :: (nat_lit 266, o173 P) :: (nat_lit 267, boot_o_7 P) :: (nat_lit 269, o175 P) :: (nat_lit 270, o176 P) :: (nat_lit 271, boot_o_7 P) :: 
  (nat_lit 273, o177 P) :: (nat_lit 274, boot_o_7 P) :: (nat_lit 276, o179 P) :: (nat_lit 277, o180 P) :: (nat_lit 285, boot_o_7 P) :: (nat_lit 287, o185 P) :: (nat_lit 288, boot_o_7 P) :: (nat_lit 290, o187 P) :: 
  (nat_lit 291, o188 P) :: (nat_lit 292, boot_o_7 P) :: (nat_lit 294, o189 P) :: (nat_lit 295, boot_o_7 P) :: (nat_lit 297, o191 P) :: (nat_lit 298, o192 P) :: (nat_lit 299, boot_o_7 P) :: (nat_lit 301, o193 P) :: 
  (nat_lit 302, boot_o_7 P) :: (nat_lit 304, o195 P) :: (nat_lit 305, o196 P) :: (nat_lit 306, boot_o_7 P) :: (nat_lit 308, o197 P) :: (nat_lit 309, boot_o_7 P) :: (nat_lit 311, o199 P) :: (nat_lit 312, o200 P) :: 
  (nat_lit 313, boot_o_7 P) :: (nat_lit 315, o201 P) :: (nat_lit 316, boot_o_7 P) :: (nat_lit 318, o203 P) :: (nat_lit 319, o204 P) :: (nat_lit 320, o205 P) :: (nat_lit 321, o206 P) :: (nat_lit 322, o207 P) :: 
  (nat_lit 323, o208 P) :: (nat_lit 324, o209 P) :: (nat_lit 327, boot_o_7 P) :: (nat_lit 329, o212 P) :: (nat_lit 330, boot_o_7 P) :: (nat_lit 332, o214 P) :: (nat_lit 333, o215 P) :: (nat_lit 334, boot_o_7 P) :: 
  (nat_lit 336, o216 P) :: (nat_lit 337, boot_o_7 P) :: (nat_lit 339, o218 P) :: (nat_lit 340, o219 P) :: (nat_lit 341, boot_o_7 P) :: (nat_lit 344, o221 P) :: (nat_lit 345, o222 P) :: (nat_lit 346, boot_o_7 P) :: 
  (nat_lit 348, o223 P) :: (nat_lit 349, boot_o_7 P) :: (nat_lit 351, o225 P) :: (nat_lit 352, o226 P) :: (nat_lit 353, boot_o_7 P) :: (nat_lit 355, o227 P) :: (nat_lit 356, boot_o_7 P) :: (nat_lit 358, o229 P) :: 
  (nat_lit 359, o230 P) :: (nat_lit 360, boot_o_7 P) :: (nat_lit 363, o232 P) :: (nat_lit 364, o233 P) :: (nat_lit 365, boot_o_7 P) :: (nat_lit 368, o235 P) :: (nat_lit 369, o236 P) :: []
def keysK : List Addr := 2 :: 3 :: 15 :: 17 :: 18 :: 20 :: 21 :: 22 :: 29 :: 30 :: 31 :: 32 :: 35 :: 42 :: 43 :: 44 :: 47 :: 54 :: 55 :: 56 :: 59 :: 66 :: 67 :: 68 :: 
  71 :: 73 :: 74 :: 76 :: 77 :: 78 :: 80 :: 81 :: 83 :: 84 :: 85 :: 87 :: 88 :: 90 :: 91 :: 92 :: 94 :: 95 :: 97 :: 98 :: 99 :: 101 :: 102 :: 104 :: 
  105 :: 106 :: 108 :: 109 :: 111 :: 112 :: 113 :: 115 :: 116 :: 118 :: 119 :: 120 :: 122 :: 123 :: 125 :: 126 :: 127 :: 129 :: 130 :: 132 :: 133 :: 141 :: 143 :: 144 :: 
  146 :: 147 :: 148 :: 150 :: 151 :: 153 :: 154 :: 155 :: 156 :: 157 :: 158 :: 159 :: 162 :: 169 :: 171 :: 172 :: 174 :: 175 :: 176 :: 178 :: 179 :: 181 :: 182 :: 183 :: 
  184 :: 185 :: 188 :: 195 :: 197 :: 198 :: 200 :: 201 :: 202 :: 204 :: 205 :: 207 :: 208 :: 209 :: 210 :: 211 :: 214 :: 221 :: 223 :: 224 :: 226 :: 227 :: 228 :: 231 :: 
  232 :: 233 :: 234 :: 235 :: 238 :: 245 :: 247 :: 248 :: 250 :: 251 :: 252 :: 254 :: 255 :: 257 :: 258 :: 259 :: 260 :: 261 :: 264 :: 266 :: 267 :: 269 :: 270 :: 271 :: 
  273 :: 274 :: 276 :: 277 :: 285 :: 287 :: 288 :: 290 :: 291 :: 292 :: 294 :: 295 :: 297 :: 298 :: 299 :: 301 :: 302 :: 304 :: 305 :: 306 :: 308 :: 309 :: 311 :: 312 :: 
  313 :: 315 :: 316 :: 318 :: 319 :: 320 :: 321 :: 322 :: 323 :: 324 :: 327 :: 329 :: 330 :: 332 :: 333 :: 334 :: 336 :: 337 :: 339 :: 340 :: 341 :: 344 :: 345 :: 346 :: 
  348 :: 349 :: 351 :: 352 :: 353 :: 355 :: 356 :: 358 :: 359 :: 360 :: 363 :: 364 :: 365 :: 368 :: 369 :: []
def loose : List Str := Str.ofString "_wall" :: Str.ofString "JugError" :: Str.ofString "BadHouse" :: Str.ofString "BadState" :: Str.ofString "BadGoal" :: Str.ofString "MOST_JUGS" :: Str.ofString "MOST_SIZE" :: Str.ofString "is_number" :: 
  Str.ofString "is_jug" :: Str.ofString "held_in" :: Str.ofString "MOST_AMOUNT" :: Str.ofString "check_jug" :: Str.ofString "check_amount" :: Str.ofString "jugs_in" :: Str.ofString "amounts_in" :: Str.ofString "check_house_has" :: 
  Str.ofString "check_state_of" :: Str.ofString "Goal" :: Str.ofString "Holds" :: Str.ofString "Some" :: Str.ofString "Sum" :: Str.ofString "Whole" :: Str.ofString "MOST_STATES" :: Str.ofString "sizes_in" :: 
  Str.ofString "count_states" :: Str.ofString "House" :: Str.ofString "_law_cell_at" :: Str.ofString "_law_draw" :: Str.ofString "_law_sizes" :: Str.ofString "_law_state" :: Str.ofString "_law_sorts" :: Str.ofString "_law_right" :: []
def env : Env := { scope := pg.main.scope, locals := mainNs, globals := mainNs, cells := [], code := (.ref 13), frame := some 14 }
abbrev cE : Code := .body (behindTheImports pg) env
abbrev pos0 : Pos := (.mk 0 0 0 0)
abbrev posB : Pos := (.mk 0 0 0 0)
abbrev posQ : Pos := (.mk 0 0 0 0)
abbrev ann : Option Value := (some (.ref 6))

abbrev s0 (w : World) (os : OsState) : Shared := ⟨boot_heap w.params, Array.mk [], boot_drawn, boot_toks, os⟩
theorem pre_ (w : World) (os : OsState) : topGo treeTable pg w 11 ann 12 (s0 w os) (topStub pg) = some (sA w os, ⟨denote treeTable cE, cE, pos0, [topFrame posQ]⟩) := by
  rewrite [Fast.te15667345088766844465, Fast.te14364793385576792824, Fast.te11892475500146522536]
  kernel_rfl
theorem block_ (w : World) (os : OsState) : segRun treeTable pg w 11 ann 1 1 (sA w os) (blockOf (behindTheImports pg) env cE pos0 [topFrame posQ]) = some (.next, (sB w os).abs, cE, posB) := by
  rewrite [Fast.te14374325043358763698, Fast.te14364793385576792824]
  kernel_rfl
abbrev pos_0 : Pos := (.mk 182 0 206 106)
theorem run_0 (w : World) (os : OsState) : segRunT treeTable pg w 11 ann 1 3189 (sB w os) (piecesOf (behindTheImports pg) env cE posB [topFrame posQ]) = some (.next, sC0 w os, cE, pos_0) := by
  rewrite [Fast.te10110043849684766642, Fast.te14364793385576792824]
  kernel_rfl
theorem fin_ (w : World) (os : OsState) : topRun treeTable pg w 11 ann 2 (sC0 w os).abs ⟨doneF .next, cE, pos_0, [topFrame posQ]⟩ = some (sF w os) := by
  rewrite [Fast.te14082659384304107361, Fast.te14364793385576792824]
  kernel_rfl
theorem top_ (w : World) (os : OsState) : topRun treeTable pg w 11 ann (12 + (1 + (3189 + 2))) (s0 w os) (topStub pg) = some (sF w os) := by
  refine go_top (pre_ w os) (piece_block (block_ w os) ?_)
  have h := piece_app (segRun_of (run_0 w os)) (piece_nil (fin_ w os))
  rwa [List.append_nil] at h
def qq : Program := { pg with main := { pg.main with body := [st 37] } }
theorem keys_ (P : Params) : keysK = (KK P).map (·.1) := by kernel_rfl
theorem open_ : ∀ w : World, (fencedOpening treeTable pg w 6502).map (fun s => (s.heap, s.gens, s.drawn, s.toks)) = some (boot_heap w.params, Array.mk [], boot_drawn, boot_toks) :=
  boot_open (by kernel_rfl) (by decide) (fun s => by kernel_rfl)
theorem size_ (w : World) : ((boot_heap w.params).isNs mainGlobals && (Array.mk [] : Array GenState).size == 0, (boot_heap w.params).objs.size, (boot_heap w.params).nsMap mainGlobals "__annotations__") = (true, 11, ann) := by kernel_rfl
abbrev rr : RowW := OpenRow.toRowW (OpenLaw.row PySem.Challenge.rw_jughouse_k04_goals)
def Xt (s : Shared) : Bool := xlAt qq [] s && recOk (RowW.records rr) s
theorem look1 (w : World) (os : OsState) : (staticsOk (importedModules pg.main.body) (boot_heap w.params) (hF w.params) && namesBound pg (hF w.params) && gensDone (sF w os) && laidKept (boot_heap w.params) (hF w.params)) = true := by kernel_rfl
theorem look2 (w : World) (os : OsState) : openSeen qq loose (importedModules pg.main.body) Xt true (sF w os) = openGood qq loose := by
  rewrite [Fast.te4187177175401517315]
  kernel_rfl
theorem look3 (w : World) (os : OsState) : Hook.obs (kHook KK keysK keys_) (sF w os) = Hook.val (kHook KK keysK keys_) w := by kernel_rfl
theorem left_ : LeftO pg qq loose Xt (Hook.obs (kHook KK keysK keys_)) (Hook.val (kHook KK keysK keys_)) 6502 :=
  LeftO.of_pieces open_ size_ top_ (by decide) (fun w => funext fun os => looks_pair (look1 w os) (looks_pair (look2 w os) (look3 w os)))
end Hd
end
open PySem PySem.W PyProof.Rows
set_option maxRecDepth 100000 in
set_option maxHeartbeats 0 in
theorem PySem.Challenge.cw_jughouse_k04_goals_holds : PySem.Challenge.rw_jughouse_k04_goals.Holds := by
  w_on; o_law
  refine holds_open (N := 6502)
    (q := Hd.qq) (loose := Hd.loose) (Xt := Hd.Xt)
    (XP := XL Hd.qq []) (YP := Hook.says (kHook Hd.KK Hd.keysK Hd.keys_))
    Hd.left_ (Hook.of (kHook Hd.KK Hd.keysK Hd.keys_)) (Hook.keeps (kHook Hd.KK Hd.keysK Hd.keys_))
    (fun s e => xl_of s (Bool.and_eq_true_iff.mp e).1)
    XL.keeps (by rfl) (by rfl) (by rfl)
    (fun s e => recFacts_of (Bool.and_eq_true_iff.mp e).2)
    (by rfl) (by assumption) (by decide +kernel)
    ⟨rfl, rfl, rfl, rfl, rfl, by decide +kernel⟩ ?hw ?hc
  (case hw => w_witness2)
  k_fill
  refine Jug.walk (l := PySem.Challenge.rw_jughouse_k04_goals) rfl rfl (fun w h Y => PySem.W.kIn_of Y) ?F
  case F =>
    intro w mg fa h KX G hmg
    refine' Jug.all_mk KX G hmg ?z_isinstance ?z_int ?z_bool ?z_tuple ?z_list ?z_len ?z_zip ?z_range ?z_min ?z_str ?z_set ?z_sum ?z_max ?z_MOST_JUGS ?z_MOST_SIZE ?z_MOST_STATES ?z_MOST_AMOUNT ?a_Holds ?pg_Holds ?hd_Holds ?po_Holds ?sa_Holds ?mk_Holds ?kc_Holds ?n_Holds_jug ?n_Holds_many ?ha_Holds ?hm_Holds ?a_Some ?pg_Some ?hd_Some ?po_Some ?sa_Some ?mk_Some ?kc_Some ?n_Some_many ?ha_Some ?hm_Some ?a_Sum ?pg_Sum ?hd_Sum ?po_Sum ?sa_Sum ?mk_Sum ?kc_Sum ?n_Sum_jugs ?n_Sum_many ?ha_Sum ?hm_Sum ?a_Whole ?pg_Whole ?hd_Whole ?po_Whole ?sa_Whole ?mk_Whole ?kc_Whole ?n_Whole_state ?ha_Whole ?hm_Whole ?a_House ?pg_House ?hd_House ?po_House ?sa_House ?mk_House ?kc_House ?n_House_jug_sizes ?n_House_tap ?a_Goal ?pg_Goal ?hd_Goal ?po_Goal ?sa_Goal ?hn ?htk ?k_Holds_Some ?k_Holds_Sum ?k_Holds_Whole ?k_Some_Holds ?k_Some_Sum ?k_Some_Whole ?k_Sum_Holds ?k_Sum_Some ?k_Sum_Whole ?k_Whole_Holds ?k_Whole_Some ?k_Whole_Sum ?k_Holds_Goal ?k_Some_Goal ?k_Sum_Goal ?k_Whole_Goal ?a_is_number ?l_is_number ?c_is_number ?kp_is_number ?a_is_jug ?l_is_jug ?c_is_jug ?kp_is_jug ?a_sizes_House ?i_sizes ?l_sizes ?c_sizes ?kp_sizes ?a_held_in ?l_held_in ?c_held_in ?kp_held_in ?a_check_jug ?l_check_jug ?c_check_jug ?kp_check_jug ?a_check_amount ?l_check_amount ?c_check_amount ?kp_check_amount ?a_jugs_in ?l_jugs_in ?c_jugs_in ?kp_jugs_in ?a_amounts_in ?l_amounts_in ?c_amounts_in ?kp_amounts_in ?a_check_house_has ?l_check_house_has ?c_check_house_has ?kp_check_house_has ?a_check_state_of ?l_check_state_of ?c_check_state_of ?kp_check_state_of ?a_Oi_Holds ?i_Oi ?l_Oi ?c_Oi ?kp_Oi ?a_Si_Some ?i_Si ?l_Si ?c_Si ?kp_Si ?a_Ui_Sum ?i_Ui ?l_Ui ?c_Ui ?kp_Ui ?a_Wi_Whole ?i_Wi ?l_Wi ?c_Wi ?kp_Wi ?a_Om_Holds ?i_Om ?l_Om ?c_Om ?kp_Om ?a_Sm_Some ?i_Sm ?l_Sm ?c_Sm ?kp_Sm ?a_Um_Sum ?i_Um ?l_Um ?c_Um ?kp_Um ?a_Wm_Whole ?i_Wm ?l_Wm ?c_Wm ?kp_Wm ?a_come_Holds ?a_come_Some ?a_come_Sum ?a_come_Whole ?i_come ?l_come ?c_come ?kp_come ?a_count_states ?l_count_states ?c_count_states ?kp_count_states ?a_sizes_in ?l_sizes_in ?c_sizes_in ?kp_sizes_in ?a_Hi_House ?i_Hi ?l_Hi ?c_Hi ?kp_Hi ?a_cell_at ?l_cell_at ?c_cell_at ?kp_cell_at ?a_draw ?l_draw ?c_draw ?kp_draw ?a_lsizes ?l_lsizes ?c_lsizes ?kp_lsizes ?a_lstate ?l_lstate ?c_lstate ?kp_lstate ?a_lsorts ?l_lsorts ?c_lsorts ?kp_lsorts ?a_lright ?l_lright ?c_lright ?kp_lright ?a_law ?l_law ?c_law ?kp_law
    (case z_isinstance => k_is)
    (case z_int => k_is)
    (case z_bool => k_is)
    (case z_tuple => k_is)
    (case z_list => k_is)
    (case z_len => k_is)
    (case z_zip => k_is)
    (case z_range => k_is)
    (case z_min => k_is)
    (case z_str => k_is)
    (case z_set => k_is)
    (case z_sum => k_is)
    (case z_max => k_is)
    (case z_MOST_JUGS => k_is)
    (case z_MOST_SIZE => k_is)
    (case z_MOST_STATES => k_is)
    (case z_MOST_AMOUNT => k_is)
    (case a_Holds => k_is)
    (case pg_Holds => k_is)
    (case hd_Holds => k_is)
    (case po_Holds => k_is)
    (case sa_Holds => k_is)
    (case mk_Holds => k_is)
    (case kc_Holds => k_is)
    (case n_Holds_jug => k_is)
    (case n_Holds_many => k_is)
    (case ha_Holds => k_is)
    (case hm_Holds => k_is)
    (case a_Some => k_is)
    (case pg_Some => k_is)
    (case hd_Some => k_is)
    (case po_Some => k_is)
    (case sa_Some => k_is)
    (case mk_Some => k_is)
    (case kc_Some => k_is)
    (case n_Some_many => k_is)
    (case ha_Some => k_is)
    (case hm_Some => k_is)
    (case a_Sum => k_is)
    (case pg_Sum => k_is)
    (case hd_Sum => k_is)
    (case po_Sum => k_is)
    (case sa_Sum => k_is)
    (case mk_Sum => k_is)
    (case kc_Sum => k_is)
    (case n_Sum_jugs => k_is)
    (case n_Sum_many => k_is)
    (case ha_Sum => k_is)
    (case hm_Sum => k_is)
    (case a_Whole => k_is)
    (case pg_Whole => k_is)
    (case hd_Whole => k_is)
    (case po_Whole => k_is)
    (case sa_Whole => k_is)
    (case mk_Whole => k_is)
    (case kc_Whole => k_is)
    (case n_Whole_state => k_is)
    (case ha_Whole => k_is)
    (case hm_Whole => k_is)
    (case a_House => k_is)
    (case pg_House => k_is)
    (case hd_House => k_is)
    (case po_House => k_is)
    (case sa_House => k_is)
    (case mk_House => k_is)
    (case kc_House => k_is)
    (case n_House_jug_sizes => k_is)
    (case n_House_tap => k_is)
    (case a_Goal => k_is)
    (case pg_Goal => k_is)
    (case hd_Goal => k_is)
    (case po_Goal => k_is)
    (case sa_Goal => k_is)
    (case hn => k_is)
    (case htk => k_is)
    (case k_Holds_Some => kit_is)
    (case k_Holds_Sum => kit_is)
    (case k_Holds_Whole => kit_is)
    (case k_Some_Holds => kit_is)
    (case k_Some_Sum => kit_is)
    (case k_Some_Whole => kit_is)
    (case k_Sum_Holds => kit_is)
    (case k_Sum_Some => kit_is)
    (case k_Sum_Whole => kit_is)
    (case k_Whole_Holds => kit_is)
    (case k_Whole_Some => kit_is)
    (case k_Whole_Sum => kit_is)
    (case k_Holds_Goal => kit_is)
    (case k_Some_Goal => kit_is)
    (case k_Sum_Goal => kit_is)
    (case k_Whole_Goal => kit_is)
    (case a_is_number => k_is)
    (case l_is_number => k_is)
    (case c_is_number => k_is)
    (case kp_is_number => k_is)
    (case a_is_jug => k_is)
    (case l_is_jug => k_is)
    (case c_is_jug => k_is)
    (case kp_is_jug => k_is)
    (case a_sizes_House => k_is)
    (case i_sizes => k_is)
    (case l_sizes => k_is)
    (case c_sizes => k_is)
    (case kp_sizes => k_is)
    (case a_held_in => k_is)
    (case l_held_in => k_is)
    (case c_held_in => k_is)
    (case kp_held_in => k_is)
    (case a_check_jug => k_is)
    (case l_check_jug => k_is)
    (case c_check_jug => k_is)
    (case kp_check_jug => k_is)
    (case a_check_amount => k_is)
    (case l_check_amount => k_is)
    (case c_check_amount => k_is)
    (case kp_check_amount => k_is)
    (case a_jugs_in => k_is)
    (case l_jugs_in => k_is)
    (case c_jugs_in => k_is)
    (case kp_jugs_in => k_is)
    (case a_amounts_in => k_is)
    (case l_amounts_in => k_is)
    (case c_amounts_in => k_is)
    (case kp_amounts_in => k_is)
    (case a_check_house_has => k_is)
    (case l_check_house_has => k_is)
    (case c_check_house_has => k_is)
    (case kp_check_house_has => k_is)
    (case a_check_state_of => k_is)
    (case l_check_state_of => k_is)
    (case c_check_state_of => k_is)
    (case kp_check_state_of => k_is)
    (case a_Oi_Holds => k_is)
    (case i_Oi => k_is)
    (case l_Oi => k_is)
    (case c_Oi => k_is)
    (case kp_Oi => k_is)
    (case a_Si_Some => k_is)
    (case i_Si => k_is)
    (case l_Si => k_is)
    (case c_Si => k_is)
    (case kp_Si => k_is)
    (case a_Ui_Sum => k_is)
    (case i_Ui => k_is)
    (case l_Ui => k_is)
    (case c_Ui => k_is)
    (case kp_Ui => k_is)
    (case a_Wi_Whole => k_is)
    (case i_Wi => k_is)
    (case l_Wi => k_is)
    (case c_Wi => k_is)
    (case kp_Wi => k_is)
    (case a_Om_Holds => k_is)
    (case i_Om => k_is)
    (case l_Om => k_is)
    (case c_Om => k_is)
    (case kp_Om => k_is)
    (case a_Sm_Some => k_is)
    (case i_Sm => k_is)
    (case l_Sm => k_is)
    (case c_Sm => k_is)
    (case kp_Sm => k_is)
    (case a_Um_Sum => k_is)
    (case i_Um => k_is)
    (case l_Um => k_is)
    (case c_Um => k_is)
    (case kp_Um => k_is)
    (case a_Wm_Whole => k_is)
    (case i_Wm => k_is)
    (case l_Wm => k_is)
    (case c_Wm => k_is)
    (case kp_Wm => k_is)
    (case a_come_Holds => k_is)
    (case a_come_Some => k_is)
    (case a_come_Sum => k_is)
    (case a_come_Whole => k_is)
    (case i_come => k_is)
    (case l_come => k_is)
    (case c_come => k_is)
    (case kp_come => k_is)
    (case a_count_states => k_is)
    (case l_count_states => k_is)
    (case c_count_states => k_is)
    (case kp_count_states => k_is)
    (case a_sizes_in => k_is)
    (case l_sizes_in => k_is)
    (case c_sizes_in => k_is)
    (case kp_sizes_in => k_is)
    (case a_Hi_House => k_is)
    (case i_Hi => k_is)
    (case l_Hi => k_is)
    (case c_Hi => k_is)
    (case kp_Hi => k_is)
    (case a_cell_at => k_is)
    (case l_cell_at => k_is)
    (case c_cell_at => k_is)
    (case kp_cell_at => k_is)
    (case a_draw => k_is)
    (case l_draw => k_is)
    (case c_draw => k_is)
    (case kp_draw => k_is)
    (case a_lsizes => k_is)
    (case l_lsizes => k_is)
    (case c_lsizes => k_is)
    (case kp_lsizes => k_is)
    (case a_lstate => k_is)
    (case l_lstate => k_is)
    (case c_lstate => k_is)
    (case kp_lstate => k_is)
    (case a_lsorts => k_is)
    (case l_lsorts => k_is)
    (case c_lsorts => k_is)
    (case kp_lsorts => k_is)
    (case a_lright => k_is)
    (case l_lright => k_is)
    (case c_lright => k_is)
    (case kp_lright => k_is)
    (case a_law => k_is)
    (case l_law => k_is)
    (case c_law => k_is)
    (case kp_law => k_is)

