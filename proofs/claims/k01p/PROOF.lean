import PyProof.Rows.All
import Wide.All
import OpenK.AllK
import Wide.FinOn
import Lean
import PyProof.EqAt
import PyProof.EqKinds
import PyProof.TupleCall
import PyProof.NeKinds
import PyProof.Rows.ZipGen
import KE.KIntText
import PyProof.ListRange
import KE.LcSums
import PyProof.Rows.SetFrom
import PyProof.SetRoads
import PySem.Challenge.RW_jughouse_k01_moves
set_option Elab.async false
set_option linter.all false
set_option maxRecDepth 100000
/-! THE HAND LAYER, for ints, bools, texts, own classes, LISTS and tuples (index, slices, in, append, pop ..), calls, loops. Paste it whole ahead of your own text; what your proof does not reach may be deleted. -/
namespace L2
open PySem PySem.Spec PyProof.Rows

/-- a key: an int or a str -/
abbrev Key := Sum Int Str
def keyIs : Key → Value → Bool
  | .inl k, v => Value.isInt k v
  | .inr x, v => Value.isStrOf x v
def keyH (w : World) : Key → Int
  | .inl k => hashInt k
  | .inr x => hashStr w x
theorem keyIs_shape : ∀ {k : Key} {v : Value}, keyIs k v = true → (∃ i t, k = Sum.inl i ∧ v = Value.int i t) ∨ (∃ x t, k = Sum.inr x ∧ v = Value.str x t)
  | .inl i, v, h => by
    obtain ⟨t, e⟩ := Value.isInt_shape (k := i) (v := v) h
    exact .inl ⟨i, t, rfl, e⟩
  | .inr x, v, h => by
    obtain ⟨t, e⟩ := Value.isStrOf_shape (x := x) (v := v) h
    exact .inr ⟨x, t, rfl, e⟩
theorem key_ll (a b : Int) : decide ((Sum.inl a : Key) = Sum.inl b) = (a == b) := by
  by_cases e : a = b
  · subst e; simp
  · have h : ¬ (Sum.inl a : Key) = Sum.inl b := fun q => e (Sum.inl.inj q)
    rw [decide_eq_false h]
    exact (beq_eq_false_iff_ne.mpr e).symm
theorem key_rr (a b : Str) : decide ((Sum.inr a : Key) = Sum.inr b) = decide (a = b) := by
  by_cases e : a = b
  · subst e; simp
  · have h : ¬ (Sum.inr a : Key) = Sum.inr b := fun q => e (Sum.inr.inj q)
    rw [decide_eq_false h, decide_eq_false e]
theorem key_lr (a : Int) (b : Str) : decide ((Sum.inl a : Key) = Sum.inr b) = false := decide_eq_false (fun q => nomatch q)
theorem key_rl (a : Str) (b : Int) : decide ((Sum.inr a : Key) = Sum.inl b) = false := decide_eq_false (fun q => nomatch q)

def mixKind (prog : Program) (w : World) : PySem.KeyKind prog w Key where
  is := keyIs
  hash := keyH w
  inj := fun v a b ha hb => by
    rcases keyIs_shape ha with ⟨i, t, rfl, rfl⟩ | ⟨x, t, rfl, rfl⟩
    · rcases keyIs_shape hb with ⟨j, u, rfl, e⟩ | ⟨y, u, rfl, e⟩
      · injection e with e1 _; rw [e1]
      · exact nomatch e
    · rcases keyIs_shape hb with ⟨j, u, rfl, e⟩ | ⟨y, u, rfl, e⟩
      · exact nomatch e
      · injection e with e1 _; rw [e1]
  byValue := fun k v h => by
    rcases keyIs_shape h with ⟨i, t, rfl, rfl⟩ | ⟨x, t, rfl, rfl⟩ <;> rfl
  pyHash := fun hv h => by
    rcases keyIs_shape hv with ⟨i, t, rfl, rfl⟩ | ⟨x, t, rfl, rfl⟩
    · exact wpAny_pyHash_int h
    · exact wpAny_pyHash_str h
  eqBool := fun hu hv h => by
    rcases keyIs_shape hu with ⟨i, t, rfl, rfl⟩ | ⟨x, t, rfl, rfl⟩
    · rcases keyIs_shape hv with ⟨j, u, rfl, rfl⟩ | ⟨y, u, rfl, rfl⟩
      · rw [key_ll] at h; exact wpAny_eqBool_int h
      · rw [key_lr] at h; exact SeqAt.EqAt.int_str i t y u _ _ _ _ h
    · rcases keyIs_shape hv with ⟨j, u, rfl, rfl⟩ | ⟨y, u, rfl, rfl⟩
      · rw [key_rl] at h; exact SeqAt.EqAt.str_int x t j u _ _ _ _ h
      · rw [key_rr] at h; exact wpAny_eqBool_str h
  «strs» := fun k x t v h => by
    rcases keyIs_shape h with ⟨i, u, rfl, e⟩ | ⟨y, u, rfl, e⟩
    · exact nomatch e
    · injection e with e1 _
      subst e1
      cases v <;> rfl

end L2

namespace L2
open PySem PySem.Spec PyProof.Rows

/-- a value, without the heap -/
inductive V where
  | non | bl (b : Bool) | int (i : Int) | str (x : Str) | byt (b : Array UInt8) | flt (b : UInt64) | ref (a : Addr) | ty (n : String)
  deriving DecidableEq

def RelV : V → Value → Prop
  | .non, u => u = Value.none
  | .bl b, u => u = Value.bool b
  | .int i, u => ∃ t, u = Value.int i t
  | .str x, u => ∃ t, u = Value.str x t
  | .byt b, u => ∃ t, u = Value.bytes b t
  | .flt b, u => ∃ t, u = Value.float b t
  | .ref a, u => u = Value.ref a
  | .ty n, u => u = Value.type n

abbrev Vals : List V → List Value → Prop := Paired RelV
theorem Vals.length {xs : List V} {us : List Value} (r : Vals xs us) : xs.length = us.length := Paired.length r
theorem Vals.get : ∀ {xs : List V} {us : List Value} {i : Nat} {x : V}, Vals xs us → xs[i]? = some x → ∃ u, us[i]? = some u ∧ RelV x u
  | _, _, _, _, .nil, e => by simp at e
  | _, _, 0, _, .cons r _, e => by simp at e; subst e; exact ⟨_, rfl, r⟩
  | _, _, i + 1, x, .cons _ t, e => by
    obtain ⟨u, h1, h2⟩ := Vals.get (i := i) (x := x) t (by simpa using e)
    exact ⟨u, by simpa using h1, h2⟩
theorem Vals.set {x : V} {u : Value} (r : RelV x u) : ∀ {xs : List V} {us : List Value} (i : Nat), Vals xs us → Vals (xs.set i x) (us.set i u)
  | _, _, _, .nil => .nil
  | _, _, 0, .cons _ t => .cons r t
  | _, _, i + 1, .cons q t => .cons q (Vals.set r i t)
theorem Vals.append : ∀ {xs ys : List V} {us ws : List Value}, Vals xs us → Vals ys ws → Vals (xs ++ ys) (us ++ ws)
  | _, _, _, _, .nil, s => s
  | _, _, _, _, .cons r t, s => .cons r (Vals.append t s)

def RelO : Option V → Option Value → Prop
  | some v, some u => RelV v u
  | none, none => True
  | _, _ => False
def KV {κ : Type} : List (κ × V) → List (κ × Value) → Prop := Paired fun (p : κ × V) (q : κ × Value) => p.1 = q.1 ∧ RelV p.2 q.2

/-- a key of a dict (00_mix): an int or a text -/
def kV : Key → V
  | .inl i => .int i
  | .inr x => .str x

/-- what stands at a tracked address -/
inductive HO where
  /-- a list -/
  | lst (xs : List V)
  /-- a tuple (never changes) -/
  | tup (xs : List V)
  /-- a dict whose keys are ints and texts; one whose keys are tuples of ints and texts (the empty one is both) -/
  | dK (kvs : List (Key × V)) | dT (kvs : List (List Key × V))
  /-- a set of ints: its members, its size -/
  | set (S : Int → Bool) (n : Nat)
  /-- an instance of the class at C, its dict at dx, its attributes -/
  | ins (C dx : Addr) (fs : List (Str × V))
  /-- the dict of the instance at x -/
  | own (x : Addr)
  /-- the dict of an exception -/
  | xd (fs : List (Str × V))
  /-- a bound method, f of x -/
  | met (f x : Addr)
  /-- a range object lo, lo + 1, .. below hi -/
  | rng (lo hi : Int)
  /-- a thing that is known to the object (the script; a dict while a loop walks it): read, never written while it is so -/
  | frz (o : Obj) (u : HO)
  /-- a code object's table -/
  | tbl (ps : Array Value)
  /-- any other thing, by what is true of its one object (a def of one's own: SetO a S n := HO.ext fun h => ..) -/
  | ext (φ : Heap → Prop)

abbrev Hp := Addr → Option HO
def upd (H : Hp) (a : Addr) (o : HO) : Hp := fun b => if b = a then some o else H b
theorem upd_same {H : Hp} {a : Addr} {o : HO} : upd H a o a = some o := by unfold upd; rw [if_pos rfl]
theorem upd_ne {H : Hp} {a b : Addr} {o : HO} (h : b ≠ a) : upd H a o b = H b := by unfold upd; rw [if_neg h]
theorem ne_of_none {H : Hp} {a b : Addr} {o : HO} (h : H a = some o) (h' : H b = none) : a ≠ b := by
  intro e; subst e; rw [h] at h'; cases h'

section
variable (P : Program) (w : World)
def ObjOk (H : Hp) (h : Heap) (a : Addr) : HO → Prop
  | .lst xs => xs.length ≤ sizeLine ∧ ∃ (its : List Value) (n : Nat), Vals xs its ∧ h.get? a = some { cls := .type "list", data := .seq its.toArray n }
  | .tup xs => xs.length ≤ sizeLine ∧ ∃ its : List Value, Vals xs its ∧ IsTup h a its.toArray
  | .dK kvs => kvs.length ≤ sizeLine ∧ (a == sysModules) = false ∧ ∃ vs, KV kvs vs ∧ h.DictOf (mixKind P w) a vs
  | .dT kvs => kvs.length ≤ sizeLine ∧ (a == sysModules) = false ∧ ∃ xs : List (List Key × Addr × Value),
      Paired (fun (p : List Key × V) (q : List Key × Addr × Value) => p.1 = q.1 ∧ H q.2.1 = some (.tup (p.1.map kV)) ∧ RelV p.2 q.2.2) kvs xs ∧
      ∃ o es ep, h.get? a = some o ∧ o.ExactDict ∧ o.data = .dict es ep ∧ es.toList = xs.map (entryOfKey (tupleKind (mixKind P w))) ∧ (xs.map (·.1)).Nodup
  | .set S n => h.SetOf (intKind P w) a S n
  | .ins C dx fs => H dx = some (.own a) ∧ fs.length ≤ 1000 ∧ dx ≠ a ∧ h.get? a = some (PySem.W.instObj C dx) ∧
      ∃ mA, h.Ns1 dx mA ∧ (∀ f, RelO (fs.lookup f) (mA f)) ∧ PySem.Within mA (fs.map (·.1))
  | .own _ => ∃ o, h.get? a = some o
  | .xd fs => ∃ mA, h.Ns1 a mA ∧ ∀ f, RelO (fs.lookup f) (mA f)
  | .rng lo hi => ∃ t u v, h.get? a = some { cls := .type "range", data := .fields #[.int lo t, .int hi u, .int 1 v] }
  | .frz o u => h.get? a = some o ∧ ObjOk H h a u
  | .tbl ps => h.get? a = some { cls := .none, data := .fields ps }
  | .met f x => h.get? a = some (PySem.W.methodObj (.ref f) (.ref x))
  | .ext φ => φ h ∧ (∃ o, h.get? a = some o) ∧ ∀ h1 h2 : Heap, φ h1 → (∀ o, h1.get? a = some o → h2.get? a = some o) → φ h2
/-- the abstract heap is held -/
def HOk (H : Hp) (h : Heap) : Prop := ∀ a o, H a = some o → ObjOk P w H h a o
end

section
variable {P : Program} {w : World} {H H' : Hp} {h h' : Heap} {a : Addr} {o : HO}
theorem ObjOk.lt (x : ObjOk P w H h a o) : a < h.objs.size := by
  cases o with
  | lst xs => obtain ⟨_, _, _, _, e⟩ := x; exact Heap.lt_size e
  | tup xs => obtain ⟨_, _, _, p⟩ := x; exact p.lt
  | dK kvs => obtain ⟨_, _, _, _, o, _, _, e, _⟩ := x; exact Heap.lt_size e
  | dT kvs => obtain ⟨_, _, _, _, o, _, _, e, _⟩ := x; exact Heap.lt_size e
  | set S n => obtain ⟨o, _, _, _, e, _⟩ := x; exact Heap.lt_size e
  | ins C dx fs => obtain ⟨_, _, _, e, _⟩ := x; exact Heap.lt_size e
  | own y => obtain ⟨_, e⟩ := x; exact Heap.lt_size e
  | xd fs => obtain ⟨_, ⟨_, _, _, e, _⟩, _⟩ := x; exact Heap.lt_size e
  | rng lo hi => obtain ⟨_, _, _, e⟩ := x; exact Heap.lt_size e
  | frz ob u => obtain ⟨e, _⟩ := x; exact Heap.lt_size e
  | tbl ps => exact Heap.lt_size (show h.get? a = some _ from x)
  | met f y => exact Heap.lt_size (show h.get? a = some _ from x)
  | ext φ => obtain ⟨_, ⟨_, e⟩, _⟩ := x; exact Heap.lt_size e
theorem Paired.mapP {α β : Type} {F G : α → β → Prop} : ∀ {l₁ : List α} {l₂ : List β}, Paired F l₁ l₂ → (∀ a b, F a b → G a b) → Paired G l₁ l₂
  | _, _, .nil, _ => .nil
  | _, _, .cons r t, f => .cons (f _ _ r) (Paired.mapP t f)
/-- what an object's description leans on: its own object, its own dict, the tuples -/
theorem ObjOk.stay (x : ObjOk P w H h a o) (k : ∀ b u, (b = a ∨ H b = some (.own a)) → h.get? b = some u → h'.get? b = some u)
    (ho : ∀ b, H b = some (.own a) → H' b = some (.own a)) (ht : ∀ b xs, H b = some (.tup xs) → H' b = some (.tup xs)) : ObjOk P w H' h' a o := by
  induction o with
  | lst xs => obtain ⟨z, its, n, r, e⟩ := x; exact ⟨z, its, n, r, k _ _ (.inl rfl) e⟩
  | tup xs => obtain ⟨z, its, r, ob, e, c⟩ := x; exact ⟨z, its, r, ob, k _ _ (.inl rfl) e, c⟩
  | dK kvs => obtain ⟨z, y, vs, r, ob, es, ep, e, c⟩ := x; exact ⟨z, y, vs, r, ob, es, ep, k _ _ (.inl rfl) e, c⟩
  | dT kvs =>
    obtain ⟨z, y, xs, r, ob, es, ep, e, c⟩ := x
    exact ⟨z, y, xs, Paired.mapP r fun p q z => ⟨z.1, ht _ _ z.2.1, z.2.2⟩, ob, es, ep, k _ _ (.inl rfl) e, c⟩
  | set S n => obtain ⟨ob, es, ep, t, e, c⟩ := x; exact ⟨ob, es, ep, t, k _ _ (.inl rfl) e, c⟩
  | ins C dx fs =>
    obtain ⟨d, z, ne, e, mA, ⟨od, es, ep, e2, c⟩, r⟩ := x
    exact ⟨ho _ d, z, ne, k _ _ (.inl rfl) e, mA, ⟨od, es, ep, k _ _ (.inr d) e2, c⟩, r⟩
  | own y => obtain ⟨ob, e⟩ := x; exact ⟨ob, k _ _ (.inl rfl) e⟩
  | xd fs => obtain ⟨mA, ⟨od, es, ep, e, c⟩, r⟩ := x; exact ⟨mA, ⟨od, es, ep, k _ _ (.inl rfl) e, c⟩, r⟩
  | rng lo hi => obtain ⟨t, u, v, e⟩ := x; exact ⟨t, u, v, k _ _ (.inl rfl) e⟩
  | frz ob u ih => obtain ⟨e, q⟩ := x; exact ⟨k _ _ (.inl rfl) e, ih q⟩
  | tbl ps =>
    have e : h.get? a = some { cls := .none, data := .fields ps } := x
    show h'.get? a = some { cls := .none, data := .fields ps }
    exact k a _ (.inl rfl) e
  | met f y =>
    have e : h.get? a = some (PySem.W.methodObj (.ref f) (.ref y)) := x
    show h'.get? a = some (PySem.W.methodObj (.ref f) (.ref y))
    exact k a _ (.inl rfl) e
  | ext φ => obtain ⟨p, ⟨o, e⟩, st⟩ := x; exact ⟨st _ _ p fun o q => k _ _ (.inl rfl) q, ⟨o, k _ _ (.inl rfl) e⟩, st⟩
theorem HOk.lt (x : HOk P w H h) (e : H a = some o) : a < h.objs.size := (x a o e).lt
theorem HOk.fresh (x : HOk P w H h) (e : h.objs.size ≤ a) : H a = none := by
  cases q : H a with
  | none => rfl
  | some u => exact absurd (Nat.lt_of_lt_of_le (x.lt q) e) (Nat.lt_irrefl _)
/-- every object of the heap is kept -/
theorem HOk.kept (x : HOk P w H h) (k : ∀ b u, h.get? b = some u → h'.get? b = some u) : HOk P w H h' := fun a o e =>
  (x a o e).stay (fun b u _ q => k b u q) (fun _ q => q) fun _ _ q => q
/-- a new object is laid and tracked -/
theorem HOk.laid (x : HOk P w H h) (k : ∀ b u, h.get? b = some u → h'.get? b = some u) (hp : h.objs.size ≤ a) (new : ObjOk P w (upd H a o) h' a o) : HOk P w (upd H a o) h' := fun b u e => by
  have hn := x.fresh hp
  by_cases hb : b = a
  · subst hb; rw [upd_same] at e; cases e; exact new
  · rw [upd_ne hb] at e
    exact (x b u e).stay (fun c v _ q => k c v q) (fun c q => by rw [upd_ne (ne_of_none q hn)]; exact q) fun c xs q => by rw [upd_ne (ne_of_none q hn)]; exact q
end

/-- what may be read as u: it is u, or a known u -/
def Rd (H : Hp) (a : Addr) (u : HO) : Prop := H a = some u ∨ ∃ o, H a = some (.frz o u)
theorem Rd.ok {P : Program} {w : World} {H : Hp} {h : Heap} {a : Addr} {u : HO} (r : Rd H a u) (x : HOk P w H h) : ObjOk P w H h a u := by
  rcases r with r | ⟨o, r⟩
  · exact x a u r
  · obtain ⟨_, q⟩ := x a _ r
    exact q
/-- what may be written -/
def Mut : Option HO → Prop
  | some (.lst _) => True
  | some (.dK _) => True
  | some (.dT _) => True
  | some (.set _ _) => True
  | some (.ins _ _ _) => True
  | some (.ext _) => True
  | _ => False
section
variable {P : Program} {w : World} {H : Hp} {h h' : Heap} {x e : Addr} {o' : HO}
/-- the object at e is changed: x itself, or the dict of the instance x -/
theorem HOk.write (ok : HOk P w H h) (mu : Mut (H x)) (he : e = x ∨ H e = some (.own x)) (k : ∀ b u, b ≠ e → h.get? b = some u → h'.get? b = some u) (heo : ∃ u, h'.get? e = some u)
    (new : ObjOk P w (upd H x o') h' x o') : HOk P w (upd H x o') h' := fun b u q => by
  have nown : ∀ c y, H c = some (.own y) → c ≠ x := fun c y r z => by subst z; rw [r] at mu; exact mu
  have ntup : ∀ c xs, H c = some (.tup xs) → c ≠ x := fun c xs r z => by subst z; rw [r] at mu; exact mu
  by_cases hb : b = x
  · subst hb; rw [upd_same] at q; cases q; exact new
  · rw [upd_ne hb] at q
    by_cases hbe : b = e
    · have q' : H b = some (.own x) := by
        rcases he with z | z
        · exact absurd (hbe.trans z) hb
        · rw [hbe]; exact z
      rw [q] at q'; cases q'
      obtain ⟨v, hv⟩ := heo
      exact ⟨v, by rw [hbe]; exact hv⟩
    · refine (ok b u q).stay (fun c v hc r => k c v ?_ r) (fun c r => by rw [upd_ne (nown c b r)]; exact r) fun c xs r => by rw [upd_ne (ntup c xs r)]; exact r
      rcases hc with rfl | hc
      · exact hbe
      · rintro rfl
        rcases he with z | z
        · exact nown c b hc z
        · rw [hc] at z; cases z; exact hb rfl
end

/-! ### kept unless tracked; of the frames at fs (the callers') the slots may change (an exception that passes writes there); of the records at ex (iterators) nothing is said -/
structure Un (fs ex : List Addr) (H H' : Hp) (h h' : Heap) : Prop where
  keep : ∀ b o, h.get? b = some o → H b = none → b ∉ fs → b ∉ ex → h'.get? b = some o
  slot : ∀ b o, h.get? b = some o → H b = none → b ∈ fs → b ∉ ex → ∃ sl, h'.get? b = some { o with slots := sl }
  free : ∀ b o, h.get? b = some o → H b = none → b ∉ ex → H' b = none
  there : ∀ b o, h.get? b = some o → b ∉ ex → ∃ o', h'.get? b = some o'
  tups : ∀ b xs, H b = some (.tup xs) → H' b = some (.tup xs)
  frzs : ∀ b o u, H b = some (.frz o u) → H' b = some (.frz o u)
  tbls : ∀ b ps, H b = some (.tbl ps) → ∃ more, H' b = some (.tbl (ps ++ more))
section
variable {fs fs' ex ex' : List Addr} {H H1 H2 : Hp} {h h1 h2 h' : Heap} {a x e : Addr} {o : HO}
theorem Un.any (u : Un fs ex H H1 h h1) {b : Addr} {ob : Obj} (q : h.get? b = some ob) (n : H b = none) (hx : b ∉ ex) : ∃ sl, h1.get? b = some { ob with slots := sl } := by
  by_cases hb : b ∈ fs
  · exact u.slot b ob q n hb hx
  · exact ⟨ob.slots, u.keep b ob q n hb hx⟩
theorem Un.kept (k : ∀ b u, h.get? b = some u → h'.get? b = some u) : Un fs ex H H h h' :=
  ⟨fun b ob q _ _ _ => k b ob q, fun b ob q _ _ _ => ⟨ob.slots, k b ob q⟩, fun _ _ _ n _ => n, fun b ob q _ => ⟨ob, k b ob q⟩, fun _ _ q => q, fun _ _ _ q => q, fun _ ps q => ⟨#[], by rw [q]; simp⟩⟩
theorem Un.refl : Un fs ex H H h h := Un.kept fun _ _ q => q
theorem Un.laid (k : ∀ b u, h.get? b = some u → h'.get? b = some u) (hp : h.objs.size ≤ a) (hn : H a = none) : Un fs ex H (upd H a o) h h' where
  keep := fun b u q _ _ _ => k b u q
  slot := fun b u q _ _ _ => ⟨u.slots, k b u q⟩
  free := fun b u q n _ => by rw [upd_ne (Nat.ne_of_lt (Nat.lt_of_lt_of_le (Heap.lt_size q) hp))]; exact n
  there := fun b u q _ => ⟨u, k b u q⟩
  tups := fun b xs q => by rw [upd_ne (ne_of_none q hn)]; exact q
  frzs := fun b u xs q => by rw [upd_ne (ne_of_none q hn)]; exact q
  tbls := fun b ps q => ⟨#[], by rw [upd_ne (ne_of_none q hn), q]; simp⟩
theorem Un.write (mu : Mut (H x)) (he : e = x ∨ H e = some (.own x)) (k : ∀ b u, b ≠ e → h.get? b = some u → h'.get? b = some u) (heo : ∃ u, h'.get? e = some u) : Un fs ex H (upd H x o) h h' := by
  have hx : ∀ b, H b = none → b ≠ x := fun b n z => by subst z; rw [n] at mu; exact mu
  have hb : ∀ b, H b = none → b ≠ e := fun b n z => by
    subst z
    rcases he with r | r
    · exact hx b n r
    · rw [n] at r; cases r
  have hm : ∀ b u, H b = some u → ¬ Mut (some u) → b ≠ x := fun b u q nm z => by subst z; rw [q] at mu; exact nm mu
  refine ⟨fun b u q n _ _ => k b u (hb b n) q, fun b u q n _ _ => ⟨u.slots, k b u (hb b n) q⟩, fun b u q n _ => by rw [upd_ne (hx b n)]; exact n, fun b u q _ => ?_,
    fun b xs q => by rw [upd_ne (hm b _ q fun z => z)]; exact q, fun b u xs q => by rw [upd_ne (hm b _ q fun z => z)]; exact q, fun b ps q => ⟨#[], by rw [upd_ne (hm b _ q fun z => z), q]; simp⟩⟩
  by_cases hbe : b = e
  · subst hbe; exact heo
  · exact ⟨u, k b u hbe q⟩
end

/-! ### the heap without what is tracked -/
def trk (h : Heap) (H : Hp) : List Addr := (List.range h.objs.size).filter fun a => (H a).isSome
def hidT (h : Heap) (H : Hp) : Heap := PySem.W.hideAll h (trk h H)
theorem hidT_size (h : Heap) (H : Hp) : (hidT h H).objs.size = h.objs.size := PySem.W.hideAll_size _ _
theorem hidT_get {h : Heap} {H : Hp} {b : Addr} {o : Obj} (e : h.get? b = some o) (n : H b = none) : (hidT h H).get? b = some o :=
  PySem.W.hideAll_get _ e fun hm => by
    have q : (H b).isSome = true := (List.mem_filter.mp hm).2
    rw [n] at q; simp at q
theorem of_hidT {h : Heap} {H : Hp} {b : Addr} {o : Obj} (e : (hidT h H).get? b = some o) : h.get? b = some o ∧ H b = none := by
  have e' : h.get? b = some o := PySem.W.of_hideAll (trk h H) e
  refine ⟨e', ?_⟩
  cases q : H b with
  | none => rfl
  | some x =>
    have hm : b ∈ trk h H := List.mem_filter.mpr ⟨List.mem_range.mpr (Heap.lt_size e'), by simp [q]⟩
    have z : (hidT h H).get? b = none := PySem.W.hideAll_none (trk h H) hm
    rw [z] at e; cases e

/-! ### OpenK's ledger, filled with every new object but one -/
end L2

namespace L2
open PySem PySem.Spec PyProof.Rows

/-- the module's facts, over the base: the heap at the law's entry without what is tracked there -/
structure Mod (K : PySem.W.Frag) (mg : Str → Option Value) (base : Heap) : Prop where
  kin : K.In base
  glob : base.Ns mainGlobals mg
  blt : ∃ mb, base.Ns builtinsNs mb ∧ ∀ x : Str, x ≠ "__name__" → mb x = bootBuiltins x
  nolimit : base.NoLimit

/-- the context: a def's body (or a comprehension's block) running. base: fixed through the whole law; s₀, H₀: the entry; outer: the frames whose slots others may change (a def's callers); stack: all frames that run;
   ex: iterators that were made ahead of the entry and are walked here (a comprehension's); fn: the names whose cells were made at the entry (a def: all; a comprehension's block: its own); calm: not within an except suite; pn: pins that every state bears; xe: what is wanted of an exception that leaves the code -/
structure Cx where
  prog : Program
  w : World
  K : PySem.W.Frag
  mg : Str → Option Value
  base : Heap
  A : Around
  N : List Str
  s₀ : Shared
  H₀ : Hp
  env : Env
  outer : List Env
  stack : List Env
  ex : List Addr
  fn : Str → Bool
  calm : Bool
  pn : List (Addr × Obj)
  xe : Value → Shared → Prop
/-- the callers' frames -/
def frs (l : List Env) : List Addr := l.filterMap (·.frame)
abbrev Cx.fs (X : Cx) : List Addr := frs X.outer

def Vis (sc : Scope) (x : Str) : Prop := sc.names.lookup x = some .local ∨ sc.names.lookup x = some .cell ∨ sc.names.lookup x = some .free
def Loc (sc : Scope) (x : Str) : Prop := sc.names.lookup x = some .local ∨ sc.names.lookup x = some .cell
def Look (env : Env) (h : Heap) (m : Str → Option Value) (x : Str) (u : Value) : Prop :=
  (env.kindOf x = some .local ∧ m x = some u) ∨ ((env.kindOf x = some .cell ∨ env.kindOf x = some .free) ∧ ∃ c, env.cells.lookup x = some c ∧ h.IsCell c (some u))

structure Cx.Ok (X : Cx) : Prop where
  mod : Mod X.K X.mg X.base
  kind : X.env.scope.kind = .function
  glob : X.env.globals = mainGlobals
  blt : X.env.builtins = builtinsNs
  above : X.s₀.heap.objs.size ≤ X.env.locals
  inj : ∀ x y c, X.env.cells.lookup x = some c → X.env.cells.lookup y = some c → x = y
  has : ∀ x, (X.env.kindOf x = some .cell ∨ X.env.kindOf x = some .free) → ∃ c, X.env.cells.lookup x = some c
  cab : ∀ x c, X.fn x = true → X.env.cells.lookup x = some c → X.s₀.heap.objs.size ≤ c
  hd : X.calm = true → X.A.handled = none
  frames : X.A.frames = some X.stack
  stk : X.stack = X.outer ∨ (X.stack = X.env :: X.outer ∧ X.env.frame = some X.env.locals)
  exf : ∀ b ∈ X.ex, b ≠ X.env.locals ∧ ∀ x c, X.env.cells.lookup x = some c → c ≠ b
  bs : ∀ b o, X.base.get? b = some o → X.s₀.heap.get? b = some o ∧ X.H₀ b = none
  bsz : X.base.objs.size ≤ X.s₀.heap.objs.size
  noex : ∀ b o, X.base.get? b = some o → b ∉ X.ex
  exfs : ∀ b ∈ X.ex, b ∉ X.fs
  funs : X.s₀.heap.FunFrames X.base X.outer
  frf : ∀ b ∈ X.fs, X.H₀ b = none

structure Inv (X : Cx) (pins : List (Addr × Obj)) (σ : List (Option V)) (H : Hp) (s : Shared) : Prop where
  ok : X.Ok
  os : s.os = X.s₀.os
  bare : AllBare s.gens
  base : Un X.fs X.ex X.H₀ H X.s₀.heap s.heap
  loc : ∃ m, s.heap.Ns X.env.locals m ∧ ∀ (i : Nat) (x : Str) (v : V), X.N[i]? = some x → σ[i]? = some (some v) → Vis X.env.scope x → ∃ u, RelV v u ∧ Look X.env s.heap m x u
  cell : ∀ x c, X.env.cells.lookup x = some c → ∃ v, s.heap.IsCell c v
  free : H X.env.locals = none
  freeC : ∀ x c, X.env.cells.lookup x = some c → H c = none
  pin : ∀ p ∈ X.pn ++ pins, s.heap.get? p.1 = some p.2 ∧ H p.1 = none ∧ p.1 ≠ X.env.locals ∧ p.1 ∉ X.fs ∧ ∀ v, p.2.data ≠ .cell v
  hok : HOk X.prog X.w H s.heap
  len : σ.length = X.N.length

section
variable {X : Cx} {pins : List (Addr × Obj)} {σ : List (Option V)} {H H' : Hp} {s : Shared} {h' : Heap}

theorem Cx.Ok.nofr (ok : X.Ok) {b : Addr} {o : Obj} (e : X.base.get? b = some o) : b ∉ X.fs := fun hb => by
  have := (ok.funs.mem hb).1
  rw [e] at this; cases this
theorem Inv.bs (I : Inv X pins σ H s) : ∀ b o, X.base.get? b = some o → s.heap.get? b = some o ∧ H b = none := fun b o e =>
  ⟨I.base.keep b o (I.ok.bs b o e).1 (I.ok.bs b o e).2 (I.ok.nofr e) (I.ok.noex b o e), I.base.free b o (I.ok.bs b o e).1 (I.ok.bs b o e).2 (I.ok.noex b o e)⟩
theorem Inv.bk (I : Inv X pins σ H s) : ∀ b o, X.base.get? b = some o → s.heap.get? b = some o := fun b o e => (I.bs b o e).1
theorem Inv.mod (I : Inv X pins σ H s) : Mod X.K X.mg X.base := I.ok.mod
theorem Inv.kIn (I : Inv X pins σ H s) : X.K.In s.heap := I.ok.mod.kin.keeps I.bk
theorem Inv.lt (I : Inv X pins σ H s) : X.env.locals < s.heap.objs.size := let ⟨_, hn, _⟩ := I.loc; hn.lt
theorem Inv.sz (I : Inv X pins σ H s) : X.s₀.heap.objs.size ≤ s.heap.objs.size := Nat.le_trans I.ok.above (Nat.le_of_lt I.lt)
theorem Inv.nofs (I : Inv X pins σ H s) {a : Addr} (h : s.heap.objs.size ≤ a) : a ∉ X.fs := fun hb => by
  obtain ⟨_, o, ho, _⟩ := I.ok.funs.mem hb
  exact absurd (Nat.lt_of_lt_of_le (Heap.lt_size ho) (Nat.le_trans I.sz h)) (Nat.lt_irrefl _)
theorem Inv.cne (I : Inv X pins σ H s) : ∀ x c, X.env.cells.lookup x = some c → c ≠ X.env.locals := fun x c e z => by
  obtain ⟨v, o, ho, hd⟩ := I.cell x c e
  obtain ⟨m, ⟨o', es, ep, ho', hd', _⟩, _⟩ := I.loc
  rw [z, ho'] at ho; cases ho; rw [hd'] at hd; cases hd
theorem Inv.funs (I : Inv X pins σ H s) : s.heap.FunFrames X.base X.outer := by
  have all : ∀ (l : List Env), (∀ b ∈ frs l, b ∈ X.fs) → X.s₀.heap.FunFrames X.base l → s.heap.FunFrames X.base l := by
    intro l
    induction l with
    | nil => intro _ _; trivial
    | cons env r ih =>
      intro hs hl
      obtain ⟨hk, ⟨L, o, hf, hn, ho, hd⟩, hr⟩ := hl
      have hL : L ∈ X.fs := hs L (by unfold frs; rw [List.filterMap_cons, hf]; exact List.mem_cons_self)
      obtain ⟨sl, e⟩ := I.base.slot L o ho (I.ok.frf L hL) hL fun z => I.ok.exfs L z hL
      exact ⟨hk, ⟨L, _, hf, hn, e, hd⟩, ih (fun b hb => hs b (by unfold frs; rw [List.filterMap_cons, hf]; exact List.mem_cons_of_mem _ hb)) hr⟩
  exact all X.outer (fun _ hb => hb) I.ok.funs

/-- the frames that run, for a call -/
theorem Inv.stack (I : Inv X pins σ H s) : s.heap.FunFrames X.base X.stack := by
  rcases I.ok.stk with e | ⟨e, hf⟩
  · rw [e]; exact I.funs
  · rw [e]
    obtain ⟨m, hn, _⟩ := I.loc
    refine .cons (by rw [I.ok.kind]; decide) hf hn ?_ I.funs
    exact Heap.get?_none_of_le (Nat.le_trans I.ok.bsz I.ok.above)
theorem Inv.stkSub (I : Inv X pins σ H s) : ∀ b ∈ frs X.stack, b ∈ X.env.locals :: X.fs := fun b hb => by
  rcases I.ok.stk with e | ⟨e, hf⟩
  · rw [e] at hb; exact List.mem_cons_of_mem _ hb
  · rw [e] at hb
    unfold frs at hb
    rw [List.filterMap_cons, hf] at hb
    exact hb
theorem Inv.stkFree (I : Inv X pins σ H s) : ∀ b ∈ frs X.stack, H b = none := fun b hb => by
  rcases List.mem_cons.mp (I.stkSub b hb) with e | hb
  · rw [e]; exact I.free
  · obtain ⟨_, o, ho, _⟩ := I.ok.funs.mem hb
    exact I.base.free b o ho (I.ok.frf b hb) fun z => I.ok.exfs b z hb

/-- THE STEP: the untracked objects but the frame and the records at ch are kept (the callers' frames up to slots), the frame's map is kept, the new abstract heap is held -/
theorem Inv.step {g' : Array GenState} {t' : Nat} {d' : Drawn} {ch : List Addr} (I : Inv X pins σ H s)
    (hch : ∀ b ∈ ch, (b ∈ X.ex ∨ X.s₀.heap.objs.size ≤ b) ∧ b ≠ X.env.locals ∧ (∀ x c, X.env.cells.lookup x = some c → c ≠ b) ∧ ∀ p ∈ X.pn ++ pins, p.1 ≠ b)
    (keep : ∀ b o, b ≠ X.env.locals → b ∉ X.fs → b ∉ ch → s.heap.get? b = some o → H b = none → h'.get? b = some o)
    (slot : ∀ b o, b ≠ X.env.locals → b ∈ X.fs → b ∉ ch → s.heap.get? b = some o → H b = none → ∃ sl, h'.get? b = some { o with slots := sl }) (free : ∀ b o, b ∉ ch → s.heap.get? b = some o → H b = none → H' b = none)
    (there : ∀ b o, b ∉ ch → s.heap.get? b = some o → ∃ o', h'.get? b = some o')
    (tups : ∀ b xs, H b = some (.tup xs) → H' b = some (.tup xs)) (frzs : ∀ b o u, H b = some (.frz o u) → H' b = some (.frz o u)) (tbls : ∀ b ps, H b = some (.tbl ps) → ∃ more, H' b = some (.tbl (ps ++ more)))
    (ns : ∀ m, s.heap.Ns X.env.locals m → h'.Ns X.env.locals m) (hok : HOk X.prog X.w H' h') (hg : AllBare g') :
    Inv X pins σ H' { s with heap := h', gens := g', drawn := d', toks := t' } := by
  have neL : ∀ b o, X.s₀.heap.get? b = some o → b ≠ X.env.locals := fun b o e => Nat.ne_of_lt (Nat.lt_of_lt_of_le (Heap.lt_size e) I.ok.above)
  have neC : ∀ b o, X.s₀.heap.get? b = some o → b ∉ X.ex → b ∉ ch := fun b o e hx hb => by
    rcases (hch b hb).1 with z | z
    · exact hx z
    · exact absurd (Nat.lt_of_lt_of_le (Heap.lt_size e) z) (Nat.lt_irrefl _)
  have cellK : ∀ x c, X.env.cells.lookup x = some c → ∀ v, s.heap.IsCell c v → h'.IsCell c v := fun x c e v ⟨o, ho, hd⟩ => by
    have nch : c ∉ ch := fun z => (hch c z).2.2.1 x c e rfl
    by_cases hc : c ∈ X.fs
    · obtain ⟨sl, q⟩ := slot c o (I.cne x c e) hc nch ho (I.freeC x c e)
      exact ⟨_, q, hd⟩
    · exact ⟨o, keep c o (I.cne x c e) hc nch ho (I.freeC x c e), hd⟩
  refine ⟨I.ok, I.os, hg, ⟨fun b o e n hb hx => ?_, fun b o e n hb hx => ?_, fun b o e n hx => ?_, fun b o e hx => ?_, fun b xs e => tups b xs (I.base.tups b xs e), fun b o xs e => frzs b o xs (I.base.frzs b o xs e), fun b ps e => ?_⟩, ?_, fun x c e => ?_, ?_, fun x c e => ?_, fun p hp => ?_, hok, I.len⟩
  · exact keep b o (neL b o e) hb (neC b o e hx) (I.base.keep b o e n hb hx) (I.base.free b o e n hx)
  · obtain ⟨sl, e1⟩ := I.base.slot b o e n hb hx
    obtain ⟨sl', e2⟩ := slot b _ (neL b o e) hb (neC b o e hx) e1 (I.base.free b o e n hx)
    exact ⟨sl', e2⟩
  · obtain ⟨o', e1⟩ := I.base.there b o e hx
    exact free b o' (neC b o e hx) e1 (I.base.free b o e n hx)
  · obtain ⟨o', e1⟩ := I.base.there b o e hx
    exact there b o' (neC b o e hx) e1
  · obtain ⟨m1, e1⟩ := I.base.tbls b ps e
    obtain ⟨m2, e2⟩ := tbls b _ e1
    exact ⟨m1 ++ m2, by rw [e2, Array.append_assoc]⟩
  · obtain ⟨m, hn, hl⟩ := I.loc
    refine ⟨m, ns m hn, fun i x v e1 e2 e3 => ?_⟩
    obtain ⟨u, r, l⟩ := hl i x v e1 e2 e3
    refine ⟨u, r, ?_⟩
    rcases l with l | ⟨k, c, e, z⟩
    · exact .inl l
    · exact .inr ⟨k, c, e, cellK x c e _ z⟩
  · obtain ⟨v, z⟩ := I.cell x c e
    exact ⟨v, cellK x c e v z⟩
  · obtain ⟨m, ⟨o, _, _, ho, _⟩, _⟩ := I.loc
    exact free _ o (fun z => (hch _ z).2.1 rfl) ho I.free
  · obtain ⟨v, o, ho, hd⟩ := I.cell x c e
    exact free c o (fun z => (hch c z).2.2.1 x c e rfl) ho (I.freeC x c e)
  · obtain ⟨e, n, ne, nf, d⟩ := I.pin p hp
    have nch : p.1 ∉ ch := fun z => (hch p.1 z).2.2.2 p hp rfl
    exact ⟨keep p.1 p.2 ne nf nch e n, free p.1 p.2 nch e n, ne, nf, d⟩
/-- .. where the frame's own object is kept too -/
theorem Inv.un {t' : Nat} (I : Inv X pins σ H s) (u : Un X.fs [] H H' s.heap h') (hok : HOk X.prog X.w H' h') : Inv X pins σ H' { s with heap := h', toks := t' } := by
  obtain ⟨m, ⟨o, es, ep, ho, r⟩, _⟩ := id I.loc
  obtain ⟨sl, hL⟩ := u.any ho I.free (by simp)
  exact I.step (g' := s.gens) (d' := s.drawn) (ch := []) (fun _ z => nomatch z) (fun b o _ hb _ e n => u.keep b o e n hb (by simp)) (fun b o _ hb _ e n => u.slot b o e n hb (by simp)) (fun b o _ e n => u.free b o e n (by simp)) (fun b o _ e => u.there b o e (by simp)) u.tups u.frzs u.tbls (fun m' hm => by
    obtain ⟨o', es', ep', ho', r'⟩ := hm
    rw [ho] at ho'; cases ho'
    exact ⟨_, es', ep', hL, r'⟩) hok I.bare
/-- behind a call (or a comprehension's block): the slots of this frame may have changed too, the records at ch may have turned -/
theorem Inv.call {g' : Array GenState} {t' : Nat} {d' : Drawn} {ch : List Addr} (I : Inv X pins σ H s) (u : Un (frs X.stack) ch H H' s.heap h') (hok : HOk X.prog X.w H' h') (hg : AllBare g')
    (hch : ∀ b ∈ ch, (b ∈ X.ex ∨ X.s₀.heap.objs.size ≤ b) ∧ b ≠ X.env.locals ∧ (∀ x c, X.env.cells.lookup x = some c → c ≠ b) ∧ ∀ p ∈ X.pn ++ pins, p.1 ≠ b) :
    Inv X pins σ H' { s with heap := h', gens := g', drawn := d', toks := t' } := by
  obtain ⟨m, ⟨o, es, ep, ho, r⟩, _⟩ := id I.loc
  obtain ⟨sl, hL⟩ := u.any ho I.free fun z => (hch _ z).2.1 rfl
  exact I.step (ch := ch) hch (fun b o hL hb hc e n => u.keep b o e n (fun z => (List.mem_cons.mp (I.stkSub b z)).elim hL hb) hc) (fun b o _ _ hc e n => u.any e n hc) (fun b o hc e n => u.free b o e n hc) (fun b o hc e => u.there b o e hc) u.tups u.frzs u.tbls (fun m' hm => by
    obtain ⟨o', es', ep', ho', r'⟩ := hm
    rw [ho] at ho'; cases ho'
    exact ⟨_, es', ep', hL, r'⟩) hok hg
/-- an untracked record of ours (an iterator) has turned -/
theorem Inv.turned {t' : Nat} {it : Addr} (I : Inv X pins σ H s) (k : ∀ b o, b ≠ it → s.heap.get? b = some o → h'.get? b = some o) (hn : H it = none) (hL : it ≠ X.env.locals)
    (h1 : it ∈ X.ex ∨ X.s₀.heap.objs.size ≤ it) (h2 : ∀ x c, X.env.cells.lookup x = some c → c ≠ it) (h3 : ∀ p ∈ X.pn ++ pins, p.1 ≠ it) : Inv X pins σ H { s with heap := h', toks := t' } := by
  have nit : ∀ b u, H b = some u → b ≠ it := fun b u e z => by rw [z, hn] at e; cases e
  refine I.step (g' := s.gens) (d' := s.drawn) (ch := [it]) (fun b hb => ?_) (fun b o _ _ hc e _ => k b o (fun z => hc (by simp [z])) e) (fun b o _ _ hc e _ => ⟨o.slots, k b o (fun z => hc (by simp [z])) e⟩) (fun _ _ _ _ n => n)
    (fun b o hc e => ⟨o, k b o (fun z => hc (by simp [z])) e⟩) (fun _ _ e => e) (fun _ _ _ e => e) (fun b ps e => ⟨#[], by rw [e]; simp⟩) (fun m hm => ?_) (fun b u e => ?_) I.bare
  · have e : b = it := by simpa using hb
    subst e
    exact ⟨h1, hL, h2, h3⟩
  · obtain ⟨o, es, ep, ho, r⟩ := hm
    exact ⟨o, es, ep, k _ o (Ne.symm hL) ho, r⟩
  · refine (I.hok b u e).stay (fun c v hc q => k c v ?_ q) (fun _ q => q) fun _ _ q => q
    rcases hc with z | z
    · rw [z]; exact nit b u e
    · exact nit c _ z
theorem Inv.tok (I : Inv X pins σ H s) (t : Nat) : Inv X pins σ H { s with toks := t } := I.un (h' := s.heap) (t' := t) Un.refl I.hok
/-- all objects kept -/
theorem Inv.kept {t' : Nat} (I : Inv X pins σ H s) (k : ∀ b u, s.heap.get? b = some u → h'.get? b = some u) : Inv X pins σ H { s with heap := h', toks := t' } := I.un (Un.kept k) (I.hok.kept k)
/-- a new object laid and tracked -/
theorem Inv.laid {a : Addr} {o : HO} {t' : Nat} (I : Inv X pins σ H s) (k : ∀ b u, s.heap.get? b = some u → h'.get? b = some u) (hp : s.heap.objs.size ≤ a) (new : ObjOk X.prog X.w (upd H a o) h' a o) :
    Inv X pins σ (upd H a o) { s with heap := h', toks := t' } := I.un (Un.laid k hp (I.hok.fresh hp)) (I.hok.laid k hp new)
/-- an object written -/
theorem Inv.write {x e : Addr} {o : HO} {t' : Nat} (I : Inv X pins σ H s) (mu : Mut (H x)) (he : e = x ∨ H e = some (.own x)) (k : ∀ b u, b ≠ e → s.heap.get? b = some u → h'.get? b = some u) (heo : ∃ u, h'.get? e = some u)
    (new : ObjOk X.prog X.w (upd H x o) h' x o) : Inv X pins σ (upd H x o) { s with heap := h', toks := t' } := I.un (Un.write mu he k heo) (I.hok.write mu he k heo new)
/-- forgetting slots, pins -/
theorem Inv.weak {σ' : List (Option V)} (I : Inv X pins σ H s) (hl : σ'.length = σ.length) (w : ∀ (i : Nat) v, σ'[i]? = some (some v) → σ[i]? = some (some v)) : Inv X pins σ' H s :=
  ⟨I.ok, I.os, I.bare, I.base, let ⟨m, hn, hl'⟩ := I.loc; ⟨m, hn, fun i x v e1 e2 e3 => hl' i x v e1 (w i v e2) e3⟩, I.cell, I.free, I.freeC, I.pin, I.hok, hl.trans I.len⟩
theorem Inv.pins_of {pins' : List (Addr × Obj)} (I : Inv X pins σ H s) (h : ∀ p ∈ pins', s.heap.get? p.1 = some p.2 ∧ H p.1 = none ∧ p.1 ≠ X.env.locals ∧ p.1 ∉ X.fs ∧ ∀ v, p.2.data ≠ .cell v) : Inv X pins' σ H s :=
  ⟨I.ok, I.os, I.bare, I.base, I.loc, I.cell, I.free, I.freeC, fun p hp => (List.mem_append.mp hp).elim (fun z => I.pin p (List.mem_append_left _ z)) (h p), I.hok, I.len⟩

theorem nodup_ix {N : List Str} (hN : N.Nodup) {i j : Nat} {x : Str} (a : N[i]? = some x) (b : N[j]? = some x) : i = j := by
  obtain ⟨h1, e1⟩ := List.getElem?_eq_some_iff.mp a
  obtain ⟨h2, e2⟩ := List.getElem?_eq_some_iff.mp b
  exact (List.getElem_inj hN).mp (e1.trans e2.symm)

/-- a name is stored; what changed -/
theorem store_ok2 {M : Model} {A : Around} {E : Value → Shared → Prop} {i : Nat} {x : Str} {v : V} {u : Value} {Q : Unit → Shared → Prop} (I : Inv X pins σ H s) (hN : X.N.Nodup) (hi : X.N[i]? = some x) (hx : Loc X.env.scope x) (r : RelV v u)
    (h : ∀ s', Inv X pins (σ.set i (some v)) H s' → (∃ a, Heap.SameBut a s.heap s'.heap ∧ (a = X.env.locals ∨ X.env.cells.lookup x = some a)) → Q () s') (hf : X.fn x = true ∨ X.env.scope.names.lookup x = some .local := by first | exact .inl rfl | exact .inr rfl | assumption) : wpAny M A (storeName X.env x u) Q E s := by
  obtain ⟨m, hn, hl⟩ := id I.loc
  have hcls : (X.env.scope.kind == .class || (X.env.scope.kind == .module && X.env.locals != X.env.globals)) = false := by rw [I.ok.kind]; rfl
  have hiσ : i < σ.length := by rw [I.len]; exact (List.getElem?_eq_some_iff.mp hi).1
  have cne := I.cne
  have tracked : ∀ {a : Addr} {h' : Heap}, (∃ o, s.heap.get? a = some o ∧ H a = none) → Heap.SameBut a s.heap h' → HOk X.prog X.w H h' := fun {a h'} ha hs b ob e => by
    obtain ⟨_, _, hfree⟩ := ha
    refine (I.hok b ob e).stay (fun c w' hc q => (hs.2 c ?_).trans q) (fun _ q => q) fun _ _ q => q
    rintro rfl
    rcases hc with rfl | hc
    · rw [hfree] at e; cases e
    · rw [hfree] at hc; cases hc
  rcases hx with hk | hk
  · refine wpAny_storeName_local hk hn (fun h' hn' hs => ?_) hcls
    obtain ⟨oL, _, _, hoL, _⟩ := id hn
    refine h _ ⟨I.ok, I.os, I.bare, ⟨fun b o e n hb hx => ?_, fun b o e n hb hx => ?_, I.base.free, fun b o e hx => ?_, I.base.tups, I.base.frzs, I.base.tbls⟩, ⟨_, hn', fun j y v' e1 e2 e3 => ?_⟩, fun y c e => ?_, I.free, I.freeC, fun p hp => ?_, tracked ⟨oL, hoL, I.free⟩ hs, by simpa using I.len⟩ ⟨_, hs, .inl rfl⟩
    · exact (hs.2 b (Nat.ne_of_lt (Nat.lt_of_lt_of_le (Heap.lt_size e) I.ok.above))).trans (I.base.keep b o e n hb hx)
    · obtain ⟨sl, e1⟩ := I.base.slot b o e n hb hx
      exact ⟨sl, (hs.2 b (Nat.ne_of_lt (Nat.lt_of_lt_of_le (Heap.lt_size e) I.ok.above))).trans e1⟩
    · obtain ⟨o', e1⟩ := I.base.there b o e hx
      exact ⟨o', (hs.2 b (Nat.ne_of_lt (Nat.lt_of_lt_of_le (Heap.lt_size e) I.ok.above))).trans e1⟩
    · by_cases hj : j = i
      · subst hj
        rw [hi] at e1; cases e1
        rw [List.getElem?_set_self hiσ] at e2
        cases e2
        exact ⟨u, r, .inl ⟨hk, by simp⟩⟩
      · rw [List.getElem?_set_ne (Ne.symm hj)] at e2
        obtain ⟨u', r', q⟩ := hl j y v' e1 e2 e3
        refine ⟨u', r', ?_⟩
        rcases q with ⟨k, e⟩ | ⟨k, c, e, z⟩
        · refine .inl ⟨k, ?_⟩
          have : y ≠ x := fun e => hj (nodup_ix hN e1 (e ▸ hi))
          simp [this, e]
        · exact .inr ⟨k, c, e, z.sameBut hs (cne y c e)⟩
    · obtain ⟨w', z⟩ := I.cell y c e
      exact ⟨w', z.sameBut hs (cne y c e)⟩
    · obtain ⟨e, n, ne, nf, d⟩ := I.pin p hp
      exact ⟨(hs.2 p.1 ne).trans e, n, ne, nf, d⟩
  · have hfn : X.fn x = true := by
      rcases hf with z | z
      · exact z
      · rw [z] at hk; cases hk
    obtain ⟨c, hc⟩ := I.ok.has x (.inl hk)
    obtain ⟨w', z⟩ := I.cell x c hc
    refine wpAny_storeName_cell I.ok.kind hk hc z (fun h' hc' hs => ?_)
    obtain ⟨oc, hoc, hocd⟩ := id z
    refine h { s with heap := h' } ⟨I.ok, I.os, I.bare, ⟨fun b o e n hb hx => ?_, fun b o e n hb hx => ?_, I.base.free, fun b o e hx => ?_, I.base.tups, I.base.frzs, I.base.tbls⟩, ⟨m, hn.sameBut hs (Ne.symm (cne x c hc)), fun j y v' e1 e2 e3 => ?_⟩, fun y c' e => ?_, I.free, I.freeC, fun p hp => ?_, tracked ⟨oc, hoc, I.freeC x c hc⟩ hs, by simpa using I.len⟩ ⟨c, hs, .inr hc⟩
    · exact (hs.2 b (Nat.ne_of_lt (Nat.lt_of_lt_of_le (Heap.lt_size e) (I.ok.cab x c hfn hc)))).trans (I.base.keep b o e n hb hx)
    · obtain ⟨sl, e1⟩ := I.base.slot b o e n hb hx
      exact ⟨sl, (hs.2 b (Nat.ne_of_lt (Nat.lt_of_lt_of_le (Heap.lt_size e) (I.ok.cab x c hfn hc)))).trans e1⟩
    · obtain ⟨o', e1⟩ := I.base.there b o e hx
      exact ⟨o', (hs.2 b (Nat.ne_of_lt (Nat.lt_of_lt_of_le (Heap.lt_size e) (I.ok.cab x c hfn hc)))).trans e1⟩
    · by_cases hj : j = i
      · subst hj
        rw [hi] at e1; cases e1
        rw [List.getElem?_set_self hiσ] at e2
        cases e2
        exact ⟨u, r, .inr ⟨.inl hk, c, hc, hc'⟩⟩
      · rw [List.getElem?_set_ne (Ne.symm hj)] at e2
        obtain ⟨u', r', q⟩ := hl j y v' e1 e2 e3
        refine ⟨u', r', ?_⟩
        rcases q with q | ⟨k, c', e, z'⟩
        · exact .inl q
        · refine .inr ⟨k, c', e, z'.sameBut hs ?_⟩
          rintro rfl
          exact hj (nodup_ix hN e1 (I.ok.inj _ _ _ e hc ▸ hi))
    · by_cases hcc : c' = c
      · subst hcc; exact ⟨_, hc'⟩
      · obtain ⟨w2, z2⟩ := I.cell y c' e
        exact ⟨w2, z2.sameBut hs hcc⟩
    · obtain ⟨e, n, ne, nf, d⟩ := I.pin p hp
      refine ⟨(hs.2 p.1 ?_).trans e, n, ne, nf, d⟩
      intro q
      rw [q, hoc] at e
      have q' : oc = p.2 := Option.some.inj e
      exact d w' (by rw [← q']; exact hocd)
theorem store_ok {M : Model} {A : Around} {E : Value → Shared → Prop} {i : Nat} {x : Str} {v : V} {u : Value} {Q : Unit → Shared → Prop} (I : Inv X pins σ H s) (hN : X.N.Nodup) (hi : X.N[i]? = some x) (hx : Loc X.env.scope x) (r : RelV v u)
    (h : ∀ s', Inv X pins (σ.set i (some v)) H s' → Q () s') (hf : X.fn x = true ∨ X.env.scope.names.lookup x = some .local := by first | exact .inl rfl | exact .inr rfl | assumption) : wpAny M A (storeName X.env x u) Q E s :=
  store_ok2 I hN hi hx r (fun s' I' _ => h s' I') hf
/-- behind a call or a block, the state as it is -/
theorem Inv.call' {s' : Shared} {ch : List Addr} (I : Inv X pins σ H s) (ho : s'.os = s.os) (u : Un (frs X.stack) ch H H' s.heap s'.heap) (hok : HOk X.prog X.w H' s'.heap) (hg : AllBare s'.gens)
    (hch : ∀ b ∈ ch, (b ∈ X.ex ∨ X.s₀.heap.objs.size ≤ b) ∧ b ≠ X.env.locals ∧ (∀ x c, X.env.cells.lookup x = some c → c ≠ b) ∧ ∀ p ∈ X.pn ++ pins, p.1 ≠ b) : Inv X pins σ H' s' := by
  obtain ⟨h', g', d', t', o'⟩ := s'
  have e : o' = s.os := ho
  subst e
  exact I.call (g' := g') (t' := t') (d' := d') u hok hg hch
end

/-! ### the judgements -/
/-- an exception: its class, its own dict's address (where it has one), the abstract heap behind it -/
abbrev XK := Value → Option Addr → Hp → Prop
abbrev St := List (Option V)
abbrev VK := V → Hp → Prop
/-- an expression's reading; a test's; an argument list's -/
abbrev TE := St → Hp → VK → Prop
abbrev TT := St → Hp → (Bool → Hp → Prop) → Prop
abbrev TA := St → Hp → (List V → Hp → Prop) → Prop
/-- what is wanted behind a statement -/
structure Ends where
  nx : St → Hp → Prop
  rt : VK
  bk : St → Hp → Prop := fun _ _ => False
  ct : St → Hp → Prop := fun _ _ => False
abbrev TS := Ends → St → Hp → Prop

def EP (X : Cx) (pins : List (Addr × Obj)) (σ : St) (Q : VK) (u : Value) (s' : Shared) : Prop := ∃ v H', Inv X pins σ H' s' ∧ RelV v u ∧ Q v H'
def TP (X : Cx) (pins : List (Addr × Obj)) (σ : St) (Q : Bool → Hp → Prop) (b : Bool) (s' : Shared) : Prop := ∃ H', Inv X pins σ H' s' ∧ Q b H'
def AP (X : Cx) (pins : List (Addr × Obj)) (σ : St) (Q : List V → Hp → Prop) (us : List Value) (s' : Shared) : Prop := ∃ vs H', Inv X pins σ H' s' ∧ Vals vs us ∧ Q vs H'
def SP (X : Cx) (pins : List (Addr × Obj)) (D : Ends) (f : Flow) (s' : Shared) : Prop :=
  match f with
  | .next => ∃ σ' H', Inv X pins σ' H' s' ∧ D.nx σ' H'
  | .brk => ∃ σ' H', Inv X pins σ' H' s' ∧ D.bk σ' H'
  | .cont => ∃ σ' H', Inv X pins σ' H' s' ∧ D.ct σ' H'
  | .ret u => ∃ v σ' H', Inv X pins σ' H' s' ∧ RelV v u ∧ D.rt v H'

def PE (X : Cx) (e : Expr) (t : TE) : Prop :=
  ∀ (pins : List (Addr × Obj)) (s : Shared) (σ : St) (H : Hp) (Q : VK), Inv X pins σ H s → t σ H Q → wpAny (model X.prog X.w) X.A (eval e X.env) (EP X pins σ Q) X.xe s
def PT (X : Cx) (e : Expr) (t : TT) : Prop :=
  ∀ (pins : List (Addr × Obj)) (s : Shared) (σ : St) (H : Hp) (Q : Bool → Hp → Prop), Inv X pins σ H s → t σ H Q → wpAny (model X.prog X.w) X.A (isTrue e X.env (eval e X.env)) (TP X pins σ Q) X.xe s
/-- a test whatever its 'whole' is (and, or) -/
def PW (X : Cx) (e : Expr) (t : TT) : Prop :=
  ∀ (whole : Sem Value) (pins : List (Addr × Obj)) (s : Shared) (σ : St) (H : Hp) (Q : Bool → Hp → Prop), Inv X pins σ H s → t σ H Q → wpAny (model X.prog X.w) X.A (isTrue e X.env whole) (TP X pins σ Q) X.xe s
theorem PW.pt {X : Cx} {e : Expr} {t : TT} (h : PW X e t) : PT X e t := h _
/-- an argument list (no star), from the left -/
def PA (X : Cx) (es : List Expr) (t : TA) : Prop :=
  ∀ (pos : Pos) (pins : List (Addr × Obj)) (s : Shared) (σ : St) (H : Hp) (Q : List V → Hp → Prop), Inv X pins σ H s → t σ H Q → wpAny (model X.prog X.w) X.A (spliced (backTo pos (starEach es X.env))) (AP X pins σ Q) X.xe s
def PS (X : Cx) (st : Stmt) (t : TS) : Prop :=
  ∀ (pins : List (Addr × Obj)) (s : Shared) (σ : St) (H : Hp) (D : Ends), Inv X pins σ H s → t D σ H → wpAny (model X.prog X.w) X.A (exec st X.env) (SP X pins D) X.xe s
def PSs (X : Cx) (st : List Stmt) (t : TS) : Prop :=
  ∀ (pins : List (Addr × Obj)) (s : Shared) (σ : St) (H : Hp) (D : Ends), Inv X pins σ H s → t D σ H → wpAny (model X.prog X.w) X.A (execs st X.env) (SP X pins D) X.xe s
/-- weaken the end -/
theorem thn {α : Type} {t : Sem α} {Q Q' : α → Shared → Prop} {M : Model} {A : Around} {E : Value → Shared → Prop} {s : Shared} (h : wpAny M A t Q E s) (hQ : ∀ a s, Q a s → Q' a s) : wpAny M A t Q' E s := wpAny_mono h hQ fun _ _ x => x
end L2

namespace L2
open PySem PySem.Spec PyProof.Rows
section
variable {X : Cx}


/-! ### names and constants -/
def tVar (i : Nat) : TE := fun σ H Q => ∃ v, σ[i]? = some (some v) ∧ Q v H
def tC (v : V) : TE := fun _ H Q => Q v H
theorem pe_var {i : Nat} {x : Str} {pos : Pos} (hN : X.N[i]? = some x) (hv : Vis X.env.scope x) (hd : (x == ("__debug__" : Str)) = false := by decide) (hcd : (x == ("__classdict__" : Str)) = false := by decide) : PE X (.Name x pos) (tVar i) := by
  intro pins s σ H Q I h
  obtain ⟨v, e, h⟩ := h
  obtain ⟨m, hn, hl⟩ := I.loc
  obtain ⟨u, r, l⟩ := hl i x v hN e hv
  have fin : EP X pins σ Q u s := ⟨v, H, I, r, h⟩
  rcases l with ⟨hk, hm⟩ | ⟨hk, c, hc, hcell⟩
  · exact wpAny_Name (wpAny_loadName_local I.ok.kind hk hn hm fin) hd
  · rcases hk with hk | hk
    · exact wpAny_Name (wpAny_loadName_cell I.ok.kind hk hc hcell fin) hd
    · exact wpAny_Name (wpAny_loadName_free I.ok.kind hk hc hcell fin hcd) hd
theorem pe_int {i j pos} : PE X (.Constant (.int i) j pos) (tC (.int i)) := fun _ _ _ H _ I h => wpAny_Constant_int ⟨.int i, H, I.tok _, ⟨_, rfl⟩, h⟩
theorem pe_str {x j pos} : PE X (.Constant (.str x) j pos) (tC (.str x)) := fun _ _ _ H _ I h => Calls.Constant_str ⟨.str x, H, I.tok _, ⟨_, rfl⟩, h⟩

/-- a global name of the def -/
def Gl (X : Cx) (x : Str) : Prop := X.env.kindOf x = some .globalImplicit
theorem ld_glob {E : Value → Shared → Prop} {pins : List (Addr × Obj)} {s : Shared} {σ : St} {H : Hp} {x : Str} {u : Value} {pos : Pos} {Q : Value → Shared → Prop} (I : Inv X pins σ H s) (hg : Gl X x) (hm : X.mg x = some u) (h : Q u s)
    (hd : (x == ("__debug__" : Str)) = false := by decide) : wpAny (model X.prog X.w) X.A (eval (.Name x pos) X.env) Q E s :=
  Calls.Name_function_global I.ok.kind hg (Calls.loadGlobal_global (by rw [I.ok.glob]; exact I.mod.glob.keeps I.bk) hm h) hd
theorem ld_blt {E : Value → Shared → Prop} {pins : List (Addr × Obj)} {s : Shared} {σ : St} {H : Hp} {x : Str} {u : Value} {pos : Pos} {Q : Value → Shared → Prop} (I : Inv X pins σ H s) (hg : Gl X x) (hm : X.mg x = none) (hv : bootBuiltins x = some u) (h : Q u s)
    (hn : x ≠ "__name__" := by decide) (hd : (x == ("__debug__" : Str)) = false := by decide) : wpAny (model X.prog X.w) X.A (eval (.Name x pos) X.env) Q E s := by
  obtain ⟨mb, h1, h2⟩ := I.mod.blt
  exact Calls.Name_function_global I.ok.kind hg (Calls.loadGlobal_builtin (by rw [I.ok.glob]; exact I.mod.glob.keeps I.bk) hm (by rw [I.ok.blt]; exact h1.keeps I.bk) ((h2 x hn).trans hv) h) hd
/-- a module's constant, a class, a function, as a value -/
theorem pe_glob {x : Str} {v : V} {u : Value} {pos : Pos} (hg : Gl X x) (hm : X.mg x = some u) (r : RelV v u) (hd : (x == ("__debug__" : Str)) = false := by decide) : PE X (.Name x pos) (tC v) :=
  fun _ _ _ H _ I h => ld_glob I hg hm ⟨v, H, I, r, h⟩ hd
theorem pe_bltn {x : Str} {v : V} {u : Value} {pos : Pos} (hg : Gl X x) (hm : X.mg x = none) (hv : bootBuiltins x = some u) (r : RelV v u) (hn : x ≠ "__name__" := by decide) (hd : (x == ("__debug__" : Str)) = false := by decide) : PE X (.Name x pos) (tC v) :=
  fun _ _ _ H _ I h => ld_blt I hg hm hv ⟨v, H, I, r, h⟩ hn hd

/-! ### arithmetic -/
variable {a b : Expr} {ta tb : TE} {pos : Pos}

/-! ### comparisons -/
/-- a comparison as a value, as a test -/
def tB (t : TE) : TT := fun σ H Q => t σ H fun x H1 => ∃ c, x = .bl c ∧ Q c H1
/-- an expression whose value is a bool, as a test -/
theorem pt_val {e : Expr} {t : TE} (h : PE X e t) (he : ∀ whole, isTrue e X.env whole = (do let v ← whole; standAt e.pos; holding [v] (truthy v)) := by intro _; rfl) : PT X e (tB t) := by
  intro pins s σ H Q I hw
  refine isTrue_plain (thn (h pins s σ H _ I hw) fun v s1 ⟨x, H1, I1, r1, q1⟩ => ?_) (he _)
  obtain ⟨d, rfl, q⟩ := q1
  cases r1
  exact wpAny_truthy_bool ⟨H1, I1, q⟩

/-! ### and, or, not -/
variable {tA tB' : TT} {rest : List Expr}
def tAnd (t u : TT) : TT := fun σ H Q => t σ H fun c H1 => if c = true then u σ H1 Q else Q false H1
def tOr (t u : TT) : TT := fun σ H Q => t σ H fun c H1 => if c = true then Q true H1 else u σ H1 Q
def tNot (t : TT) : TT := fun σ H Q => t σ H fun c H1 => Q (!c) H1
theorem pw_and1 (ha : PT X a tA) : PW X (.BoolOp .And [a] pos) tA := by
  intro wh pins s σ H Q I h
  refine isTrue_and (thn (ha pins s σ H Q I h) fun c s1 e => ?_)
  cases c with
  | true => exact isTrue_and_nil e
  | false => exact e
theorem pw_or1 (ha : PT X a tA) : PW X (.BoolOp .Or [a] pos) tA := by
  intro wh pins s σ H Q I h
  refine isTrue_or (thn (ha pins s σ H Q I h) fun c s1 e => ?_)
  cases c with
  | false => exact isTrue_or_nil e
  | true => exact e
theorem pw_and (ha : PT X a tA) (hb : PW X (.BoolOp .And (b :: rest) pos) tB') : PW X (.BoolOp .And (a :: b :: rest) pos) (tAnd tA tB') := by
  intro wh pins s σ H Q I h
  refine isTrue_and (thn (ha pins s σ H _ I h) fun c s1 ⟨H1, I1, q1⟩ => ?_)
  cases c with
  | true => exact hb wh pins s1 σ H1 Q I1 q1
  | false => exact ⟨H1, I1, q1⟩
theorem pw_or (ha : PT X a tA) (hb : PW X (.BoolOp .Or (b :: rest) pos) tB') : PW X (.BoolOp .Or (a :: b :: rest) pos) (tOr tA tB') := by
  intro wh pins s σ H Q I h
  refine isTrue_or (thn (ha pins s σ H _ I h) fun c s1 ⟨H1, I1, q1⟩ => ?_)
  cases c with
  | true => exact ⟨H1, I1, q1⟩
  | false => exact hb wh pins s1 σ H1 Q I1 q1
theorem pt_not (ha : PT X a tA) : PT X (.UnaryOp .Not a pos) (tNot tA) := by
  intro pins s σ H Q I h
  exact isTrue_not (ha pins s σ H (fun c H1 => Q (!c) H1) I h)
/-- .. as values (bools) -/
def tAndV (ta tb : TE) : TE := fun σ H Q => ta σ H fun x H1 => ∃ c, x = .bl c ∧ if c = true then tb σ H1 Q else Q (.bl false) H1
def tOrV (ta tb : TE) : TE := fun σ H Q => ta σ H fun x H1 => ∃ c, x = .bl c ∧ if c = true then Q (.bl true) H1 else tb σ H1 Q
def tNotV (ta : TE) : TE := fun σ H Q => ta σ H fun x H1 => ∃ c, x = .bl c ∧ Q (.bl (!c)) H1
theorem pe_one {op} {t : TE} (h : PE X a t) : PE X (.BoolOp op [a] pos) t := fun pins s σ H Q I hw => BoolOp_one (h pins s σ H Q I hw)
theorem pe_and (ha : PE X a ta) (hb : PE X (.BoolOp .And (b :: rest) pos) tb) : PE X (.BoolOp .And (a :: b :: rest) pos) (tAndV ta tb) := by
  intro pins s σ H Q I h
  refine BoolOp_and (thn (ha pins s σ H _ I h) fun v s1 ⟨x, H1, I1, r1, q1⟩ => ?_)
  obtain ⟨c, rfl, q1⟩ := q1
  cases r1
  refine wpAny_truthy_bool ?_
  cases c with
  | true => exact hb pins s1 σ H1 Q I1 q1
  | false => exact ⟨.bl false, H1, I1, rfl, q1⟩
theorem pe_or (ha : PE X a ta) (hb : PE X (.BoolOp .Or (b :: rest) pos) tb) : PE X (.BoolOp .Or (a :: b :: rest) pos) (tOrV ta tb) := by
  intro pins s σ H Q I h
  refine BoolOp_or (thn (ha pins s σ H _ I h) fun v s1 ⟨x, H1, I1, r1, q1⟩ => ?_)
  obtain ⟨c, rfl, q1⟩ := q1
  cases r1
  refine wpAny_truthy_bool ?_
  cases c with
  | false => exact hb pins s1 σ H1 Q I1 q1
  | true => exact ⟨.bl true, H1, I1, rfl, q1⟩
theorem pe_not (ha : PE X a ta) : PE X (.UnaryOp .Not a pos) (tNotV ta) := by
  intro pins s σ H Q I h
  refine UnaryOp_ (thn (ha pins s σ H _ I h) fun v s1 ⟨x, H1, I1, r1, q1⟩ => ?_)
  obtain ⟨c, rfl, q1⟩ := q1
  cases r1
  exact not_of (wpAny_truthy_bool ⟨.bl (!c), H1, I1, rfl, q1⟩)
/-- a if t else b -/
def tIf (t : TT) (ta tb : TE) : TE := fun σ H Q => t σ H fun c H1 => if c = true then ta σ H1 Q else tb σ H1 Q
theorem pe_ifExp {c : Expr} (hc : PT X c tA) (ha : PE X a ta) (hb : PE X b tb) : PE X (.IfExp c a b pos) (tIf tA ta tb) := by
  intro pins s σ H Q I h
  refine wpAny_IfExp (thn (hc pins s σ H _ I h) fun d s1 ⟨H1, I1, q1⟩ => ?_)
  cases d with
  | true => exact ha pins s1 σ H1 Q I1 q1
  | false => exact hb pins s1 σ H1 Q I1 q1
end
end L2

namespace L2
open PySem PySem.Spec PyProof.Rows

/-! ### a list, a tuple that is read: tracked, frozen, or an object of the module -/
def SqL (K : PySem.W.Frag) (H : Hp) (a : Addr) (xs : List V) : Prop :=
  Rd H a (.lst xs) ∨
    ∃ (o : Obj) (its : Array Value) (n : Nat), K.lookup a = some o ∧ o.cls = .type "list" ∧ o.dict = none ∧ o.data = .seq its n ∧ its.size ≤ sizeLine ∧ Vals xs its.toList
def SqT (K : PySem.W.Frag) (H : Hp) (a : Addr) (xs : List V) : Prop :=
  Rd H a (.tup xs) ∨
    ∃ (o : Obj) (its : Array Value) (n : Nat), K.lookup a = some o ∧ o.cls = .type "tuple" ∧ o.data = .seq its n ∧ its.size ≤ sizeLine ∧ Vals xs its.toList
def absV : Value → Option V
  | .none => some .non
  | .bool b => some (.bl b)
  | .int i _ => some (.int i)
  | .str x _ => some (.str x)
  | .bytes b _ => some (.byt b)
  | .float b _ => some (.flt b)
  | .ref a => some (.ref a)
  | .type n => some (.ty n)
  | _ => none
theorem RelV.abs {x : V} {u : Value} (r : RelV x u) : absV u = some x := by
  cases x with
  | non => cases r; rfl
  | bl _ => cases r; rfl
  | int _ => obtain ⟨t, rfl⟩ := r; rfl
  | str _ => obtain ⟨t, rfl⟩ := r; rfl
  | byt _ => obtain ⟨t, rfl⟩ := r; rfl
  | flt _ => obtain ⟨t, rfl⟩ := r; rfl
  | ref _ => cases r; rfl
  | ty _ => cases r; rfl
theorem RelV.inj {x y : V} {u : Value} (r : RelV x u) (q : RelV y u) : x = y := Option.some.inj (r.abs.symm.trans q.abs)
theorem Vals.inj : ∀ {xs ys : List V} {us : List Value}, Vals xs us → Vals ys us → xs = ys
  | _, _, _, .nil, .nil => rfl
  | _, _, _, .cons r t, .cons r' t' => by rw [r.inj r', Vals.inj t t']
section
variable {X : Cx} {pins : List (Addr × Obj)} {σ : St} {H : Hp} {s : Shared} {a : Addr} {xs ys : List V}
theorem SqL.of {K : PySem.W.Frag} (h : H a = some (.lst xs)) : SqL K H a xs := .inl (.inl h)
theorem SqT.of {K : PySem.W.Frag} (h : H a = some (.tup xs)) : SqT K H a xs := .inl (.inl h)
theorem Inv.list (I : Inv X pins σ H s) (h : SqL X.K H a xs) : ∃ its : List Value, Vals xs its ∧ PlainL s.heap a its.toArray ∧ xs.length ≤ sizeLine := by
  rcases h with h | ⟨o, its, n, hk, hc, hd, hs, hz, r⟩
  · obtain ⟨z, its, n, r, e⟩ := h.ok I.hok
    exact ⟨its, r, ⟨_, n, e, rfl, rfl, rfl⟩, z⟩
  · refine ⟨its.toList, r, ⟨o, n, I.kIn a o hk, hc, hd, by simpa using hs⟩, ?_⟩
    have e := r.length
    simp only [Array.length_toList] at e
    omega
theorem Inv.tuple (I : Inv X pins σ H s) (h : SqT X.K H a xs) : ∃ its : List Value, Vals xs its ∧ IsTup s.heap a its.toArray ∧ xs.length ≤ sizeLine := by
  rcases h with h | ⟨o, its, n, hk, hc, hs, hz, r⟩
  · obtain ⟨z, its, r, p⟩ := h.ok I.hok
    exact ⟨its, r, p, z⟩
  · refine ⟨its.toList, r, ⟨o, I.kIn a o hk, hc, n, by simpa using hs⟩, ?_⟩
    have e := r.length
    simp only [Array.length_toList] at e
    omega
theorem Inv.list_inj (I : Inv X pins σ H s) (h : SqL X.K H a xs) (h' : SqL X.K H a ys) : xs = ys := by
  obtain ⟨its, r, ⟨o, n, e, _, _, d⟩, _⟩ := I.list h
  obtain ⟨its', r', ⟨o', n', e', _, _, d'⟩, _⟩ := I.list h'
  rw [e] at e'; cases e'
  rw [d] at d'
  injection d' with d1 _
  have : its = its' := by simpa using congrArg Array.toList d1
  subst this
  exact r.inj r'
theorem Inv.tuple_inj (I : Inv X pins σ H s) (h : SqT X.K H a xs) (h' : SqT X.K H a ys) : xs = ys := by
  obtain ⟨its, r, ⟨o, e, _, n, d⟩, _⟩ := I.tuple h
  obtain ⟨its', r', ⟨o', e', _, n', d'⟩, _⟩ := I.tuple h'
  rw [e] at e'; cases e'
  rw [d] at d'
  injection d' with d1 _
  have : its = its' := by simpa using congrArg Array.toList d1
  subst this
  exact r.inj r'
end

/-! ### another wish about exceptions -/
abbrev Cx.wish (X : Cx) (E : Value → Shared → Prop) : Cx := { X with xe := E }
/-- no exception leaves -/
abbrev Cx.nox (X : Cx) : Cx := X.wish fun _ _ => False
theorem Cx.Ok.wish {X : Cx} (ok : X.Ok) (E : Value → Shared → Prop) : (X.wish E).Ok :=
  ⟨ok.mod, ok.kind, ok.glob, ok.blt, ok.above, ok.inj, ok.has, ok.cab, ok.hd, ok.frames, ok.stk, ok.exf, ok.bs, ok.bsz, ok.noex, ok.exfs, ok.funs, ok.frf⟩
theorem Cx.Ok.unwish {X : Cx} {E : Value → Shared → Prop} (ok : (X.wish E).Ok) : X.Ok :=
  ⟨ok.mod, ok.kind, ok.glob, ok.blt, ok.above, ok.inj, ok.has, ok.cab, ok.hd, ok.frames, ok.stk, ok.exf, ok.bs, ok.bsz, ok.noex, ok.exfs, ok.funs, ok.frf⟩
section
variable {X : Cx} {pins : List (Addr × Obj)} {σ : St} {H : Hp} {s : Shared} {E : Value → Shared → Prop}
theorem Inv.wish (I : Inv X pins σ H s) (E : Value → Shared → Prop) : Inv (X.wish E) pins σ H s := ⟨I.ok.wish E, I.os, I.bare, I.base, I.loc, I.cell, I.free, I.freeC, I.pin, I.hok, I.len⟩
theorem Inv.unwish (I : Inv (X.wish E) pins σ H s) : Inv X pins σ H s := ⟨I.ok.unwish, I.os, I.bare, I.base, I.loc, I.cell, I.free, I.freeC, I.pin, I.hok, I.len⟩
theorem SP.unwish {D : Ends} {f : Flow} {s' : Shared} (h : SP (X.wish E) pins D f s') : SP X pins D f s' := by
  cases f with
  | next => obtain ⟨σ', H', I, q⟩ := h; exact ⟨σ', H', I.unwish, q⟩
  | brk => obtain ⟨σ', H', I, q⟩ := h; exact ⟨σ', H', I.unwish, q⟩
  | cont => obtain ⟨σ', H', I, q⟩ := h; exact ⟨σ', H', I.unwish, q⟩
  | ret u => obtain ⟨v, σ', H', I, r, q⟩ := h; exact ⟨v, σ', H', I.unwish, r, q⟩
theorem PSs.nox {st : List Stmt} {t : TS} (h : PSs X.nox st t) : PSs X st t := fun pins s σ H D I hw =>
  wpAny_mono (h pins s σ H D (I.wish _) hw) (fun _ _ q => q.unwish) fun _ _ z => False.elim z
end

/-! ### blocks and small statements -/
section
variable {X : Cx} {st : Stmt} {rest : List Stmt} {t u : TS} {e : Expr} {te : TE} {pos : Pos}
def tNext : TS := fun D σ H => D.nx σ H
def tSeq (t u : TS) : TS := fun D σ H => t { D with nx := u D } σ H
theorem pss_nil : PSs X [] tNext := fun _ _ σ H _ I h => wpAny_execs_nil ⟨σ, H, I, h⟩
theorem pss_cons (h1 : PS X st t) (h2 : PSs X rest u) : PSs X (st :: rest) (tSeq t u) := by
  intro pins s σ H D I h
  refine wpAny_execs_cons (thn (h1 pins s σ H { D with nx := u D } I h) fun f s1 q => ?_)
  cases f with
  | next =>
    obtain ⟨σ', H', I', q⟩ := q
    exact h2 pins s1 σ' H' D I' q
  | ret v => exact q
  | brk => exact q
  | cont => exact q
theorem pss_one (h1 : PS X st t) : PSs X [st] t := by
  intro pins s σ H D I h
  refine wpAny_execs_cons (thn (h1 pins s σ H D I h) fun f s1 q => ?_)
  cases f with
  | next => exact wpAny_execs_nil q
  | ret v => exact q
  | brk => exact q
  | cont => exact q
/-- in a def's body nothing is shown -/
theorem Inv.quiet {pins : List (Addr × Obj)} {σ : St} {H : Hp} {s : Shared} (I : Inv X pins σ H s) : interactive X.env = false := by simp [interactive, I.ok.kind]
/-- an expression whose value is dropped -/
def tDrop (te : TE) : TS := fun D σ H => te σ H fun _ H1 => D.nx σ H1
theorem ps_expr (he : PE X e te) (hs : swapsWith e none pos.line X.env = pure false := by rfl) : PS X (.Expr e pos) (tDrop te) := by
  intro pins s σ H D I h
  exact wpAny_Expr_any (thn (he pins s σ H _ I h) fun v s1 ⟨x, H1, I1, r1, q1⟩ => ⟨σ, H1, I1, q1⟩) I.quiet hs
def tRet (te : TE) : TS := fun D σ H => te σ H D.rt
theorem ps_ret (he : PE X e te) : PS X (.Return (some e) pos) (tRet te) := by
  intro pins s σ H D I h
  exact wpAny_Return_some (thn (he pins s σ H _ I h) fun v s1 ⟨x, H1, I1, r1, q1⟩ => ⟨x, σ, H1, I1, r1, q1⟩)
def tIfS (c : TT) (t u : TS) : TS := fun D σ H => c σ H fun b H1 => if b = true then t D σ H1 else u D σ H1
theorem ps_if {c : Expr} {a b : List Stmt} {tc : TT} (hc : PT X c tc) (ha : PSs X a t) (hb : PSs X b u) : PS X (.If c a b pos) (tIfS tc t u) := by
  intro pins s σ H D I h
  refine wpAny_If (thn (hc pins s σ H _ I h) fun d s1 ⟨H1, I1, q1⟩ => ?_)
  cases d with
  | true => exact ha pins s1 σ H1 D I1 q1
  | false => exact hb pins s1 σ H1 D I1 q1
/-- code that the proof never comes to -/
def tNever : TS := fun _ _ _ => False
theorem pss_never {sts : List Stmt} : PSs X sts tNever := fun _ _ _ _ _ _ h => h.elim
end

/-! ### targets -/
abbrev TG := V → St → Hp → (St → Hp → Prop) → Prop
abbrev TGs := List V → St → Hp → (St → Hp → Prop) → Prop
def PG (X : Cx) (target : Expr) (t : TG) : Prop :=
  ∀ (pins : List (Addr × Obj)) (s : Shared) (σ : St) (H : Hp) (v : V) (u : Value) (Q : St → Hp → Prop), Inv X pins σ H s → RelV v u → t v σ H Q →
    wpAny (model X.prog X.w) X.A (assign target X.env u) (fun _ s' => ∃ σ' H', Inv X pins σ' H' s' ∧ Q σ' H') X.xe s
/-- several targets, one after another -/
def PGs (X : Cx) (ts : List Expr) (t : TGs) : Prop :=
  ∀ (pins : List (Addr × Obj)) (s : Shared) (σ : St) (H : Hp) (vs : List V) (us : List Value) (Q : St → Hp → Prop), Inv X pins σ H s → Vals vs us → t vs σ H Q →
    wpAny (model X.prog X.w) X.A (assignInOrder ((assignEach ts X.env).map (·.2)) us) (fun _ s' => ∃ σ' H', Inv X pins σ' H' s' ∧ Q σ' H') X.xe s
/-- o[i] = v, by values -/
abbrev TSet := V → V → V → Hp → (Hp → Prop) → Prop
def PSet (X : Cx) (t : TSet) : Prop :=
  ∀ (pins : List (Addr × Obj)) (s : Shared) (σ : St) (H : Hp) (o i v : V) (ov iv u : Value) (Q : Hp → Prop), Inv X pins σ H s → RelV o ov → RelV i iv → RelV v u → t o i v H Q →
    wpAny (model X.prog X.w) X.A (setItem ov iv u) (fun _ s' => ∃ H', Inv X pins σ H' s' ∧ Q H') X.xe s
section
variable {X : Cx} {pos : Pos}
def gName (i : Nat) : TG := fun v σ H Q => Q (σ.set i (some v)) H
theorem pg_name {i : Nat} {x : Str} (hN : X.N.Nodup) (hi : X.N[i]? = some x) (hx : Loc X.env.scope x) (hf : X.fn x = true ∨ X.env.scope.names.lookup x = some .local := by first | exact .inl rfl | exact .inr rfl | assumption) : PG X (.Name x pos) (gName i) := by
  intro pins s σ H v u Q I r h
  exact wpAny_assign_Name (store_ok I hN hi hx r (fun s' I' => ⟨_, H, I', h⟩) hf)
def gNil : TGs := fun vs σ H Q => vs = [] ∧ Q σ H
def gCons (t : TG) (u : TGs) : TGs := fun vs σ H Q => ∃ v r, vs = v :: r ∧ t v σ H fun σ' H' => u r σ' H' Q
theorem pgs_nil : PGs X [] gNil := by
  intro pins s σ H vs us Q I r h
  obtain ⟨e, h⟩ := h
  subst e
  cases r
  exact assignInOrder_nil ⟨σ, H, I, h⟩
theorem pgs_cons {e : Expr} {es : List Expr} {t : TG} {u : TGs} (h1 : PG X e t) (h2 : PGs X es u)
    (hs : (assignEach (e :: es) X.env).map (·.2) = assign e X.env :: (assignEach es X.env).map (·.2) := by rfl) : PGs X (e :: es) (gCons t u) := by
  intro pins s σ H vs us Q I r h
  obtain ⟨v, vr, e1, h⟩ := h
  subst e1
  cases r with
  | cons r rr =>
    rw [hs]
    refine assignInOrder_cons (thn (h1 pins s σ H _ _ _ I r h) fun _ s1 ⟨σ1, H1, I1, q1⟩ => ?_)
    exact h2 pins s1 σ1 H1 _ _ Q I1 rr q1
/-- (a, b, ..) = a tuple of that length -/
def gTup (K : PySem.W.Frag) (n : Nat) (t : TGs) : TG := fun v σ H Q => ∃ a xs, v = .ref a ∧ SqT K H a xs ∧ xs.length = n ∧ t xs σ H Q
theorem pg_tup {es : List Expr} {k : Nat} {t : TGs} {n : Nat} (hc : X.calm = true) (h : PGs X es t)
    (hn : (assignEach es X.env).length = n := by rfl) (hst : (assignEach es X.env).findIdx? (·.1) = none := by rfl) : PG X (.Tuple es k pos) (gTup X.K n t) := by
  intro pins s σ H v u Q I r hw
  obtain ⟨a, xs, e1, hq, hl, hw⟩ := hw
  subst e1
  cases r
  obtain ⟨its, rv, ht, hz⟩ := I.tuple hq
  refine assign_Tuple_tuple (I.ok.hd hc) ht (by simp [hn, ← hl, rv.length]) hst fun h' hx => ?_
  have I1 : Inv X pins σ H { s with heap := h' } := I.kept (t' := s.toks) fun b o e => hx b o (Nat.ne_of_lt (Heap.lt_size e)) e
  exact h pins _ σ H xs _ Q I1 (by simpa using rv) hw
/-- o[i] = .. -/
def gSub (to ti : TE) (t : TSet) : TG := fun v σ H Q => to σ H fun o H1 => ti σ H1 fun i H2 => t o i v H2 fun H3 => Q σ H3
theorem pg_sub {o i : Expr} {to ti : TE} {t : TSet} (ho : PE X o to) (hi : PE X i ti) (hs : PSet X t)
    (ha : ∀ v, assign (.Subscript o i pos) X.env v = (do
      let ov ← holding [v] (eval o X.env)
      let iv ← holding [v, ov] (eval i X.env)
      standAt pos
      holding [v, ov, iv] (setItem ov iv v)
      release [v, ov, iv] []) := by intro _; rfl) : PG X (.Subscript o i pos) (gSub to ti t) := by
  intro pins s σ H v u Q I r h
  rw [ha]
  refine wpAny_bind (wpAny_holding (thn (ho pins s σ H _ I h) fun ov s1 ⟨x, H1, I1, r1, q1⟩ => ?_))
  refine wpAny_bind (wpAny_holding (thn (hi pins s1 σ H1 _ I1 q1) fun iv s2 ⟨y, H2, I2, r2, q2⟩ => ?_))
  refine wpAny_bind (wpAny_standAt (wpAny_bind (wpAny_holding (thn (hs pins s2 σ H2 x y v ov iv u _ I2 r1 r2 r q2) fun _ s3 ⟨H3, I3, q3⟩ => ?_))))
  exact wpAny_release ⟨σ, H3, I3, q3⟩
/-- target = value -/
def tAsg (te : TE) (g : TG) : TS := fun D σ H => te σ H fun x H1 => g x σ H1 D.nx
theorem ps_asg {tg e : Expr} {te : TE} {g : TG} (he : PE X e te) (hg : PG X tg g) (hs : swapsWithSole [tg] e pos.line X.env = pure false := by rfl) (hw : swappedStores [tg] e X.env = pure none := by rfl)
    (h1 : (assignEach [tg] X.env).map (·.2) = [assign tg X.env] := by rfl) : PS X (.Assign [tg] e pos) (tAsg te g) := by
  intro pins s σ H D I h
  refine wpAny_Assign_stores (thn (he pins s σ H _ I h) fun v s1 ⟨x, H1, I1, r1, q1⟩ => ?_) hs hw
  rw [h1]
  exact thn (hg pins s1 σ H1 x v _ I1 r1 q1) fun _ s2 q => q
/-- name = value -/
theorem ps_set {i : Nat} {x : Str} {e : Expr} {te : TE} {pos' : Pos} (hN : X.N.Nodup) (hi : X.N[i]? = some x) (hx : Loc X.env.scope x) (he : PE X e te) (hs : swapsWith e (some (.Name x pos')) pos.line X.env = pure false := by rfl) (hf : X.fn x = true ∨ X.env.scope.names.lookup x = some .local := by first | exact .inl rfl | exact .inr rfl | assumption) :
    PS X (.Assign [.Name x pos'] e pos) (tAsg te (gName i)) := by
  intro pins s σ H D I h
  refine wpAny_Assign_Name (thn (he pins s σ H _ I h) fun v s1 ⟨y, H1, I1, r1, q1⟩ => ?_) hs
  exact store_ok I1 hN hi hx r1 (fun s2 I2 => ⟨_, H1, I2, q1⟩) hf
/-- a, b = x, y with plain local names: stored from the right; the pair itself is not tracked (the opening rows as in PyProof/Rows/TupAssign.lean:23) -/
def tPar (i j : Nat) (ta : TA) : TS := fun D σ H => ta σ H fun vs H1 => ∃ v w, vs = [v, w] ∧ D.nx ((σ.set i (some v)).set j (some w)) H1
theorem ps_par {i j : Nat} {x y : Str} {a b : Expr} {ta : TA} {px py pt : Pos} {kt k2 pt2} (hc : X.calm = true) (hN : X.N.Nodup) (hi : X.N[i]? = some x) (hj : X.N[j]? = some y) (hij : i ≠ j)
    (hx : X.env.scope.names.lookup x = some .local) (hy : X.env.scope.names.lookup y = some .local) (ha : PA X [a, b] ta)
    (hw : swappedStores [.Tuple [.Name x px, .Name y py] kt pt] (.Tuple [a, b] k2 pt2) X.env = pure (some [x, y]))
    (hs : swapsWithSole [.Tuple [.Name x px, .Name y py] kt pt] (.Tuple [a, b] k2 pt2) pos.line X.env = pure false := by rfl) :
    PS X (.Assign [.Tuple [.Name x px, .Name y py] kt pt] (.Tuple [a, b] k2 pt2) pos) (tPar i j ta) := by
  intro pins s σ H D I h
  rw [exec_Assign_arm]
  refine wpAny_bind (wpAny_standAt ?_)
  rw [hs]
  refine wpAny_bind (wpAny_pure ?_)
  rw [if_neg (by decide)]
  refine wpAny_bind (Tuple_ (thn (ha _ pins s σ H _ I h) fun us s1 ⟨vs, H1, I1, r1, q1⟩ => ?_))
  obtain ⟨v, w, e1, q1⟩ := q1
  subst e1
  obtain ⟨u1, u2, rfl, rv, rw'⟩ : ∃ u1 u2, us = [u1, u2] ∧ RelV v u1 ∧ RelV w u2 := by
    cases r1 with
    | cons p q =>
      cases q with
      | cons p' q' =>
        cases q'
        exact ⟨_, _, rfl, p, p'⟩
  refine wpAny_newObj_type ?_ (by show 2 ≤ sizeLine; decide)
  have I2 : Inv X pins σ H1 { s1 with heap := s1.heap.push { cls := .type "tuple", data := .seq [u1, u2].toArray } } := I1.kept (t' := s1.toks) fun b o e => Heap.get?_push_of_some _ e
  rw [hw]
  refine wpAny_bind (wpAny_pure ?_)
  show wpAny (model X.prog X.w) X.A (do rule "assign.swapped-stores"; let items ← unpackItems (.ref s1.heap.objs.size) 2 none; assignInOrder [fun v => bindName X.env y v, fun v => bindName X.env x v] items.reverse; pure Flow.next) _ _ _
  refine wpAny_bind (wpAny_rule (wpAny_bind (unpackItems_tuple (items := #[u1, u2]) (I.ok.hd hc) (IsTup.new s1.heap _) fun h' hx' => ?_)))
  have I3 := I2.kept (h' := h') (t' := s1.toks) fun b o e => hx' b o (Nat.ne_of_lt (Heap.lt_size e)) e
  show wpAny _ _ (assignInOrder [fun v => bindName X.env y v, fun v => bindName X.env x v] [u2, u1] >>= fun _ => pure Flow.next) _ _ _
  refine wpAny_bind (assignInOrder_cons (wpAny_bindName (store_ok I3 hN hj (.inl hy) rw' (fun s2 I4 => ?_) (.inr hy))))
  refine assignInOrder_cons (wpAny_bindName (store_ok I4 hN hi (.inl hx) rv (fun s3 I5 => assignInOrder_nil (wpAny_pure ?_)) (.inr hx)))
  rw [List.set_comm _ _ (Ne.symm hij)] at I5
  exact ⟨_, H1, I5, q1⟩
end

/-! ### while -/
section
variable {X : Cx} {pos : Pos}
/-- the invariant W with its measure -/
def tWhile (c : TT) (tb : TS) : TS := fun D σ H => ∃ W : Nat → St → Hp → Prop, (∃ m, W m σ H) ∧ ∀ m σ H, W m σ H →
  c σ H fun b H1 => if b = true then ∃ N : St → Hp → Prop, (∀ σ' H', N σ' H' → ∃ m', m' < m ∧ W m' σ' H') ∧ tb { D with nx := N, ct := N, bk := D.nx } σ H1 else D.nx σ H1
theorem ps_while {c : Expr} {body : List Stmt} {tc : TT} {tb : TS} (hp : PassesOwn (model X.prog X.w) X.A X.env X.xe) (hc : PT X c tc) (hb : PSs X body tb) : PS X (.While c body [] pos) (tWhile tc tb) := by
  intro pins s σ H D I h
  obtain ⟨W, ⟨m0, w0⟩, turn⟩ := h
  refine wpAny_While (codeAny_whileLoop (fun n s' => ∃ σ' H', Inv X pins σ' H' s' ∧ W n σ' H') ?_ m0 ⟨σ, H, I, w0⟩)
  rintro n s1 ⟨σ1, H1, I1, w1⟩
  refine wpAny_passesOwn hp (thn (hc pins s1 σ1 H1 _ I1 (turn n σ1 H1 w1)) fun b s2 ⟨H2, I2, q2⟩ => ?_)
  cases b with
  | true =>
    obtain ⟨N, hN, q2⟩ := q2
    rw [if_pos rfl]
    refine wpAny_passesOwn hp (thn (hb pins s2 σ1 H2 _ I2 q2) fun f s3 q3 => ?_)
    cases f with
    | next =>
      obtain ⟨σ3, H3, I3, n3⟩ := q3
      obtain ⟨m', hm, w3⟩ := hN σ3 H3 n3
      exact ⟨m', hm, σ3, H3, I3, w3⟩
    | cont =>
      obtain ⟨σ3, H3, I3, n3⟩ := q3
      obtain ⟨m', hm, w3⟩ := hN σ3 H3 n3
      exact ⟨m', hm, σ3, H3, I3, w3⟩
    | brk => exact q3
    | ret v => exact q3
  | false =>
    rw [if_neg Bool.false_ne_true]
    exact wpAny_execs_nil ⟨σ1, H2, I2, q2⟩
end

/-! ### what a loop or a comprehension walks -/
/-- at turn i: it yields x (the heap may grow), or it stops -/
structure It where
  go : Nat → Hp → Prop
  yld : Nat → Hp → V → Hp → Prop
  stop : Nat → Hp → Prop
/-- the iterator's own objects may turn: they are not the frame's, not pinned, younger than the entry (or a comprehension's own) -/
def FpOk (X : Cx) (pins : List (Addr × Obj)) (H : Hp) (b : Addr) : Prop :=
  H b = none ∧ b ≠ X.env.locals ∧ b ∉ X.fs ∧ (b ∈ X.ex ∨ X.s₀.heap.objs.size ≤ b) ∧ (∀ x c, X.env.cells.lookup x = some c → c ≠ b) ∧ ∀ p ∈ X.pn ++ pins, p.1 ≠ b
theorem Inv.fpOk {X : Cx} {pins : List (Addr × Obj)} {σ : St} {H H' : Hp} {s : Shared} {b : Addr} (I : Inv X pins σ H s) (hb : s.heap.objs.size ≤ b) (hn : H' b = none) : FpOk X pins H' b := by
  refine ⟨hn, Nat.ne_of_gt (Nat.lt_of_lt_of_le I.lt hb), I.nofs hb, .inr (Nat.le_trans I.sz hb), fun x c e z => ?_, fun p hp z => ?_⟩
  · obtain ⟨v, q⟩ := I.cell x c e
    exact absurd (Nat.lt_of_lt_of_le q.lt (by rw [z]; exact hb)) (Nat.lt_irrefl _)
  · exact absurd (Nat.lt_of_lt_of_le (Heap.lt_size (I.pin p hp).1) (by rw [z]; exact hb)) (Nat.lt_irrefl _)
structure Turn (P : Program) (w : World) (K : PySem.W.Frag) (tg : Expr) (J : It) (fp : List Addr) (it : Addr) (tn : Nat → Heap → Prop) : Prop where
  mem : it ∈ fp
  obj : ∀ i h, tn i h → ∀ b ∈ fp, ∃ o, h.get? b = some o ∧ ∀ v, o.data ≠ .cell v
  keep : ∀ i h h', tn i h → (∀ b ∈ fp, ∀ o, h.get? b = some o → h'.get? b = some o) → tn i h'
  item : ∀ (X : Cx), X.prog = P → X.w = w → X.K = K → X.calm = true → ∀ (i : Nat) (pins : List (Addr × Obj)) (s : Shared) (σ : St) (H : Hp) (E : Value → Shared → Prop), Inv X pins σ H s → (∀ b ∈ fp, FpOk X pins H b) → tn i s.heap → J.go i H →
    wpAny (model P w) X.A (pyNext (.ref it)) (fun r s1 => ∃ u, r = some u ∧
      wpAny (model P w) X.A (letOwnedTupleGo tg (.ref it) u) (fun _ s2 => ∃ x H', Inv X pins σ H' s2 ∧ RelV x u ∧ J.yld i H x H' ∧ tn (i + 1) s2.heap ∧ ∀ b ∈ fp, H' b = none) E s1) E s
  done : ∀ (X : Cx), X.prog = P → X.w = w → X.K = K → X.calm = true → ∀ (i : Nat) (pins : List (Addr × Obj)) (s : Shared) (σ : St) (H : Hp) (E : Value → Shared → Prop), Inv X pins σ H s → (∀ b ∈ fp, FpOk X pins H b) → tn i s.heap → J.stop i H →
    wpAny (model P w) X.A (pyNext (.ref it)) (fun r s1 => r = none ∧ Inv X pins σ H s1) E s
  self : ∀ (A : Around) (i : Nat) (s : Shared) (Q : Value → Shared → Prop) (E : Value → Shared → Prop), tn i s.heap → Q (.ref it) s → wpAny (model P w) A (pyIter (.ref it)) Q E s
abbrev TI := St → Hp → (It → Hp → Prop) → Prop
/-- an iterator has come -/
def PIE (X : Cx) (pins : List (Addr × Obj)) (σ : St) (tg : Expr) (R : It → Hp → Prop) (itv : Value) (s2 : Shared) : Prop :=
  ∃ (it : Addr) (fp : List Addr) (tn : Nat → Heap → Prop) (J : It) (H' : Hp), itv = .ref it ∧ Inv X pins σ H' s2 ∧ Turn X.prog X.w X.K tg J fp it tn ∧ tn 0 s2.heap ∧ (∀ b ∈ fp, FpOk X pins H' b) ∧ R J H'
def PI (X : Cx) (tg iter : Expr) (wi : TI) : Prop :=
  ∀ (pins : List (Addr × Obj)) (s : Shared) (σ : St) (H : Hp) (R : It → Hp → Prop), Inv X pins σ H s → wi σ H R →
    wpAny (model X.prog X.w) X.A (eval iter X.env) (fun v s1 => wpAny (model X.prog X.w) X.A (pyIter v) (PIE X pins σ tg R) X.xe s1) X.xe s

/-- the step ahead of the store is nothing for an iterator that keeps no tuple -/
theorem go_of {M : Model} {A : Around} {E : Value → Shared → Prop} {s : Shared} {tg : Expr} {it : Addr} {u : Value} {o : Obj} {n : String} {vs : Array Value} {Q : Unit → Shared → Prop} (ho : s.heap.get? it = some o) (hc : o.cls = .type n) (hd : o.data = .fields vs)
    (hn : ["enumerate", "zip", "dict_itemiterator", "dict_reverseitemiterator", "odict_iterator", "itertools.zip_longest", "itertools.pairwise"].contains n = false) (hQ : Q () s) : wpAny M A (letOwnedTupleGo tg (.ref it) u) Q E s := by
  unfold letOwnedTupleGo
  cases tg <;> first
    | exact wpAny_pure hQ
    | (cases u <;> first
        | exact wpAny_pure hQ
        | (refine wpAny_bind (wpAny_load ho ?_)
           rw [hc, hd]
           show wpAny M A (if (["enumerate", "zip", "dict_itemiterator", "dict_reverseitemiterator", "odict_iterator", "itertools.zip_longest", "itertools.pairwise"].contains n && vs[0]? == some (rawInt _)) = true then _ else _) Q E s
           rw [if_neg (by intro h; rw [hn, Bool.false_and] at h; cases h)]
           exact wpAny_pure hQ))

/-- the list at a, as it stands at each turn (a loop may append to it) -/
def Itl (K : PySem.W.Frag) (a : Addr) : It :=
  ⟨fun i H => ∃ xs x, SqL K H a xs ∧ xs[i]? = some x, fun i H x H' => H' = H ∧ ∀ xs, SqL K H a xs → xs[i]? = some x, fun i H => ∃ xs, SqL K H a xs ∧ xs.length ≤ i⟩
def Itt (K : PySem.W.Frag) (a : Addr) : It :=
  ⟨fun i H => ∃ xs x, SqT K H a xs ∧ xs[i]? = some x, fun i H x H' => H' = H ∧ ∀ xs, SqT K H a xs → xs[i]? = some x, fun i H => ∃ xs, SqT K H a xs ∧ xs.length ≤ i⟩
/-- lo, lo + 1, .. (n of them) -/
def Itr (lo : Int) (n : Nat) : It := ⟨fun i _ => i < n, fun i H x H' => H' = H ∧ x = .int (lo + i), fun i _ => n ≤ i⟩
theorem turn_list {P : Program} {w : World} {K : PySem.W.Frag} {tg : Expr} (a it : Addr) : Turn P w K tg (Itl K a) [it] it (fun i h => h.IsListIter it a i) where
  mem := by simp
  obj := fun i h st b hb => by
    have e : b = it := by simpa using hb
    subst e
    obtain ⟨o, e, c, d⟩ := st
    exact ⟨o, e, fun v z => by rw [d] at z; cases z⟩
  keep := fun i h h' st k => st.at fun o e => k it (by simp) o e
  item := by
    intro X hP hw hK hc i pins s σ H E I hf st hg
    subst hP hw hK
    obtain ⟨xs, x, hq, hx⟩ := hg
    obtain ⟨its, rv, p, hz⟩ := I.list hq
    obtain ⟨u, hu, ru⟩ := rv.get hx
    obtain ⟨f0, f1, f2, f3, f4, f5⟩ := hf it (by simp)
    refine wpAny_pyNext_list_item st p.isList (x := u) (by simpa using hu) fun h' st' sb => ?_
    have I1 : Inv X pins σ H { s with heap := h' } := I.turned (t' := s.toks) (fun b o hb e => (sb.2 b hb).trans e) f0 f1 f3 f4 f5
    obtain ⟨o, e, c, d⟩ := id st'
    exact ⟨u, rfl, go_of (s := { s with heap := h' }) e c d (by decide) ⟨x, H, I1, ru, ⟨rfl, fun ys hy => by rw [I.list_inj hy hq]; exact hx⟩, st', fun b hb => (hf b hb).1⟩⟩
  done := by
    intro X hP hw hK hc i pins s σ H E I hf st hg
    subst hP hw hK
    obtain ⟨xs, hq, hx⟩ := hg
    obtain ⟨its, rv, p, hz⟩ := I.list hq
    obtain ⟨f0, f1, f2, f3, f4, f5⟩ := hf it (by simp)
    have hl := rv.length
    exact wpAny_pyNext_list_end (I.ok.hd hc) st p.isList (by simp; omega) fun h' eb => ⟨rfl, I.turned (t' := s.toks) (fun b o hb e => eb b o hb e) f0 f1 f3 f4 f5⟩
  self := fun _ _ _ _ _ st h => wpAny_pyIter_listiter st h
theorem turn_tuple {P : Program} {w : World} {K : PySem.W.Frag} {tg : Expr} (a it : Addr) : Turn P w K tg (Itt K a) [it] it (fun i h => h.IsTupleIter it a i) where
  mem := by simp
  obj := fun i h st b hb => by
    have e : b = it := by simpa using hb
    subst e
    obtain ⟨o, e, c, d⟩ := st
    exact ⟨o, e, fun v z => by rw [d] at z; cases z⟩
  keep := fun i h h' st k => st.at fun o e => k it (by simp) o e
  item := by
    intro X hP hw hK hc i pins s σ H E I hf st hg
    subst hP hw hK
    obtain ⟨xs, x, hq, hx⟩ := hg
    obtain ⟨its, rv, p, hz⟩ := I.tuple hq
    obtain ⟨u, hu, ru⟩ := rv.get hx
    obtain ⟨f0, f1, f2, f3, f4, f5⟩ := hf it (by simp)
    refine wpAny_pyNext_tuple_item st (show s.heap.IsTuple a its.toArray from p) (x := u) (by simpa using hu) fun h' st' sb => ?_
    have I1 : Inv X pins σ H { s with heap := h' } := I.turned (t' := s.toks) (fun b o hb e => (sb.2 b hb).trans e) f0 f1 f3 f4 f5
    obtain ⟨o, e, c, d⟩ := id st'
    exact ⟨u, rfl, go_of (s := { s with heap := h' }) e c d (by decide) ⟨x, H, I1, ru, ⟨rfl, fun ys hy => by rw [I.tuple_inj hy hq]; exact hx⟩, st', fun b hb => (hf b hb).1⟩⟩
  done := by
    intro X hP hw hK hc i pins s σ H E I hf st hg
    subst hP hw hK
    obtain ⟨xs, hq, hx⟩ := hg
    obtain ⟨its, rv, p, hz⟩ := I.tuple hq
    obtain ⟨f0, f1, f2, f3, f4, f5⟩ := hf it (by simp)
    have hl := rv.length
    exact wpAny_pyNext_tuple_end (I.ok.hd hc) st (show s.heap.IsTuple a its.toArray from p) (by simp; omega) fun h' eb => ⟨rfl, I.turned (t' := s.toks) (fun b o hb e => eb b o hb e) f0 f1 f3 f4 f5⟩
  self := fun _ _ _ _ _ st h => wpAny_pyIter_tupleiter st h
theorem turn_range {P : Program} {w : World} {K : PySem.W.Frag} {tg : Expr} (it : Addr) (lo : Int) (n : Nat) : Turn P w K tg (Itr lo n) [it] it (fun i h => IsRangeIter h it (lo + (i : Nat) * 1) ((n : Int) - (i : Nat)) 1) where
  mem := by simp
  obj := fun i h st b hb => by
    have e : b = it := by simpa using hb
    subst e
    exact ⟨_, st, fun v z => by
      have z' : Data.fields _ = Data.cell v := z
      cases z'⟩
  keep := fun i h h' st k => k it (by simp) _ st
  item := by
    intro X hP hw hK hc i pins s σ H E I hf st hg
    subst hP hw hK
    obtain ⟨f0, f1, f2, f3, f4, f5⟩ := hf it (by simp)
    have W := Walks.range (prog := X.prog) (w := X.w) (I.ok.hd hc) it lo 1 n
    refine W.item i s _ _ hg st fun v h' tk hv st' kk => ?_
    obtain ⟨t, rfl⟩ := hv
    have I1 : Inv X pins σ H { s with heap := h', toks := tk } := I.turned (fun b o hb e => kk b o (by simpa using hb) e) f0 f1 f3 f4 f5
    refine ⟨_, rfl, go_of (s := { s with heap := h', toks := tk }) (n := "range_iterator") st' rfl rfl (by decide) ⟨.int (lo + i), H, I1, ⟨t, ?_⟩, ⟨rfl, rfl⟩, st', fun b hb => (hf b hb).1⟩⟩
    rw [Int.mul_one]
  done := by
    intro X hP hw hK hc i pins s σ H E I hf st hg
    subst hP hw hK
    obtain ⟨f0, f1, f2, f3, f4, f5⟩ := hf it (by simp)
    exact wpAny_pyNext_range_end (I.ok.hd hc) st (by have : n ≤ i := hg; omega) fun h' eb => ⟨rfl, I.turned (t' := s.toks) (fun b o hb e => eb b o hb e) f0 f1 f3 f4 f5⟩
  self := fun _ _ _ _ _ st h => wpAny_pyIter_rangeiter st h
end L2

namespace L2
open PySem PySem.Spec PyProof.Rows
section
variable {X : Cx} {tg : Expr}
def iList (K : PySem.W.Frag) (tl : TE) : TI := fun σ H R => tl σ H fun x H1 => ∃ a, x = .ref a ∧ (∃ xs, SqL K H1 a xs) ∧ R (Itl K a) H1
def iTup (K : PySem.W.Frag) (tl : TE) : TI := fun σ H R => tl σ H fun x H1 => ∃ a, x = .ref a ∧ (∃ xs, SqT K H1 a xs) ∧ R (Itt K a) H1
theorem pi_list {l : Expr} {tl : TE} (hl : PE X l tl) : PI X tg l (iList X.K tl) := by
  intro pins s σ H R I h
  refine thn (hl pins s σ H _ I h) fun v s1 ⟨x, H1, I1, r1, q1⟩ => ?_
  obtain ⟨a, e, ⟨xs, hq⟩, q⟩ := q1
  subst e
  cases r1
  obtain ⟨its, rv, p, hz⟩ := I1.list hq
  refine wpAny_pyIter_list p.isList ?_
  refine ⟨s1.heap.objs.size, [s1.heap.objs.size], _, _, H1, rfl, I1.kept (t' := s1.toks) fun b o e => Heap.get?_push_of_some _ e, turn_list a _, ⟨_, Heap.get?_push_size _ rfl, rfl, rfl⟩, fun b hb => ?_, q⟩
  have e : b = s1.heap.objs.size := by simpa using hb
  subst e
  exact I1.fpOk (Nat.le_refl _) (I1.hok.fresh (Nat.le_refl _))
theorem pi_tup {l : Expr} {tl : TE} (hl : PE X l tl) : PI X tg l (iTup X.K tl) := by
  intro pins s σ H R I h
  refine thn (hl pins s σ H _ I h) fun v s1 ⟨x, H1, I1, r1, q1⟩ => ?_
  obtain ⟨a, e, ⟨xs, hq⟩, q⟩ := q1
  subst e
  cases r1
  obtain ⟨its, rv, p, hz⟩ := I1.tuple hq
  refine wpAny_pyIter_tuple (show s1.heap.IsTuple a its.toArray from p) ?_
  refine ⟨s1.heap.objs.size, [s1.heap.objs.size], _, _, H1, rfl, I1.kept (t' := s1.toks) fun b o e => Heap.get?_push_of_some _ e, turn_tuple a _, ⟨_, Heap.get?_push_size _ rfl, rfl, rfl⟩, fun b hb => ?_, q⟩
  have e : b = s1.heap.objs.size := by simpa using hb
  subst e
  exact I1.fpOk (Nat.le_refl _) (I1.hok.fresh (Nat.le_refl _))
/-- a range object just made, walked -/
theorem range_it {pins : List (Addr × Obj)} {σ : St} {H : Hp} {s : Shared} {R : It → Hp → Prop} {E : Value → Shared → Prop} {lo hi : Int} {t u v : Tok} {tk : Nat} (I : Inv X pins σ H s) (h1 : -(2 ^ 62) ≤ lo) (h2 : lo < 2 ^ 62) (h3 : -(2 ^ 62) ≤ hi) (h4 : hi < 2 ^ 62)
    (q : R (Itr lo (hi - lo).toNat) H) : wpAny (model X.prog X.w) X.A (pyIter (.ref s.heap.objs.size)) (PIE X pins σ tg R) E { s with heap := s.heap.push { cls := .type "range", data := .fields #[.int lo t, .int hi u, .int 1 v] }, toks := tk } := by
  refine wpAny_pyIter_range (IsRange.new ..) (small_one h1 h2 h3 h4) ?_
  have I1 : Inv X pins σ H { s with heap := s.heap.push { cls := .type "range", data := .fields #[.int lo t, .int hi u, .int 1 v] }, toks := tk } := I.kept fun b o e => Heap.get?_push_of_some _ e
  refine ⟨(s.heap.push { cls := .type "range", data := .fields #[.int lo t, .int hi u, .int 1 v] }).objs.size, [(s.heap.push { cls := .type "range", data := .fields #[.int lo t, .int hi u, .int 1 v] }).objs.size], _, _, H, rfl,
    I1.kept (t' := tk) fun b o e => Heap.get?_push_of_some _ e, turn_range _ lo (hi - lo).toNat, ?_, fun b hb => ?_, q⟩
  · have e1 : lo + ((0 : Nat) : Int) * 1 = lo := by simp
    have e2 : (((hi - lo).toNat : Nat) : Int) - ((0 : Nat) : Int) = Builtin.Range.rangeSize lo hi 1 := by rw [rangeSize_one]; split <;> omega
    show IsRangeIter _ _ (lo + ((0 : Nat) : Int) * 1) ((((hi - lo).toNat : Nat) : Int) - ((0 : Nat) : Int)) 1
    rw [e1, e2]
    exact Heap.get?_push_size _ rfl
  · have e : b = (s.heap.push { cls := .type "range", data := .fields #[.int lo t, .int hi u, .int 1 v] }).objs.size := by simpa using hb
    subst e
    exact I1.fpOk (Nat.le_refl _) (I1.hok.fresh (Nat.le_refl _))
def iRng1 (ta : TA) : TI := fun σ H R => ta σ H fun vs H1 => ∃ j : Int, vs = [.int j] ∧ -(2 ^ 62) ≤ j ∧ j < 2 ^ 62 ∧ R (Itr 0 j.toNat) H1
theorem pi_range1 {a : Expr} {ta : TA} {p pos : Pos} (hg : Gl X "range") (hm : X.mg "range" = none) (ha : PA X [a] ta) (hs : starEach [a] X.env = [(false, eval a X.env)] := by rfl) : PI X tg (.Call (.Name "range" p) [a] [] pos) (iRng1 ta) := by
  intro pins s σ H R I h
  refine Call_ (ld_blt I hg hm boot_range (PyProof.Rows.callWith_type1 (thn (ha pos pins s σ H _ I h) fun us s1 ⟨vs, H1, I1, r1, q1⟩ => ?_) hs rfl))
  obtain ⟨j, e, q1, q2, q⟩ := q1
  subst e
  cases r1 with
  | cons r rr =>
    cases rr
    obtain ⟨t, rfl⟩ := r
    exact call_range_1 (range_it I1 (by omega) (by omega) q1 q2 (by simpa using q))

/-! ### for -/
/-- W: the invariant by the turn and a measure; N: what the body is to reach -/
def tFor (wi : TI) (g : TG) (tb : TS) : TS := fun D σ H => wi σ H fun J H1 => ∃ W : Nat → Nat → St → Hp → Prop, (∃ m, W 0 m σ H1) ∧ ∀ i m σ H, W i m σ H →
  (J.stop i H ∧ D.nx σ H) ∨ (J.go i H ∧ ∃ N : St → Hp → Prop, (∀ σ' H', N σ' H' → ∃ m', m' < m ∧ W (i + 1) m' σ' H') ∧ ∀ x H', J.yld i H x H' → g x σ H' fun σ2 H2 => tb { D with nx := N, ct := N, bk := D.nx } σ2 H2)
/-- the records at fp as they stand -/
def pinsAt (fp : List Addr) (h : Heap) : List (Addr × Obj) := fp.filterMap fun b => (h.get? b).map fun o => (b, o)
theorem mem_pinsAt {fp : List Addr} {h : Heap} {b : Addr} {o : Obj} (hb : b ∈ fp) (e : h.get? b = some o) : (b, o) ∈ pinsAt fp h := List.mem_filterMap.mpr ⟨b, hb, by rw [e]; rfl⟩
theorem of_pinsAt {fp : List Addr} {h : Heap} {p : Addr × Obj} (hp : p ∈ pinsAt fp h) : p.1 ∈ fp ∧ h.get? p.1 = some p.2 := by
  obtain ⟨b, hb, e⟩ := List.mem_filterMap.mp hp
  cases q : h.get? b with
  | none => rw [q] at e; cases e
  | some o =>
    rw [q] at e
    have e' : (b, o) = p := Option.some.inj e
    subst e'
    exact ⟨hb, q⟩
theorem Inv.pinned {pins : List (Addr × Obj)} {σ : St} {H : Hp} {s : Shared} {fp : List Addr} (I : Inv X pins σ H s) (hf : ∀ b ∈ fp, FpOk X pins H b) (ho : ∀ b ∈ fp, ∃ o, s.heap.get? b = some o ∧ ∀ v, o.data ≠ .cell v) : Inv X (pins ++ pinsAt fp s.heap) σ H s :=
  I.pins_of fun p hp => (List.mem_append.mp hp).elim (fun z => I.pin p (List.mem_append_right _ z)) fun z => by
    obtain ⟨hb, e⟩ := of_pinsAt z
    obtain ⟨f0, f1, f2, _⟩ := hf p.1 hb
    obtain ⟨o, e', d⟩ := ho p.1 hb
    rw [e] at e'; cases e'
    exact ⟨e, f0, f1, f2, d⟩
theorem Inv.unpinned {pins pl : List (Addr × Obj)} {σ : St} {H : Hp} {s : Shared} (I : Inv X (pins ++ pl) σ H s) : Inv X pins σ H s := I.pins_of fun p hp => I.pin p (List.mem_append_right _ (List.mem_append_left _ hp))
theorem ps_for {iter : Expr} {body : List Stmt} {wi : TI} {g : TG} {tb : TS} {pos : Pos} (hp : PassesOwn (model X.prog X.w) X.A X.env X.xe) (hc : X.calm = true) (hi : PI X tg iter wi) (hg : PG X tg g) (hb : PSs X body tb)
    (hs : ∀ x, foldedSetIterable iter X.env x = pure x := by intro _; rfl) : PS X (.For tg iter body [] pos) (tFor wi g tb) := by
  intro pins s σ H D I h
  refine wpAny_For (thn (hi pins s σ H _ I h) fun v s1 h1 => thn h1 fun itv s2 h2 => ?_) hs
  obtain ⟨it, fp, tn, J, H2, e, I2, T, st2, f2, W, ⟨m0, w0⟩, turn⟩ := h2
  subst e
  -- what stays true of the iterator's objects through the loop
  have stat : ∀ {H' : Hp}, (∀ b ∈ fp, H' b = none) → ∀ b ∈ fp, FpOk X pins H' b := fun hn b hb => ⟨hn b hb, (f2 b hb).2⟩
  refine codeAny_forLoop_any (fun n s' => ∃ i σ' H', Inv X pins σ' H' s' ∧ tn i s'.heap ∧ (∀ b ∈ fp, H' b = none) ∧ W i n σ' H') ?_ m0 ⟨0, σ, H2, I2, st2, fun b hb => (f2 b hb).1, w0⟩
  rintro n s3 ⟨i, σ3, H3, I3, st3, fr3, w3⟩
  rcases turn i n σ3 H3 w3 with ⟨stop, qn⟩ | ⟨go, N, hN, step⟩
  · refine wpAny_passesOwn hp (thn (T.done X rfl rfl rfl hc i pins s3 σ3 H3 X.xe I3 (stat fr3) st3 stop) fun r s4 ⟨hr, I4⟩ => ?_)
    subst hr
    exact wpAny_execs_nil ⟨σ3, H3, I4, qn⟩
  · refine wpAny_passesOwn hp (thn (T.item X rfl rfl rfl hc i pins s3 σ3 H3 X.xe I3 (stat fr3) st3 go) fun r s4 ⟨u, hr, h4⟩ => ?_)
    subst hr
    refine wpAny_passesOwn hp (thn h4 fun _ s5 ⟨x, H5, I5, r5, y5, st5, fr5⟩ => ?_)
    have I5' := I5.pinned (stat fr5) (T.obj _ _ st5)
    refine wpAny_passesOwn hp (thn (hg _ s5 σ3 H5 x u _ I5' r5 (step x H5 y5)) fun _ s6 ⟨σ6, H6, I6, q6⟩ => ?_)
    refine wpAny_passesOwn hp (thn (hb _ s6 σ6 H6 _ I6 q6) fun f s7 q7 => ?_)
    have again : ∀ {σ7 : St} {H7 : Hp}, Inv X (pins ++ pinsAt fp s5.heap) σ7 H7 s7 → N σ7 H7 → ∃ m, m < n ∧ ∃ i σ' H', Inv X pins σ' H' s7 ∧ tn i s7.heap ∧ (∀ b ∈ fp, H' b = none) ∧ W i m σ' H' := fun {σ7 H7} I7 n7 => by
      obtain ⟨m', hm, w7⟩ := hN σ7 H7 n7
      refine ⟨m', hm, i + 1, σ7, H7, I7.unpinned, T.keep _ _ _ st5 fun b hb o e => (I7.pin (b, o) (List.mem_append_right _ (List.mem_append_right _ (mem_pinsAt hb e)))).1, fun b hb => ?_, w7⟩
      obtain ⟨o, e, d⟩ := T.obj _ _ st5 b hb
      exact (I7.pin (b, o) (List.mem_append_right _ (List.mem_append_right _ (mem_pinsAt hb e)))).2.1
    cases f with
    | next => obtain ⟨σ7, H7, I7, n7⟩ := q7; exact again I7 n7
    | cont => obtain ⟨σ7, H7, I7, n7⟩ := q7; exact again I7 n7
    | brk => obtain ⟨σ7, H7, I7, q7⟩ := q7; exact ⟨σ7, H7, I7.unpinned, q7⟩
    | ret v => obtain ⟨x7, σ7, H7, I7, r7, q7⟩ := q7; exact ⟨x7, σ7, H7, I7.unpinned, r7, q7⟩
end

/-! ### the forms one uses -/
/-- over a list that the body leaves as it is -/
theorem for_list {K : PySem.W.Frag} {a : Addr} {xs : List V} {g : TG} {tb : TS} {D : Ends} {σ : St} {H : Hp} (Pv : Nat → St → Hp → Prop) (h0 : Pv 0 σ H) (hl : ∀ i σ H, i ≤ xs.length → Pv i σ H → SqL K H a xs)
    (hs : ∀ i x σ H, xs[i]? = some x → Pv i σ H → g x σ H fun σ2 H2 => tb { D with nx := Pv (i + 1), ct := Pv (i + 1), bk := D.nx } σ2 H2) (hd : ∀ σ H, Pv xs.length σ H → D.nx σ H) :
    ∃ W : Nat → Nat → St → Hp → Prop, (∃ m, W 0 m σ H) ∧ ∀ i m σ H, W i m σ H →
      ((Itl K a).stop i H ∧ D.nx σ H) ∨ ((Itl K a).go i H ∧ ∃ N : St → Hp → Prop, (∀ σ' H', N σ' H' → ∃ m', m' < m ∧ W (i + 1) m' σ' H') ∧ ∀ x H', (Itl K a).yld i H x H' → g x σ H' fun σ2 H2 => tb { D with nx := N, ct := N, bk := D.nx } σ2 H2) := by
  refine ⟨fun i m σ H => m = xs.length - i ∧ i ≤ xs.length ∧ Pv i σ H, ⟨xs.length, by simp, Nat.zero_le _, h0⟩, ?_⟩
  rintro i m σ H ⟨rfl, hi, p⟩
  have q := hl i σ H hi p
  by_cases hlt : i < xs.length
  · refine .inr ⟨⟨xs, xs[i], q, by simp [hlt]⟩, Pv (i + 1), fun σ' H' p' => ⟨xs.length - (i + 1), by omega, rfl, hlt, p'⟩, fun x H' y => ?_⟩
    obtain ⟨e, y⟩ := y
    subst e
    exact hs i x σ _ (y xs q) p
  · have e : i = xs.length := by omega
    subst e
    exact .inl ⟨⟨xs, q, Nat.le_refl _⟩, hd σ H p⟩
theorem for_tup {K : PySem.W.Frag} {a : Addr} {xs : List V} {g : TG} {tb : TS} {D : Ends} {σ : St} {H : Hp} (Pv : Nat → St → Hp → Prop) (h0 : Pv 0 σ H) (hl : ∀ i σ H, i ≤ xs.length → Pv i σ H → SqT K H a xs)
    (hs : ∀ i x σ H, xs[i]? = some x → Pv i σ H → g x σ H fun σ2 H2 => tb { D with nx := Pv (i + 1), ct := Pv (i + 1), bk := D.nx } σ2 H2) (hd : ∀ σ H, Pv xs.length σ H → D.nx σ H) :
    ∃ W : Nat → Nat → St → Hp → Prop, (∃ m, W 0 m σ H) ∧ ∀ i m σ H, W i m σ H →
      ((Itt K a).stop i H ∧ D.nx σ H) ∨ ((Itt K a).go i H ∧ ∃ N : St → Hp → Prop, (∀ σ' H', N σ' H' → ∃ m', m' < m ∧ W (i + 1) m' σ' H') ∧ ∀ x H', (Itt K a).yld i H x H' → g x σ H' fun σ2 H2 => tb { D with nx := N, ct := N, bk := D.nx } σ2 H2) := by
  refine ⟨fun i m σ H => m = xs.length - i ∧ i ≤ xs.length ∧ Pv i σ H, ⟨xs.length, by simp, Nat.zero_le _, h0⟩, ?_⟩
  rintro i m σ H ⟨rfl, hi, p⟩
  have q := hl i σ H hi p
  by_cases hlt : i < xs.length
  · refine .inr ⟨⟨xs, xs[i], q, by simp [hlt]⟩, Pv (i + 1), fun σ' H' p' => ⟨xs.length - (i + 1), by omega, rfl, hlt, p'⟩, fun x H' y => ?_⟩
    obtain ⟨e, y⟩ := y
    subst e
    exact hs i x σ _ (y xs q) p
  · have e : i = xs.length := by omega
    subst e
    exact .inl ⟨⟨xs, q, Nat.le_refl _⟩, hd σ H p⟩
theorem for_range {lo : Int} {n : Nat} {g : TG} {tb : TS} {D : Ends} {σ : St} {H : Hp} (Pv : Nat → St → Hp → Prop) (h0 : Pv 0 σ H)
    (hs : ∀ i σ H, i < n → Pv i σ H → g (.int (lo + i)) σ H fun σ2 H2 => tb { D with nx := Pv (i + 1), ct := Pv (i + 1), bk := D.nx } σ2 H2) (hd : ∀ σ H, Pv n σ H → D.nx σ H) :
    ∃ W : Nat → Nat → St → Hp → Prop, (∃ m, W 0 m σ H) ∧ ∀ i m σ H, W i m σ H →
      ((Itr lo n).stop i H ∧ D.nx σ H) ∨ ((Itr lo n).go i H ∧ ∃ N : St → Hp → Prop, (∀ σ' H', N σ' H' → ∃ m', m' < m ∧ W (i + 1) m' σ' H') ∧ ∀ x H', (Itr lo n).yld i H x H' → g x σ H' fun σ2 H2 => tb { D with nx := N, ct := N, bk := D.nx } σ2 H2) := by
  refine ⟨fun i m σ H => m = n - i ∧ i ≤ n ∧ Pv i σ H, ⟨n, by simp, Nat.zero_le _, h0⟩, ?_⟩
  rintro i m σ H ⟨rfl, hi, p⟩
  by_cases hlt : i < n
  · refine .inr ⟨hlt, Pv (i + 1), fun σ' H' p' => ⟨n - (i + 1), by omega, rfl, hlt, p'⟩, fun x H' y => ?_⟩
    obtain ⟨e, y⟩ := y
    subst e y
    exact hs i σ _ hlt p
  · have e : i = n := by omega
    subst e
    exact .inl ⟨Nat.le_refl _, hd σ H p⟩
end L2

namespace L2
open PySem PySem.Spec PyProof.Rows

abbrev R2 := V → V → Hp → VK → Prop
/-- a two-place operation on values: f is binaryOp op, inplaceOp op or compareOp op -/
def OpR (X : Cx) (f : Value → Value → Sem Value) (r : R2) : Prop :=
  ∀ (pins : List (Addr × Obj)) (s : Shared) (σ : St) (H : Hp) (x y : V) (v u : Value) (Q : VK), Inv X pins σ H s → RelV x v → RelV y u → r x y H Q →
    wpAny (model X.prog X.w) X.A (f v u) (EP X pins σ Q) X.xe s
/-- a call of a value that is known (a builtin, a type) with values -/
def CallR (X : Cx) (f : Value) (r : List V → Hp → VK → Prop) : Prop :=
  ∀ (pins : List (Addr × Obj)) (s : Shared) (σ : St) (H : Hp) (xs : List V) (us : List Value) (Q : VK), Inv X pins σ H s → Vals xs us → r xs H Q →
    wpAny (model X.prog X.w) X.A (call f us) (EP X pins σ Q) X.xe s

def tOp (r : R2) (ta tb : TE) : TE := fun σ H Q => ta σ H fun x H1 => tb σ H1 fun y H2 => r x y H2 Q
/-- ints in, under C, and a value out -/
def rI (C : Int → Int → Prop) (g : Int → Int → V) : R2 := fun x y H Q => ∃ i j, x = .int i ∧ y = .int j ∧ C i j ∧ Q (g i j) H
def rI0 (g : Int → Int → V) : R2 := fun x y H Q => ∃ i j, x = .int i ∧ y = .int j ∧ Q (g i j) H

section
variable {X : Cx} {a b c : Expr} {ta tb tc : TE} {pos : Pos}

theorem binT (ha : PE X a ta) (hb : PE X b tb) {pins : List (Addr × Obj)} {s : Shared} {σ : St} {H : Hp} {R : V → V → Hp → Prop} (I : Inv X pins σ H s)
    (h : ta σ H fun x H1 => tb σ H1 fun y H2 => R x y H2) {Q : Value → Shared → Prop} {f : Value → Value → Sem Value}
    (hf : ∀ v u s2 x y H2, Inv X pins σ H2 s2 → RelV x v → RelV y u → R x y H2 → wpAny (model X.prog X.w) X.A (f v u) Q X.xe s2) :
    wpAny (model X.prog X.w) X.A (eval a X.env) (fun v s₁ => wpAny (model X.prog X.w) X.A (eval b X.env) (fun u s₂ => wpAny (model X.prog X.w) X.A (f v u) Q X.xe s₂) X.xe s₁) X.xe s := by
  refine thn (ha pins s σ H _ I h) fun v s1 ⟨x, H1, I1, r1, q1⟩ => ?_
  refine thn (hb pins s1 σ H1 _ I1 q1) fun u s2 ⟨y, H2, I2, r2, q2⟩ => ?_
  exact hf v u s2 x y H2 I2 r1 r2 q2

theorem pe_op {op : Operator} {r : R2} (ho : OpR X (binaryOp op) r) (ha : PE X a ta) (hb : PE X b tb) : PE X (.BinOp a op b pos) (tOp r ta tb) := by
  intro pins s σ H Q I h
  exact wpAny_BinOp (binT ha hb I h fun v u s2 x y H2 I2 rx ry q => ho pins s2 σ H2 x y v u Q I2 rx ry q)

/-! ### ints -/
theorem opI {f : Value → Value → Sem Value} {C : Int → Int → Prop} {g : Int → Int → Int}
    (rule : ∀ (i j : Int) (t u : Tok) (s : Shared) (Q : Value → Shared → Prop) (E : Value → Shared → Prop), C i j → Q (.int (g i j) s.toks) { s with toks := s.toks + 1 } → wpAny (model X.prog X.w) X.A (f (.int i t) (.int j u)) Q E s) :
    OpR X f (rI C fun i j => .int (g i j)) := by
  intro pins s σ H x y v u Q I rx ry h
  obtain ⟨i, j, rfl, rfl, hc, q⟩ := h
  obtain ⟨t, rfl⟩ := rx
  obtain ⟨t', rfl⟩ := ry
  exact rule i j t t' s _ _ hc ⟨.int (g i j), H, I.tok _, ⟨_, rfl⟩, q⟩
theorem opI0 {f : Value → Value → Sem Value} {g : Int → Int → Int}
    (rule : ∀ (i j : Int) (t u : Tok) (s : Shared) (Q : Value → Shared → Prop) (E : Value → Shared → Prop), Q (.int (g i j) s.toks) { s with toks := s.toks + 1 } → wpAny (model X.prog X.w) X.A (f (.int i t) (.int j u)) Q E s) :
    OpR X f (rI0 fun i j => .int (g i j)) := by
  intro pins s σ H x y v u Q I rx ry h
  obtain ⟨i, j, rfl, rfl, q⟩ := h
  obtain ⟨t, rfl⟩ := rx
  obtain ⟨t', rfl⟩ := ry
  exact rule i j t t' s _ _ ⟨.int (g i j), H, I.tok _, ⟨_, rfl⟩, q⟩
theorem opB0 {f : Value → Value → Sem Value} {g : Int → Int → Bool}
    (rule : ∀ (i j : Int) (t u : Tok) (s : Shared) (Q : Value → Shared → Prop) (E : Value → Shared → Prop), Q (.bool (g i j)) s → wpAny (model X.prog X.w) X.A (f (.int i t) (.int j u)) Q E s) :
    OpR X f (rI0 fun i j => .bl (g i j)) := by
  intro pins s σ H x y v u Q I rx ry h
  obtain ⟨i, j, rfl, rfl, q⟩ := h
  obtain ⟨t, rfl⟩ := rx
  obtain ⟨t', rfl⟩ := ry
  exact rule i j t t' s _ _ ⟨.bl (g i j), H, I, rfl, q⟩

def CDiv (i j : Int) : Prop := 0 < j ∧ j < 1073741824
def CMul (i j : Int) : Prop := (-(2 ^ 64) < i ∧ i < 2 ^ 64) ∨ (-(2 ^ 64) < j ∧ j < 2 ^ 64)
theorem CMul.ok {i j : Int} (h : CMul i j) : IntMulOk i j := by
  rcases h with ⟨h1, h2⟩ | ⟨h1, h2⟩
  · exact .of_left (intBits_le_64 h1 h2)
  · exact .of_right (intBits_le_64 h1 h2)

theorem op_add : OpR X (binaryOp .Add) (rI0 fun i j => .int (i + j)) := opI0 fun _ _ _ _ _ _ _ q => add_int q
theorem op_sub : OpR X (binaryOp .Sub) (rI0 fun i j => .int (i - j)) := opI0 fun _ _ _ _ _ _ _ q => sub_int q
theorem op_mul : OpR X (binaryOp .Mult) (rI CMul fun i j => .int (i * j)) := opI fun _ _ _ _ _ _ _ hc q => mul_int q hc.ok
/-- // by a positive divisor -/
theorem op_fdiv : OpR X (binaryOp .FloorDiv) (rI CDiv fun i j => .int (i / j)) := opI fun i j _ _ _ _ _ hc q => by
  have h1 : (0 : Int) < j := hc.1
  have h2 : j < 1073741824 := hc.2
  exact floordiv_int (by omega) (by rw [Int.fdiv_eq_ediv_of_nonneg i (by omega)]; exact q) (.inl (PyProof.noPylong_small (by omega)))
/-- % by a positive divisor of any size -/
theorem op_mod : OpR X (binaryOp .Mod) (rI (fun _ j => 0 < j) fun i j => .int (i % j)) := opI fun i j _ _ _ _ _ hc q => by
  have h1 : (0 : Int) < j := hc
  exact mod_int' (by omega) (by rw [Int.fmod_eq_emod_of_nonneg i (by omega)]; exact q)



/-! ### bools among ints: n += (a < b) -/
end

/-! ### comparisons -/
/-- the scalars that == tells apart as data does -/
def scal : V → V → Bool
  | .non, .non => true | .non, .int _ => true | .int _, .non => true | .non, .bl _ => true | .bl _, .non => true | .non, .str _ => true | .str _, .non => true
  | .int _, .int _ => true | .bl _, .bl _ => true | .str _, .str _ => true | .byt _, .byt _ => true
  | .int _, .str _ => true | .str _, .int _ => true | .bl _, .str _ => true | .str _, .bl _ => true
  | _, _ => false
def rEq : R2 := fun x y H Q => scal x y = true ∧ Q (.bl (decide (x = y))) H
def rNe : R2 := fun x y H Q => scal x y = true ∧ Q (.bl (!decide (x = y))) H

theorem dec_int {i j : Int} : decide (V.int i = V.int j) = (i == j) := by
  rw [Bool.eq_iff_iff]
  simp
theorem dec_bl {i j : Bool} : decide (V.bl i = V.bl j) = (i == j) := by
  rw [Bool.eq_iff_iff]
  simp
theorem dec_str {i j : Str} : decide (V.str i = V.str j) = (i == j) := by
  rw [Bool.eq_iff_iff]
  simp
theorem dec_byt {i j : Array UInt8} : decide (V.byt i = V.byt j) = (i.toList == j.toList) := by
  rw [Bool.eq_iff_iff]
  cases i
  cases j
  simp

section
variable {X : Cx} {a b c : Expr} {ta tb tc : TE} {pos : Pos}
theorem fin_bl {pins : List (Addr × Obj)} {σ : St} {H : Hp} {s : Shared} {Q : VK} {k k' : Bool} (I : Inv X pins σ H s) (q : Q (.bl k) H) (e : k = k') : EP X pins σ Q (.bool k') s := by
  subst e
  exact ⟨.bl k, H, I, rfl, q⟩
theorem op_eq : OpR X (compareOp .Eq) rEq := by
  intro pins s σ H x y v u Q I rx ry h
  obtain ⟨hs, q⟩ := h
  cases x with
  | non =>
    cases rx
    cases y with
    | non => cases ry; exact PySem.EqNone.eq_none_none (fin_bl I q (by simp))
    | bl j => cases ry; exact PySem.EqNone.eq_none_bool (fin_bl I q (by simp))
    | int j => obtain ⟨t', rfl⟩ := ry; exact PySem.EqNone.eq_none_int (fin_bl I q (by simp))
    | str j => obtain ⟨t', rfl⟩ := ry; exact PySem.EqNone.eq_none_str (fin_bl I q (by simp))
    | _ => exact absurd (show false = true from hs) Bool.false_ne_true
  | bl i =>
    cases rx
    cases y with
    | non => cases ry; exact PySem.EqNone.eq_bool_none (fin_bl I q (by simp))
    | bl j => cases ry; exact eq_bool (fin_bl I q dec_bl)
    | str j => obtain ⟨t', rfl⟩ := ry; exact PySem.EqMixed.eq_bool_str (fin_bl I q (by simp))
    | _ => exact absurd (show false = true from hs) Bool.false_ne_true
  | int i =>
    obtain ⟨t, rfl⟩ := rx
    cases y with
    | non => cases ry; exact PySem.EqNone.eq_int_none (fin_bl I q (by simp))
    | int j => obtain ⟨t', rfl⟩ := ry; exact eq_int (fin_bl I q dec_int)
    | str j => obtain ⟨t', rfl⟩ := ry; exact PySem.EqMixed.eq_int_str (fin_bl I q (by simp))
    | _ => exact absurd (show false = true from hs) Bool.false_ne_true
  | str i =>
    obtain ⟨t, rfl⟩ := rx
    cases y with
    | non => cases ry; exact PySem.EqNone.eq_str_none (fin_bl I q (by simp))
    | bl j => cases ry; exact PySem.EqMixed.eq_str_bool (fin_bl I q (by simp))
    | int j => obtain ⟨t', rfl⟩ := ry; exact PySem.EqMixed.eq_str_int (fin_bl I q (by simp))
    | str j => obtain ⟨t', rfl⟩ := ry; exact eq_str (fin_bl I q dec_str)
    | _ => exact absurd (show false = true from hs) Bool.false_ne_true
  | byt i =>
    obtain ⟨t, rfl⟩ := rx
    cases y with
    | byt j => obtain ⟨t', rfl⟩ := ry; exact PySem.W.eq_bytes (fin_bl I q dec_byt)
    | _ => exact absurd (show false = true from hs) Bool.false_ne_true
  | _ => cases y <;> exact absurd (show false = true from hs) Bool.false_ne_true
theorem op_ne : OpR X (compareOp .NotEq) rNe := by
  intro pins s σ H x y v u Q I rx ry h
  obtain ⟨hs, q⟩ := h
  cases x with
  | non =>
    cases rx
    cases y with
    | non => cases ry; exact PySem.EqNone.ne_none_none (fin_bl I q (by simp))
    | bl j => cases ry; exact PySem.EqNone.ne_none_bool (fin_bl I q (by simp))
    | int j => obtain ⟨t', rfl⟩ := ry; exact PySem.EqNone.ne_none_int (fin_bl I q (by simp))
    | str j => obtain ⟨t', rfl⟩ := ry; exact PySem.EqNone.ne_none_str (fin_bl I q (by simp))
    | _ => exact absurd (show false = true from hs) Bool.false_ne_true
  | bl i =>
    cases rx
    cases y with
    | non => cases ry; exact PySem.EqNone.ne_bool_none (fin_bl I q (by simp))
    | bl j => cases ry; exact ne_bool (fin_bl I q (congrArg not dec_bl))
    | str j => obtain ⟨t', rfl⟩ := ry; exact PySem.EqMixed.ne_bool_str (fin_bl I q (by simp))
    | _ => exact absurd (show false = true from hs) Bool.false_ne_true
  | int i =>
    obtain ⟨t, rfl⟩ := rx
    cases y with
    | non => cases ry; exact PySem.EqNone.ne_int_none (fin_bl I q (by simp))
    | int j => obtain ⟨t', rfl⟩ := ry; exact ne_int (fin_bl I q (congrArg not dec_int))
    | str j => obtain ⟨t', rfl⟩ := ry; exact PySem.EqMixed.ne_int_str (fin_bl I q (by simp))
    | _ => exact absurd (show false = true from hs) Bool.false_ne_true
  | str i =>
    obtain ⟨t, rfl⟩ := rx
    cases y with
    | non => cases ry; exact PySem.EqNone.ne_str_none (fin_bl I q (by simp))
    | bl j => cases ry; exact PySem.EqMixed.ne_str_bool (fin_bl I q (by simp))
    | int j => obtain ⟨t', rfl⟩ := ry; exact PySem.EqMixed.ne_str_int (fin_bl I q (by simp))
    | str j => obtain ⟨t', rfl⟩ := ry; exact ne_str (fin_bl I q (congrArg not dec_str))
    | _ => exact absurd (show false = true from hs) Bool.false_ne_true
  | byt i =>
    obtain ⟨t, rfl⟩ := rx
    cases y with
    | byt j => obtain ⟨t', rfl⟩ := ry; exact PySem.W.ne_bytes (fin_bl I q (congrArg not dec_byt))
    | _ => exact absurd (show false = true from hs) Bool.false_ne_true
  | _ => cases y <;> exact absurd (show false = true from hs) Bool.false_ne_true

theorem op_lt : OpR X (compareOp .Lt) (rI0 fun i j => .bl (decide (i < j))) := opB0 fun _ _ _ _ _ _ _ q => lt_int q
theorem op_le : OpR X (compareOp .LtE) (rI0 fun i j => .bl (decide (i ≤ j))) := opB0 fun _ _ _ _ _ _ _ q => le_int q
theorem op_gt : OpR X (compareOp .Gt) (rI0 fun i j => .bl (decide (j < i))) := opB0 fun _ _ _ _ _ _ _ q => gt_int q
theorem op_ge : OpR X (compareOp .GtE) (rI0 fun i j => .bl (decide (j ≤ i))) := opB0 fun _ _ _ _ _ _ _ q => ge_int q




theorem nomark (b : Expr) {op : CmpOp} (h : op ≠ .In := by decide) (h2 : op ≠ .NotIn := by decide) : behindInMarks op b = false := by
  have e1 : (op == CmpOp.In) = false := by cases op <;> first | rfl | exact absurd rfl h
  have e2 : (op == CmpOp.NotIn) = false := by cases op <;> first | rfl | exact absurd rfl h2
  cases b <;> simp [behindInMarks, e1, e2]
/-- a comparison as a value; hm: nomark b, or (for in, not in) by with_unfolding_all rfl -/
theorem pe_cmpR {op : CmpOp} {r : R2} (ho : OpR X (compareOp op) r) (ha : PE X a ta) (hb : PE X b tb) (hm : behindInMarks op b = false) : PE X (.Compare a [op] [b] pos) (tOp r ta tb) := by
  intro pins s σ H Q I h
  exact wpAny_Compare1 (binT ha hb I h fun v u s2 x y H2 I2 rx ry q => ho pins s2 σ H2 x y v u Q I2 rx ry q) hm
/-- a reading of a value as a test -/
def tTest (t : TE) : TT := fun σ H Q => t σ H fun x H' => ∃ k, x = .bl k ∧ Q k H'
theorem pt_cmpR {op : CmpOp} {r : R2} (ho : OpR X (compareOp op) r) (ha : PE X a ta) (hb : PE X b tb) (hm : behindInMarks op b = false) : PT X (.Compare a [op] [b] pos) (tTest (tOp r ta tb)) := by
  intro pins s σ H Q I h
  refine wpAny_isTrue_Compare1 (thn (ha pins s σ H _ I h) fun v s1 ⟨x, H1, I1, r1, q1⟩ => thn (hb pins s1 σ H1 _ I1 q1) fun u s2 ⟨y, H2, I2, r2, q2⟩ =>
    thn (ho pins s2 σ H2 x y v u _ I2 r1 r2 q2) fun c s3 ⟨z, H3, I3, r3, k, e, q3⟩ => ?_) hm
  subst e
  cases r3
  exact wpAny_truthy_bool ⟨H3, I3, q3⟩
/-- a op1 b op2 c -/
def tChain (r r' : R2) (ta tb tc : TE) : TE := fun σ H Q => ta σ H fun x H1 => tb σ H1 fun y H2 => r x y H2 fun z H3 => ∃ k, z = .bl k ∧
  (if k = true then tc σ H3 fun w' H4 => r' y w' H4 Q else Q (.bl false) H3)
theorem pe_chain {op op' : CmpOp} {r r' : R2} (ho : OpR X (compareOp op) r) (ho' : OpR X (compareOp op') r') (ha : PE X a ta) (hb : PE X b tb) (hc : PE X c tc)
    (hm : lastMarks [op, op'] [b, c] = false := by with_unfolding_all rfl) : PE X (.Compare a [op, op'] [b, c] pos) (tChain r r' ta tb tc) := by
  intro pins s σ H Q I h
  refine Compare_chain (thn (ha pins s σ H _ I h) fun v s1 ⟨x, H1, I1, r1, q1⟩ => chain_link (thn (hb pins s1 σ H1 _ I1 q1) fun u s2 ⟨y, H2, I2, r2, q2⟩ =>
    thn (ho pins s2 σ H2 x y v u _ I2 r1 r2 q2) fun d s3 ⟨z, H3, I3, r3, k, e, q3⟩ => ?_)) hm
  subst e
  cases r3
  refine wpAny_truthy_bool ?_
  cases k with
  | false => exact ite_ff ⟨.bl false, H3, I3, rfl, q3⟩
  | true => exact ite_tt (chain_last (thn (hc pins s3 σ H3 _ I3 q3) fun w' s4 ⟨z', H4, I4, r4, q4⟩ => ho' pins s4 σ H4 y z' u w' Q I4 r2 r4 q4))
theorem pt_chain {op op' : CmpOp} {r r' : R2} (ho : OpR X (compareOp op) r) (ho' : OpR X (compareOp op') r') (ha : PE X a ta) (hb : PE X b tb) (hc : PE X c tc)
    (hm : lastMarks [op, op'] [b, c] = false := by with_unfolding_all rfl) : PT X (.Compare a [op, op'] [b, c] pos) (tTest (tChain r r' ta tb tc)) := by
  intro pins s σ H Q I h
  refine isTrue_chain (thn (ha pins s σ H _ I h) fun v s1 ⟨x, H1, I1, r1, q1⟩ => test_link (thn (hb pins s1 σ H1 _ I1 q1) fun u s2 ⟨y, H2, I2, r2, q2⟩ =>
    thn (ho pins s2 σ H2 x y v u _ I2 r1 r2 q2) fun d s3 ⟨z, H3, I3, r3, k, e, q3⟩ => ?_)) hm
  subst e
  cases r3
  refine wpAny_truthy_bool ?_
  cases k with
  | false =>
    obtain ⟨k', e', q'⟩ := q3
    cases e'
    exact ite_ff ⟨H3, I3, q'⟩
  | true =>
    refine ite_tt (test_last (thn (hc pins s3 σ H3 _ I3 q3) fun w' s4 ⟨z', H4, I4, r4, q4⟩ => thn (ho' pins s4 σ H4 y z' u w' _ I4 r2 r4 q4) fun d' s5 ⟨z2, H5, I5, r5, k2, e2, q5⟩ => ?_))
    subst e2
    cases r5
    exact wpAny_truthy_bool ⟨H5, I5, q5⟩

/-! ### truth -/
theorem line63 : (sizeLine : Nat) < 2 ^ 63 := by rw [sizeLine_eq]; decide

/-! ### strs and bytes -/


/-! ### scalar builtins, by CallR -/
theorem vals1 {x : V} {us : List Value} (r : Vals [x] us) : ∃ u, us = [u] ∧ RelV x u := by
  cases r with
  | cons r1 r2 => cases r2; exact ⟨_, rfl, r1⟩
theorem vals2 {x y : V} {us : List Value} (r : Vals [x, y] us) : ∃ u w', us = [u, w'] ∧ RelV x u ∧ RelV y w' := by
  cases r with
  | cons r1 r2 =>
    cases r2 with
    | cons r3 r4 => cases r4; exact ⟨_, _, rfl, r1, r3⟩
theorem call_min2 (hc : X.calm = true) : CallR X (.builtin "min") (fun xs H Q => ∃ i j, xs = [.int i, .int j] ∧ Q (.int (if j < i then j else i)) H) := by
  intro pins s σ H xs us Q I r h
  obtain ⟨i, j, rfl, q⟩ := h
  obtain ⟨u, w', rfl, ⟨t, rfl⟩, ⟨t', rfl⟩⟩ := vals2 r
  refine min_two_ints (I.ok.hd hc) fun h' tk k => ⟨_, H, I.kept k, ?_, q⟩
  by_cases hj : j < i
  · rw [if_pos hj, if_pos hj]; exact ⟨_, rfl⟩
  · rw [if_neg hj, if_neg hj]; exact ⟨_, rfl⟩
theorem call_str_int : CallR X (.type "str") (fun xs H Q => ∃ i, xs = [.int i] ∧ i.natAbs.log2 < 1920 ∧ Q (.str (toString i)) H) := by
  intro pins s σ H xs us Q I r h
  obtain ⟨i, rfl, hz, q⟩ := h
  obtain ⟨u, rfl, t, rfl⟩ := vals1 r
  exact PySem.P.str_of_int hz ⟨.str _, H, I.tok _, ⟨_, rfl⟩, q⟩
end
end L2

namespace L2
open PySem PySem.Spec PyProof.Rows

/-! ### an instance, its attributes a map -/
structure ObjM (h : Heap) (x dx C : Addr) (mA : Str → Option Value) : Prop where
  obj : h.get? x = some (PySem.W.instObj C dx)
  ns : h.Ns1 dx mA
  ne : dx ≠ x

theorem lookIn_ns {h : Heap} {dx : Addr} {mA : Str → Option Value} (n : h.Ns1 dx mA) : ∃ od, h.get? dx = some od ∧ ∀ name, PySem.W.lookIn name od = some (mA name) := by
  obtain ⟨o, es, ep, ho, hd, hk, _, hm⟩ := n
  refine ⟨o, ho, fun name => ?_⟩
  have e := hm name
  unfold nsFind findBy at e
  rw [← Array.find?_toList] at e
  unfold PySem.W.lookIn
  rw [hd]
  dsimp only
  split
  · rename_i y q
    rw [q] at e
    exact congrArg some e
  · rename_i q
    rw [q] at e
    have a : es.toList.any (·.refKey) = false := by
      rw [List.any_eq_false]
      intro y hy
      obtain ⟨z, t, hkey⟩ := hk y (Array.mem_toList_iff.mp hy)
      simp [DictEntry.refKey, hkey]
    have a' : ¬ es.toList.any (·.refKey) = true := by rw [a]; exact Bool.false_ne_true
    rw [if_neg a']
    exact congrArg some e

theorem ObjM.look {h : Heap} {x dx C : Addr} {mA : Str → Option Value} (I : ObjM h x dx C mA) : ∃ od, PySem.W.InstAt h x (PySem.W.instObj C dx) C (some od) ∧ ∀ name, PySem.W.lookIn name od = some (mA name) :=
  let ⟨od, ho, hl⟩ := lookIn_ns I.ns
  ⟨od, ⟨I.obj, rfl, rfl, ho⟩, hl⟩

section
variable {prog : Program} {w : World} {A : Around} {E : Value → Shared → Prop} {s : Shared} {K : PySem.W.Frag} {x dx C f : Addr} {mA : Str → Option Value} {name : Str} {v : Value}

theorem get_map {expr : Bool} {Q : Value → Shared → Prop} (X : K.In s.heap) (I : ObjM s.heap x dx C mA) (hg : PySem.W.plainGet K C name = true) (hh : PySem.W.hasDictIn K C = true)
    (ha : PySem.W.findIn K (.ref C) name = some none) (hv : mA name = some v) (hv' : PySem.W.handedIn v = true) (h : Q v { s with toks := s.toks + 1 }) :
    wpAny (model prog w) A (getAttr (.ref x) name expr) Q E s := by
  obtain ⟨od, J, hl⟩ := I.look
  exact PySem.W.get_value X J (PySem.W.plainGet_of hg).1 (PySem.W.findObj_own hh ha rfl (by rw [hl, hv])) hv' h


theorem get_meth {pl : Sem Bool} {Q : Value × List Value → Shared → Prop} (X : K.In s.heap) (I : ObjM s.heap x dx C mA) (hg : PySem.W.plainGet K C name = true)
    (hf : PySem.W.findIn K (.ref C) name = some (some (.ref f))) (ht : PySem.W.isFn K (.ref f) = true) (hv : mA name = none) (h : Q (.ref f, [.ref x]) s) :
    wpAny (model prog w) A (getMethod (.ref x) name pl) Q E s := by
  obtain ⟨od, J, hl⟩ := I.look
  exact PySem.W.method_fn X J (PySem.W.plainGet_of hg).1 (PySem.W.plainGet_of hg).2 hf (beq_iff_eq.mp ht) (by show (PySem.W.lookIn name od).map (·.isSome) = some false; rw [hl, hv]; rfl) h

theorem set_map {ns : List Str} {Q : Unit → Shared → Prop} (X : K.In s.heap) (I : ObjM s.heap x dx C mA)
    (hs : PySem.W.findIn K (.ref C) "__setattr__" = some (some (.builtin "object.__setattr__"))) (hp : PySem.W.plainOver K C = true) (ht : PySem.W.takerIn K C name = some none) (hh : PySem.W.hasDictIn K C = true)
    (hw : PySem.Within mA ns) (hsz : ns.length ≤ sizeLine)
    (h : ∀ h', ObjM h' x dx C (fun y => if y = name then some v else mA y) → Heap.SameBut dx s.heap h' → Q () { s with heap := h', toks := s.toks + 2 }) :
    wpAny (model prog w) A (setAttr (.ref x) name v) Q E s := by
  obtain ⟨od, J, hl⟩ := I.look
  refine PySem.W.set_plain X J hs (PySem.W.osa_open (s := { s with toks := s.toks + 1 }) (r := none) X J hp ht fun b => ?_)
  obtain ⟨cd, hc, hd'⟩ := PySem.W.any_some hh
  have hx : s.heap.get? x = some ⟨.ref C, some dx, .plain, #[]⟩ := I.obj
  refine wpAny_bind (wpAny_pure (wpAny_bind (wpAny_bind (wpAny_loadPart hx (wpAny_bind (PySem.W.Looks.here (s := { s with toks := s.toks + 1 }) (PySem.W.looks_clsIn X hc) ?_))))))
  rw [hd']
  refine wpAny_pure (a := some dx) (wpAny_bind (wpAny_pure (wpAny_bind ?_)))
  refine wpAny_nsSet1 (s := { s with toks := s.toks + 1 }) I.ns fun h' hn2 hs2 => ?_
  obtain ⟨oD, esD, epD, hoD, hdD, hcD⟩ := hn2.count (PySem.Within.cons name v hw)
  refine wpAny_bind (wpAny_lookBehind hoD (by rw [hdD]; exact pastItsLine_dict (Nat.le_trans hcD (by rw [List.length_cons]; omega))) ?_)
  exact wpAny_pure (h _ ⟨(hs2.2 _ (Ne.symm I.ne)).trans I.obj, hn2, I.ne⟩ hs2)

/-- C(..): the dict at the heap's end, the instance behind it; then its __init__ -/
theorem make_map {R : Result → Shared → Prop} {vs : List Value} {kw : List (Str × Value)} (X : K.In s.heap) (hm : PySem.W.makesIn K C = true)
    (hi : PySem.W.findIn K (.ref C) "__init__" = some (some (.ref f))) (hf : PySem.W.typeIn K (.ref f) = some (.type "function"))
    (h : codeAny (model prog w) (A.under (.builtin "type.__call__" ⟨.ref C :: vs, kw⟩)) (.call (.ref f) ⟨.ref (s.heap.objs.size + 1) :: vs, kw⟩) (PySem.W.InitBack (s.heap.objs.size + 1) R)
      { s with heap := (s.heap.push PySem.W.emptyDict).push (PySem.W.instObj C s.heap.objs.size) }) :
    codeAny (model prog w) A (.call (.ref C) ⟨vs, kw⟩) R s := by
  obtain ⟨hh, g, d, t, os⟩ := s
  exact PySem.W.make_core (PySem.W.makes_of X hm) (PySem.W.looks_findIn X hi) (fun self => PySem.W.bind_fn X self hf) (.inl rfl) h
end

/-! ### the attributes as a list of pairs -/
def putF (f : Str) (v : V) : List (Str × V) → List (Str × V)
  | [] => [(f, v)]
  | (g, x) :: r => if g = f then (g, v) :: r else (g, x) :: putF f v r
theorem lookup_putF (f g : Str) (v : V) : ∀ fs : List (Str × V), (putF f v fs).lookup g = if g = f then some v else fs.lookup g
  | [] => by
    show List.lookup g [(f, v)] = _
    by_cases h : g = f
    · have hb : (g == f) = true := beq_iff_eq.mpr h
      simp only [List.lookup, hb, if_pos h]
    · have hb : (g == f) = false := beq_eq_false_iff_ne.mpr h
      simp only [List.lookup, hb, if_neg h]
  | (k, x) :: r => by
    have ih := lookup_putF f g v r
    rw [show putF f v ((k, x) :: r) = (if k = f then (k, v) :: r else (k, x) :: putF f v r) from rfl]
    by_cases hk : k = f
    · rw [if_pos hk]
      by_cases h : g = k
      · have hb : (g == k) = true := beq_iff_eq.mpr h
        simp only [List.lookup, hb, if_pos (h.trans hk)]
      · have hb : (g == k) = false := beq_eq_false_iff_ne.mpr h
        simp only [List.lookup, hb, if_neg (fun e : g = f => h (e.trans hk.symm))]
    · rw [if_neg hk]
      by_cases h : g = k
      · have hb : (g == k) = true := beq_iff_eq.mpr h
        simp only [List.lookup, hb, if_neg (fun e : g = f => hk (h.symm.trans e))]
      · have hb : (g == k) = false := beq_eq_false_iff_ne.mpr h
        simp only [List.lookup, hb]
        exact ih
theorem keys_putF (f : Str) (v : V) : ∀ fs : List (Str × V), f ∈ (putF f v fs).map (·.1) ∧ ∀ g, g ∈ fs.map (·.1) → g ∈ (putF f v fs).map (·.1)
  | [] => ⟨by simp [putF], fun g h => by simp at h⟩
  | (k, x) :: r => by
    obtain ⟨i1, i2⟩ := keys_putF f v r
    rw [show putF f v ((k, x) :: r) = (if k = f then (k, v) :: r else (k, x) :: putF f v r) from rfl]
    by_cases hk : k = f
    · rw [if_pos hk]
      subst hk
      exact ⟨by simp, fun g h => by simpa using h⟩
    · rw [if_neg hk]
      refine ⟨?_, fun g h => ?_⟩
      · rw [List.map_cons]
        exact List.mem_cons_of_mem _ i1
      · rw [List.map_cons] at h ⊢
        rcases List.mem_cons.mp h with e | e
        · exact List.mem_cons.mpr (.inl e)
        · exact List.mem_cons_of_mem _ (i2 g e)
theorem length_putF (f : Str) (v : V) : ∀ fs : List (Str × V), (putF f v fs).length ≤ fs.length + 1
  | [] => by simp [putF]
  | (k, x) :: r => by
    have ih := length_putF f v r
    rw [show putF f v ((k, x) :: r) = (if k = f then (k, v) :: r else (k, x) :: putF f v r) from rfl]
    by_cases hk : k = f
    · rw [if_pos hk, List.length_cons, List.length_cons]; omega
    · rw [if_neg hk, List.length_cons, List.length_cons]; omega

theorem RelO.some_of {v : V} {o : Option Value} (r : RelO (some v) o) : ∃ u, o = some u ∧ RelV v u := by
  cases o with
  | none => exact (show False from r).elim
  | some u => exact ⟨u, rfl, r⟩
theorem RelO.none_of {o : Option Value} (r : RelO none o) : o = none := by
  cases o with
  | none => rfl
  | some u => exact (show False from r).elim
theorem handed_of {v : V} {u : Value} (r : RelV v u) : PySem.W.handedIn u = true := by
  cases v with
  | non => cases (show u = Value.none from r); rfl
  | bl b => cases (show u = Value.bool b from r); rfl
  | int i => obtain ⟨t, e⟩ := (show ∃ t, u = Value.int i t from r); cases e; rfl
  | str x => obtain ⟨t, e⟩ := (show ∃ t, u = Value.str x t from r); cases e; rfl
  | byt b => obtain ⟨t, e⟩ := (show ∃ t, u = Value.bytes b t from r); cases e; rfl
  | flt b => obtain ⟨t, e⟩ := (show ∃ t, u = Value.float b t from r); cases e; rfl
  | ref a => cases (show u = Value.ref a from r); rfl
  | ty n => cases (show u = Value.type n from r); rfl

section
variable {P : Program} {w : World} {H H' : Hp} {h h' : Heap} {a C dx : Addr} {fs fs' : List (Str × V)}
theorem ins_get (hok : HOk P w H h) (e : H a = some (.ins C dx fs)) : ∃ mA, ObjM h a dx C mA ∧ (∀ f, RelO (fs.lookup f) (mA f)) ∧ PySem.Within mA (fs.map (·.1)) ∧ fs.length ≤ 1000 ∧ H dx = some (.own a) := by
  obtain ⟨d, z, ne, ob, mA, n, r, q⟩ := (show ObjOk P w H h a (.ins C dx fs) from hok a _ e)
  exact ⟨mA, ⟨ob, n, ne⟩, r, q, z, d⟩
end

/-! ### what of the text a class must have -/
structure Cls (K : PySem.W.Frag) (C : Addr) : Prop where
  pg : PySem.W.plainGet K C Str.empty = true
  hd : PySem.W.hasDictIn K C = true
  po : PySem.W.plainOver K C = true
  sa : PySem.W.findIn K (.ref C) "__setattr__" = some (some (.builtin "object.__setattr__"))
theorem Cls.get {K : PySem.W.Frag} {C : Addr} (c : Cls K C) (f : Str) : PySem.W.plainGet K C f = true := c.pg
/-- no class of it has the name -/
def NoAttr (K : PySem.W.Frag) (C : Addr) (f : Str) : Prop := PySem.W.findIn K (.ref C) f = some none
theorem NoAttr.taker {K : PySem.W.Frag} {C : Addr} {f : Str} (n : NoAttr K C f) : PySem.W.takerIn K C f = some none := by
  unfold PySem.W.takerIn
  rw [show PySem.W.findIn K (.ref C) f = some none from n]
  rfl
/-- a constant of the class -/
structure Con (K : PySem.W.Frag) (C : Addr) (f : Str) (v : V) (u : Value) : Prop where
  at_ : PySem.W.findIn K (.ref C) f = some (some u)
  rel : RelV v u
  get : PySem.W.specialIn K u "__get__" = some none
  cp : PySem.W.copiedNames.contains f = false
/-- a method: a plain def of the class or of one above it -/
structure Meth (K : PySem.W.Frag) (C : Addr) (m : Str) (f : Addr) : Prop where
  at_ : PySem.W.findIn K (.ref C) m = some (some (.ref f))
  fn : PySem.W.isFn K (.ref f) = true
  kp : PySem.W.keepIn K (.ref f) = true

section
variable {X : Cx} {pins : List (Addr × Obj)} {σ : St} {H : Hp} {s : Shared} {a C dx : Addr} {fs : List (Str × V)} {f : Str} {v : V} {A : Around} {E : Value → Shared → Prop}

theorem getattr_ok {b : Bool} {Q : Value → Shared → Prop} (I : Inv X pins σ H s) (e : H a = some (.ins C dx fs)) (c : Cls X.K C) (n : NoAttr X.K C f) (l : fs.lookup f = some v)
    (h : ∀ u s', Inv X pins σ H s' → RelV v u → Q u s') : wpAny (model X.prog X.w) A (getAttr (.ref a) f b) Q E s := by
  obtain ⟨mA, O, r, _, _, _⟩ := ins_get I.hok e
  obtain ⟨u, hu, ru⟩ := RelO.some_of (v := v) (o := mA f) (by rw [← l]; exact r f)
  exact get_map I.kIn O (c.get f) c.hd n hu (handed_of ru) (h u _ (I.tok _) ru)


theorem getmeth_ok {m : Str} {g : Addr} {pl : Sem Bool} {Q : Value × List Value → Shared → Prop} (I : Inv X pins σ H s) (e : H a = some (.ins C dx fs)) (c : Cls X.K C) (k : Meth X.K C m g) (l : fs.lookup m = none)
    (h : Q (.ref g, [.ref a]) s) : wpAny (model X.prog X.w) A (getMethod (.ref a) m pl) Q E s := by
  obtain ⟨mA, O, r, _, _, _⟩ := ins_get I.hok e
  have hn : mA m = none := RelO.none_of (by rw [← l]; exact r m)
  exact get_meth I.kIn O (c.get m) k.at_ k.fn hn h

theorem setattr_ok {y : V} {u : Value} {Q : Unit → Shared → Prop} (I : Inv X pins σ H s) (e : H a = some (.ins C dx fs)) (c : Cls X.K C) (n : NoAttr X.K C f) (hl : fs.length < 1000) (ry : RelV y u)
    (h : ∀ s', Inv X pins σ (upd H a (.ins C dx (putF f y fs))) s' → Q () s') : wpAny (model X.prog X.w) A (setAttr (.ref a) f u) Q E s := by
  obtain ⟨mA, O, r, wi, _, ho⟩ := ins_get I.hok e
  have hz : (fs.map (·.1)).length ≤ sizeLine := by rw [List.length_map, sizeLine_eq]; omega
  refine set_map I.kIn O c.sa c.po n.taker c.hd wi hz fun h' O' sb => h _ ?_
  have hd : ∃ o, h'.get? dx = some o := let ⟨o, _, _, e', _⟩ := O'.ns; ⟨o, e'⟩
  refine I.write (x := a) (e := dx) (by rw [e]; exact True.intro) (.inr ho) (fun b q hb z => (sb.2 b hb).trans z) hd ?_
  refine ⟨by rw [upd_ne O.ne]; exact ho, ?_, O.ne, O'.obj, _, O'.ns, fun g => ?_, fun g hg => ?_⟩
  · have := length_putF f y fs; omega
  · show RelO ((putF f y fs).lookup g) (if g = f then some u else mA g)
    rw [lookup_putF]
    by_cases q : g = f
    · rw [if_pos q, if_pos q]; exact ry
    · rw [if_neg q, if_neg q]; exact r g
  · by_cases q : g = f
    · rw [q]; exact (keys_putF f y fs).1
    · refine (keys_putF f y fs).2 g (wi g fun z => hg ?_)
      show (if g = f then some u else mA g) = none
      rw [if_neg q]; exact z

/-- a new instance, tracked, without attributes -/
theorem Inv.made (I : Inv X pins σ H s) : Inv X pins σ (upd (upd H s.heap.objs.size (.own (s.heap.objs.size + 1))) (s.heap.objs.size + 1) (.ins C s.heap.objs.size []))
    { s with heap := (s.heap.push PySem.W.emptyDict).push (PySem.W.instObj C s.heap.objs.size) } := by
  have e1 : (s.heap.push PySem.W.emptyDict).get? s.heap.objs.size = some PySem.W.emptyDict := Heap.get?_push_size s.heap rfl
  have e2 : ((s.heap.push PySem.W.emptyDict).push (PySem.W.instObj C s.heap.objs.size)).get? (s.heap.objs.size + 1) = some (PySem.W.instObj C s.heap.objs.size) := by
    have := Heap.get?_push_size (s.heap.push PySem.W.emptyDict) (o := PySem.W.instObj C s.heap.objs.size) rfl
    rwa [Heap.size_push] at this
  have e3 : (s.heap.push PySem.W.emptyDict).Ns s.heap.objs.size (fun _ => none) := ⟨PySem.W.emptyDict, #[], _, e1, rfl, (fun e he => absurd he (by simp)), fun _ => rfl⟩
  have I1 := I.laid (a := s.heap.objs.size) (o := .own (s.heap.objs.size + 1)) (h' := s.heap.push PySem.W.emptyDict) (t' := s.toks) (fun b u q => Heap.get?_push_of_some _ q) (Nat.le_refl _) ⟨_, e1⟩
  refine I1.laid (a := s.heap.objs.size + 1) (o := .ins C s.heap.objs.size []) (t' := s.toks) (fun b u q => Heap.get?_push_of_some _ q) (Nat.le_of_eq (Heap.size_push _ _)) ?_
  have ne : s.heap.objs.size ≠ s.heap.objs.size + 1 := Nat.ne_of_lt (Nat.lt_succ_self _)
  refine ⟨by rw [upd_ne ne, upd_same], Nat.zero_le _, ne, e2, fun _ => none, (Heap.Ns1.of_empty e3).at fun o q => Heap.get?_push_of_some _ q, fun _ => True.intro, fun y hy => absurd rfl hy⟩

/-- e.f where nothing but the object is asked: through attributeBase (super) and the last hold -/
theorem attr_of {prog : Program} {w : World} {env : Env} {e : Expr} {f : Str} {pos : Pos} {s : Shared} {Q : Value → Shared → Prop} (hb : attributeBase e f env (eval e env) = eval e env)
    (h : wpAny (model prog w) A (eval e env) (fun o s₁ => wpAny (model prog w) A (getAttr o f true) Q E s₁) E s) : wpAny (model prog w) A (eval (.Attribute e f pos) env) Q E s :=
  Attribute_any_ h (by rw [arm_eval_Attribute, hb])
end

/-! ### readings and rules -/
/-- e.f, an attribute of the instance -/
def tFld (K : PySem.W.Frag) (ta : TE) (f : Str) : TE := fun σ H Q => ta σ H fun x H1 => ∃ a C dx fs v, x = .ref a ∧ H1 a = some (.ins C dx fs) ∧ Cls K C ∧ NoAttr K C f ∧ fs.lookup f = some v ∧ Q v H1
/-- e.f = value -/
def sFld (K : PySem.W.Frag) (ta tv : TE) (f : Str) : TS := fun D σ H => tv σ H fun y H1 => ta σ H1 fun x H2 => ∃ a C dx fs, x = .ref a ∧ H2 a = some (.ins C dx fs) ∧ Cls K C ∧ NoAttr K C f ∧ fs.length < 1000 ∧
  D.nx σ (upd H2 a (.ins C dx (putF f y fs)))

section
variable {X : Cx} {o e value : Expr} {f : Str} {pos pos' tpos : Pos} {ta tv : TE}
theorem pe_fld (he : PE X e ta) (hb : attributeBase e f X.env (eval e X.env) = eval e X.env) : PE X (.Attribute e f pos) (tFld X.K ta f) := by
  intro pins s σ H Q I h
  refine attr_of hb (thn (he pins s σ H _ I h) fun u s1 ⟨x, H1, I1, rx, a, C, dx, fs, v, ex, ea, c, n, l, q⟩ => ?_)
  subst ex
  obtain rfl : u = Value.ref a := rx
  exact getattr_ok I1 ea c n l fun u' s2 I2 ru => ⟨v, H1, I2, ru, q⟩
theorem ps_fld (ha : PE X o ta) (hv : PE X value tv) (hs : swapsWith value (some (.Attribute o f pos')) pos.line X.env = pure false) : PS X (.Assign [.Attribute o f pos'] value pos) (sFld X.K ta tv f) := by
  intro pins s σ H D I h
  refine plainObj_wpAny_Assign_Attribute (thn (hv pins s σ H _ I h) fun u s1 ⟨y, H1, I1, ry, q⟩ => thn (ha pins s1 σ H1 _ I1 q) fun ov s2 ⟨x, H2, I2, rx, a, C, dx, fs, ex, ea, c, n, l, q2⟩ => ?_) hs
  subst ex
  obtain rfl : ov = Value.ref a := rx
  exact setattr_ok I2 ea c n l ry fun s3 I3 => ⟨σ, _, I3, q2⟩

end

/-! ### isinstance -/
section
variable {X : Cx} {pins : List (Addr × Obj)} {σ : St} {H : Hp} {s : Shared} {A : Around} {E : Value → Shared → Prop} {Q : Value → Shared → Prop} {c : Value} {b : Bool}
/-- the type of a value, as the fragment's deciders take it; for an instance its class -/
inductive TyOf (K : PySem.W.Frag) (H : Hp) : V → Value → Prop where
  | non : TyOf K H .non (.type "NoneType")
  | bl (x : Bool) : TyOf K H (.bl x) (.type "bool")
  | int (i : Int) : TyOf K H (.int i) (.type "int")
  | str (x : Str) : TyOf K H (.str x) (.type "str")
  | flt (x : UInt64) : TyOf K H (.flt x) (.type "float")
  | lst {a : Addr} {xs : List V} (e : H a = some (.lst xs)) : TyOf K H (.ref a) (.type "list")
  | frz {a : Addr} {o : Obj} {xs : List V} (e : H a = some (.frz o (.lst xs))) : TyOf K H (.ref a) (.type "list")
  | tup {a : Addr} {xs : List V} (e : H a = some (.tup xs)) : TyOf K H (.ref a) (.type "tuple")
  | dK {a : Addr} {kvs : List (Key × V)} (e : H a = some (.dK kvs)) : TyOf K H (.ref a) (.type "dict")
  | dT {a : Addr} {kvs : List (List Key × V)} (e : H a = some (.dT kvs)) : TyOf K H (.ref a) (.type "dict")
  | ins {a C dx : Addr} {fs : List (Str × V)} (e : H a = some (.ins C dx fs)) (cl : Cls K C) (ha : PySem.W.findIn K (.ref C) "__class__" = some (some (.builtin "object.__class__")))
      (hn : PySem.W.specialIn K (.builtin "object.__class__") "__get__" = some (some (.builtin "getset_descriptor.__get__"))) (htk : PySem.W.takesIn K (.builtin "object.__class__") = some true)
      (hm : PySem.W.mroIn K C (.type "object") = some true) : TyOf K H (.ref a) (.ref C)
/-- isinstance(x, c) for one class c, a built-in or an own one: kitOne's answer -/
theorem isinst_ok {x : V} {u t : Value} (I : Inv X pins σ H s) (rx : RelV x u) (ty : TyOf X.K H x t) (e : PySem.W.kitOne X.K t c = some b) (h : ∀ tk, Q (.bool b) { s with toks := tk }) :
    wpAny (model X.prog X.w) A (call (.builtin "isinstance") [u, c]) Q E s := by
  cases ty with
  | non => cases (show u = Value.none from rx); exact PySem.W.kia_one PySem.W.kitx_none I.kIn True.intro e (fun z => nomatch z) h
  | bl y => cases (show u = Value.bool y from rx); exact PySem.W.kia_one PySem.W.kitx_bool I.kIn True.intro e (fun z => nomatch z) h
  | int i => obtain ⟨t, q⟩ := (show ∃ t, u = Value.int i t from rx); cases q; exact PySem.W.kia_one PySem.W.kitx_int I.kIn True.intro e (fun z => nomatch z) h
  | str y => obtain ⟨t, q⟩ := (show ∃ t, u = Value.str y t from rx); cases q; exact PySem.W.kia_one PySem.W.kitx_str I.kIn True.intro e (fun z => nomatch z) h
  | flt y => obtain ⟨t, q⟩ := (show ∃ t, u = Value.float y t from rx); cases q; exact PySem.W.kia_one PySem.W.kitx_float I.kIn True.intro e (fun z => nomatch z) h
  | @lst a xs ea =>
    cases (show u = Value.ref a from rx)
    obtain ⟨_, _, n, _, h1⟩ := (show ObjOk X.prog X.w H s.heap a (.lst xs) from I.hok a _ ea)
    exact PySem.W.kia_one PySem.W.kitx_list I.kIn ⟨_, h1, rfl⟩ e (fun z => nomatch z) h
  | @frz a ob xs ea =>
    cases (show u = Value.ref a from rx)
    obtain ⟨_, _, _, n, _, h1⟩ := (show ObjOk X.prog X.w H s.heap a (.frz ob (.lst xs)) from I.hok a _ ea)
    exact PySem.W.kia_one PySem.W.kitx_list I.kIn ⟨_, h1, rfl⟩ e (fun z => nomatch z) h
  | @tup a xs ea =>
    cases (show u = Value.ref a from rx)
    obtain ⟨_, _, _, p⟩ := (show ObjOk X.prog X.w H s.heap a (.tup xs) from I.hok a _ ea)
    obtain ⟨o, h1, h2, _⟩ := p
    exact PySem.W.kia_one PySem.W.kitx_tuple I.kIn ⟨o, h1, h2⟩ e (fun z => nomatch z) h
  | @dK a kvs ea =>
    cases (show u = Value.ref a from rx)
    obtain ⟨_, _, vs, _, p⟩ := (show ObjOk X.prog X.w H s.heap a (.dK kvs) from I.hok a _ ea)
    obtain ⟨o, es, ep, h1, h2, _⟩ := p
    exact PySem.W.kia_one PySem.W.kitx_dict I.kIn ⟨o, h1, h2.1⟩ e (fun z => nomatch z) h
  | @dT a kvs ea =>
    cases (show u = Value.ref a from rx)
    obtain ⟨_, _, xs, _, o, es, ep, h1, h2, _⟩ := (show ObjOk X.prog X.w H s.heap a (.dT kvs) from I.hok a _ ea)
    exact PySem.W.kia_one PySem.W.kitx_dict I.kIn ⟨o, h1, h2.1⟩ e (fun z => nomatch z) h
  | @ins a C dx fs ea cl ha hn htk hm =>
    cases (show u = Value.ref a from rx)
    obtain ⟨mA, O, _⟩ := ins_get I.hok ea
    obtain ⟨od, J, _⟩ := O.look
    exact PySem.W.kia_one (PySem.W.kitx_own (cl.get _) cl.hd ha hn htk hm) I.kIn J e (fun z => nomatch z) h
end
end L2

namespace L2
open PySem PySem.Spec PyProof.Rows

/-! ### room -/
structure Room (k : Nat) (A : Around) : Prop where
  hd : A.handled = none
  dp : A.depth + 3 * k + 5 < recursionLimit
  un : A.units + 16 * k + 200 < cLine
theorem Room.mono {j k : Nat} {A : Around} (r : Room k A) (h : j ≤ k) : Room j A := ⟨r.hd, by have := r.dp; omega, by have := r.un; omega⟩
theorem Room.deeper {k : Nat} {A : Around} (r : Room (k + 1) A) (env : Env) : Room k (A.deeper env) :=
  ⟨r.hd, by have := r.dp; show A.depth + 1 + 3 * k + 5 < _; omega, by have := r.un; show A.units + 3 + 16 * k + 200 < _; omega⟩
theorem make_depth {A : Around} {C : Addr} {us : List Value} {kw : List (Str × Value)} : (A.under (.builtin "type.__call__" ⟨.ref C :: us, kw⟩)).depth = A.depth + 1 := by
  first | rfl | simp [Around.under, Code.weight, Code.isCreation, Code.isGuard, Code.isCaller, Code.frames, Code.isFrame, guardIds]
theorem make_units {A : Around} {C : Addr} {us : List Value} {kw : List (Str × Value)} : (A.under (.builtin "type.__call__" ⟨.ref C :: us, kw⟩)).units = A.units + 1 := by
  first | rfl | simp [Around.under, Code.cUnits, Code.frames, Code.isFrame]
theorem Room.make {k : Nat} {A : Around} (r : Room (k + 1) A) (C : Addr) (us : List Value) (kw : List (Str × Value)) : Room k (A.under (.builtin "type.__call__" ⟨.ref C :: us, kw⟩)) :=
  ⟨r.hd, by have := r.dp; rw [make_depth]; omega, by have := r.un; rw [make_units]; omega⟩
theorem Room.depth {k : Nat} {A : Around} (r : Room k A) : A.depth < recursionLimit := by have := r.dp; omega

/-! ### argument lists and displays -/
def tNil : TA := fun _ H Q => Q [] H
def tCons (ta : TE) (tr : TA) : TA := fun σ H Q => ta σ H fun x H1 => tr σ H1 fun xs H2 => Q (x :: xs) H2
section
variable {X : Cx} {e : Expr} {es : List Expr} {te : TE} {t : TA} {pos : Pos}
theorem pa_nil : PA X [] tNil := fun _ _ _ _ H Q I h => Calls.spliced_nil ⟨[], H, I, .nil, h⟩
theorem pa_cons (ha : PE X e te) (hr : PA X es t) (hs : starEach (e :: es) X.env = (false, eval e X.env) :: starEach es X.env := by rfl) : PA X (e :: es) (tCons te t) := by
  intro pos pins s σ H Q I h
  rw [hs]
  show wpAny _ _ (spliced ((false, eval e X.env) :: backTo pos (starEach es X.env))) _ _ s
  refine Calls.spliced_cons (thn (ha pins s σ H _ I h) fun u s1 ⟨x, H1, I1, r1, q1⟩ => ?_)
  exact thn (hr pos pins s1 σ H1 _ I1 q1) fun us s2 ⟨xs, H2, I2, r2, q2⟩ => ⟨x :: xs, H2, I2, .cons r1 r2, q2⟩

/-- a tuple, a list of written items -/
def tTup (t : TA) : TE := fun σ H Q => t σ H fun xs H1 => xs.length ≤ sizeLine ∧ ∀ p, H1 p = none → Q (.ref p) (upd H1 p (.tup xs))
def tLst (t : TA) : TE := fun σ H Q => t σ H fun xs H1 => xs.length ≤ sizeLine ∧ ∀ p, H1 p = none → Q (.ref p) (upd H1 p (.lst xs))
theorem pe_tup {x1} (h : PA X es t) : PE X (.Tuple es x1 pos) (tTup t) := by
  intro pins s σ H Q I hq
  refine wpAny_Tuple_spliced (thn (h pos pins s σ H _ I hq) fun us s1 ⟨xs, H1, I1, r, z, q⟩ => ⟨by rw [← r.length]; exact z, ?_⟩)
  have hf : H1 s1.heap.objs.size = none := I1.hok.fresh (Nat.le_refl _)
  refine ⟨.ref s1.heap.objs.size, upd H1 s1.heap.objs.size (.tup xs), I1.laid (t' := s1.toks) (fun b u e => Heap.get?_push_of_some _ e) (Nat.le_refl _) ?_, rfl, q _ hf⟩
  exact ⟨z, us, r, ⟨_, Heap.get?_push_size _ rfl, rfl, _, rfl⟩⟩
theorem pe_lst (h : PA X es t) : PE X (.List es pos) (tLst t) := by
  intro pins s σ H Q I hq
  refine wpAny_List_spliced (thn (h pos pins s σ H _ I hq) fun us s1 ⟨xs, H1, I1, r, z, q⟩ => ⟨by rw [← r.length]; exact z, ?_⟩)
  have hf : H1 s1.heap.objs.size = none := I1.hok.fresh (Nat.le_refl _)
  refine ⟨.ref s1.heap.objs.size, upd H1 s1.heap.objs.size (.lst xs), I1.laid (t' := s1.toks) (fun b u e => Heap.get?_push_of_some _ e) (Nat.le_refl _) ?_, rfl, q _ hf⟩
  exact ⟨z, us, 0, r, Heap.get?_push_size _ rfl⟩
end

/-! ### what a def promises -/
/-- a def's promise: the bound arguments in the parameters' order, the heap, the wanted end, the wanted exception -/
abbrev Sp := List V → Hp → VK → XK → Prop
/-- how an exception lies behind a call (file 08 gives it): the callers' frames, abstract heap and state ahead of the call, the wish, the exception, the state -/
abbrev CXT := List Env → Hp → Shared → XK → Value → Shared → Prop

/-- the state at a call -/
structure Env0 (P : Program) (w : World) (K : PySem.W.Frag) (mg : Str → Option Value) (base : Heap) (A : Around) (outer : List Env) (s : Shared) (H : Hp) : Prop where
  frames : A.frames = some outer
  mod : Mod K mg base
  bs : ∀ b o, base.get? b = some o → s.heap.get? b = some o ∧ H b = none
  bsz : base.objs.size ≤ s.heap.objs.size
  funs : s.heap.FunFrames base outer
  frf : ∀ b ∈ frs outer, H b = none
  hok : HOk P w H s.heap
  bare : AllBare s.gens
/-- a call's end -/
def CE (outer : List Env) (P : Program) (w : World) (H : Hp) (s : Shared) (Q : VK) (u : Value) (s' : Shared) : Prop :=
  ∃ v H', s'.os = s.os ∧ AllBare s'.gens ∧ Un (frs outer) [] H H' s.heap s'.heap ∧ HOk P w H' s'.heap ∧ RelV v u ∧ Q v H'
def CR (CX : CXT) (outer : List Env) (P : Program) (w : World) (H : Hp) (s : Shared) (Q : VK) (E : XK) (r : Result) (s' : Shared) : Prop :=
  match r with
  | .ok (.ret u) => CE outer P w H s Q u s'
  | .ok _ => False
  | .error e => CX outer H s E e s'
structure FnOk (P : Program) (w : World) (K : PySem.W.Frag) (mg : Str → Option Value) (base : Heap) (CX : CXT) (k : Nat) (f : Addr) (fd : FuncData) (ps : List Str) (sp : Sp) : Prop where
  len : ∀ vs H Q E, sp vs H Q E → vs.length = ps.length
  run : ∀ (A : Around) (outer : List Env) (s : Shared) (H : Hp) (args : Args) (us : List Value) (vs : List V) (Q : VK) (E : XK), Room k A → Env0 P w K mg base A outer s H → BindsTo s fd args (ps.zip us) → Vals vs us → sp vs H Q E →
    codeAny (model P w) A (.call (.ref f) args) (CR CX outer P w H s Q E) s
theorem FnOk.mono {P : Program} {w : World} {K : PySem.W.Frag} {mg : Str → Option Value} {base : Heap} {CX : CXT} {j k : Nat} {f : Addr} {fd : FuncData} {ps : List Str} {sp : Sp} (F : FnOk P w K mg base CX j f fd ps sp) (h : j ≤ k) :
    FnOk P w K mg base CX k f fd ps sp := ⟨F.len, fun A outer s H args us vs Q E hr => F.run A outer s H args us vs Q E (hr.mono h)⟩

theorem Env0.make {P : Program} {w : World} {K : PySem.W.Frag} {mg : Str → Option Value} {base : Heap} {A : Around} {outer : List Env} {s : Shared} {H : Hp} (e : Env0 P w K mg base A outer s H) (C : Addr) (us : List Value) (kw : List (Str × Value)) :
    Env0 P w K mg base (A.under (.builtin "type.__call__" ⟨.ref C :: us, kw⟩)) outer s H := ⟨by first | exact e.frames | (simpa [Around.under, Code.envs, Code.isFrame, pushEnvs] using e.frames), e.mod, e.bs, e.bsz, e.funs, e.frf, e.hok, e.bare⟩

section
variable {X : Cx} {pins : List (Addr × Obj)} {σ : St} {H : Hp} {s s' : Shared}
/-- from a body: what a callee wants -/
theorem Inv.env0 (I : Inv X pins σ H s) : Env0 X.prog X.w X.K X.mg X.base X.A X.stack s H :=
  ⟨I.ok.frames, I.ok.mod, I.bs, Nat.le_trans I.ok.bsz I.sz, I.stack, I.stkFree, I.hok, I.bare⟩
/-- behind a call -/
theorem Inv.after {Q : VK} {u : Value} (I : Inv X pins σ H s) (h : CE X.stack X.prog X.w H s Q u s') : EP X pins σ Q u s' := by
  obtain ⟨v, H', os, bare, un, hok, r, q⟩ := h
  obtain ⟨hh, g, d, t, os'⟩ := s'
  obtain rfl : os' = s.os := os
  exact ⟨v, H', I.call (h' := hh) (g' := g) (d' := d) (t' := t) (ch := []) un hok bare (fun b z => absurd z (by simp)), r, q⟩
end

/-! ### calls -/
/-- f(..): the written arguments, then the defaults dvs; E: what is wanted of an exception -/
def tCall (sp : Sp) (dvs : List V) (E : XK) (t : TA) : TE := fun σ H Q => t σ H fun vs H1 => sp (vs ++ dvs) H1 Q E
/-- o.m(..) of an instance of the class at C -/
def tMeth (C : Addr) (m : Str) (sp : Sp) (dvs : List V) (E : XK) (ta : TE) (t : TA) : TE := fun σ H Q => ta σ H fun x H1 => ∃ a dx fs, x = .ref a ∧ H1 a = some (.ins C dx fs) ∧ fs.lookup m = none ∧
  t σ H1 fun vs H2 => sp (x :: (vs ++ dvs)) H2 Q E
/-- C(..): a new instance and its dict, then __init__ -/
def tMake (C : Addr) (sp : Sp) (dvs : List V) (E : XK) (t : TA) : TE := fun σ H Q => t σ H fun vs H1 => ∀ x dx, H1 x = none → H1 dx = none → dx ≠ x →
  sp (.ref x :: (vs ++ dvs)) (upd (upd H1 dx (.own x)) x (.ins C dx [])) (fun v H2 => v = .non ∧ Q (.ref x) H2) E

/-- how the parameters are bound: us the positional arguments, kw the keywords' values by name, ds the defaults that fill up -/
def Binds (K : PySem.W.Frag) (fd : FuncData) (ps : List Str) (ds : List Value) : Prop :=
  ∀ (s : Shared) (us : List Value), K.In s.heap → (us ++ ds).length = ps.length → BindsTo s fd ⟨us, []⟩ (ps.zip (us ++ ds))
/-- every parameter is given -/
theorem Binds.all {K : PySem.W.Frag} {fd : FuncData} {ps : List Str} (h : ∀ us : List Value, us.length = ps.length → bindArgs fd ⟨us, []⟩ = pure (ps.zip us)) : Binds K fd ps [] := fun s us _ hl => by
  rw [List.append_nil] at hl ⊢
  exact .of_eq (h us hl)

/-- an exception of a callee reaches what this body wants of exceptions -/
def Passes (CX : CXT) (X : Cx) (E : XK) : Prop := ∀ (pins : List (Addr × Obj)) (σ : St) (H : Hp) (s : Shared) (e : Value) (s' : Shared), Inv X pins σ H s → CX X.stack H s E e s' → X.xe e s'

section
variable {X : Cx} {CX : CXT} {k : Nat} {f C : Addr} {fd : FuncData} {ps : List Str} {sp : Sp} {dvs : List V} {ds : List Value} {E : XK} {x m : Str} {p pos apos : Pos} {e o : Expr} {es : List Expr} {ta : TE} {t : TA}

/-- the callee runs -/
theorem run_fn {pins : List (Addr × Obj)} {σ : St} {H : Hp} {s : Shared} {Q : VK} {us : List Value} {vs : List V} (F : FnOk X.prog X.w X.K X.mg X.base CX k f fd ps sp) (hr : Room k X.A) (hb : Binds X.K fd ps ds) (hd : Vals dvs ds) (hx : Passes CX X E)
    (I : Inv X pins σ H s) (r : Vals vs us) (h : sp (vs ++ dvs) H Q E) : wpAny (model X.prog X.w) X.A (call (.ref f) us) (EP X pins σ Q) X.xe s := by
  have r2 : Vals (vs ++ dvs) (us ++ ds) := r.append hd
  have hl : (us ++ ds).length = ps.length := by rw [← r2.length]; exact F.len _ _ _ _ h
  refine wpAny_call (codeAny_mono (F.run X.A X.stack s H ⟨us, []⟩ (us ++ ds) (vs ++ dvs) Q E hr I.env0 (hb s us I.kIn hl) r2 h) fun r s' hq => ?_)
  cases r with
  | error e => exact hx pins σ H s e s' I hq
  | ok fl =>
    cases fl with
    | ret u => exact I.after hq
    | next => exact False.elim hq
    | brk => exact False.elim hq
    | cont => exact False.elim hq

theorem pe_call (F : FnOk X.prog X.w X.K X.mg X.base CX k f fd ps sp) (hr : Room k X.A) (hg : Gl X x) (hm : X.mg x = some (.ref f)) (hk : PySem.W.keepIn X.K (.ref f) = true) (hb : Binds X.K fd ps ds) (hd : Vals dvs ds) (hx : Passes CX X E)
    (ha : PA X (e :: es) t) (hdb : (x == ("__debug__" : Str)) = false := by decide) (he : starEach (e :: es) X.env = (false, eval e X.env) :: starEach es X.env := by rfl) (hpl : (backTo pos (starEach es X.env)).any (·.1) = false := by rfl) :
    PE X (.Call (.Name x p) (e :: es) [] pos) (tCall sp dvs E t) := by
  intro pins s σ H Q I h
  refine wpAny_Call_Name_kw (ld_glob I hg hm ?_ hdb)
  refine PySem.W.callWith_K (h₀ := X.base) I.ok.mod.kin hk (thn (ha pos pins s σ H _ I h) fun us s1 ⟨vs, H1, I1, r, q⟩ => ⟨I1.kIn, ?_⟩) he hpl
  exact run_fn F hr hb hd hx I1 r q

/-- o.m(e, ..) -/
theorem pe_meth {pl : Sem Bool} (he : PE X o ta) (c : Cls X.K C) (hm : Meth X.K C m f) (F : FnOk X.prog X.w X.K X.mg X.base CX k f fd ps sp) (hr : Room k X.A) (hb : Binds X.K fd ps ds) (hd : Vals dvs ds) (hx : Passes CX X E) (ha : PA X (e :: es) t)
    (hst : starEach (e :: es) X.env = (false, eval e X.env) :: starEach es X.env := by rfl) (hpl : (backTo pos (starEach es X.env)).any (·.1) = false := by rfl)
    (ht : eval (.Call (.Attribute o m apos) (e :: es) [] pos) X.env = (do
      let ov ← eval o X.env
      standAt apos.atName
      let (f, first) ← holding [ov] (getMethod ov m pl)
      callWith pos f first (backTo pos (starEach (e :: es) X.env)) (backToKw pos (keywordEach [] X.env))) := by rfl) :
    PE X (.Call (.Attribute o m apos) (e :: es) [] pos) (tMeth C m sp dvs E ta t) := by
  intro pins s σ H Q I h
  refine PySem.W.methodCall_KW (pl := pl) (thn (he pins s σ H _ I h) fun u s1 ⟨x, H1, I1, rx, a, dx, fs, ex, ea, l, q⟩ => ?_) ht
  subst ex
  obtain rfl : u = Value.ref a := rx
  refine getmeth_ok I1 ea c hm l ?_
  refine PySem.W.callWith_K (first := [.ref a]) (h₀ := X.base) I.ok.mod.kin hm.kp (thn (ha pos pins s1 σ H1 _ I1 q) fun us s2 ⟨vs, H2, I2, r, q2⟩ => ⟨I2.kIn, ?_⟩) hst hpl
  exact run_fn (us := .ref a :: us) (vs := .ref a :: vs) F hr hb hd hx I2 (.cons rfl r) q2
/-- o.m() -/
theorem pe_meth0 {pl : Sem Bool} (he : PE X o ta) (c : Cls X.K C) (hm : Meth X.K C m f) (F : FnOk X.prog X.w X.K X.mg X.base CX k f fd ps sp) (hr : Room k X.A) (hb : Binds X.K fd ps ds) (hd : Vals dvs ds) (hx : Passes CX X E)
    (ht : eval (.Call (.Attribute o m apos) [] [] pos) X.env = (do
      let ov ← eval o X.env
      standAt apos.atName
      let (f, first) ← holding [ov] (getMethod ov m pl)
      callWith pos f first (backTo pos (starEach [] X.env)) (backToKw pos (keywordEach [] X.env))) := by rfl) :
    PE X (.Call (.Attribute o m apos) [] [] pos) (tMeth C m sp dvs E ta tNil) := by
  intro pins s σ H Q I h
  refine PySem.W.methodCall_KW (pl := pl) (thn (he pins s σ H _ I h) fun u s1 ⟨x, H1, I1, rx, a, dx, fs, ex, ea, l, q⟩ => ?_) ht
  subst ex
  obtain rfl : u = Value.ref a := rx
  refine getmeth_ok I1 ea c hm l ?_
  exact PySem.W.callWith_K0 (first := [.ref a]) I1.kIn hm.kp (run_fn (us := [.ref a]) (vs := [.ref a]) F hr hb hd hx I1 (.cons rfl .nil) q)

/-- what a class must have to be made -/
structure Mk (K : PySem.W.Frag) (C f : Addr) : Prop where
  makes : PySem.W.makesIn K C = true
  init : PySem.W.findIn K (.ref C) "__init__" = some (some (.ref f))
  fn : PySem.W.isFn K (.ref f) = true
  kp : PySem.W.keepIn K (.ref C) = true

theorem run_make {pins : List (Addr × Obj)} {σ : St} {H : Hp} {s : Shared} {Q : VK} {us : List Value} {vs : List V} (M : Mk X.K C f) (F : FnOk X.prog X.w X.K X.mg X.base CX k f fd ps sp) (hr : Room (k + 1) X.A) (hb : Binds X.K fd ps ds) (hd : Vals dvs ds)
    (hx : Passes CX X E) (I : Inv X pins σ H s) (r : Vals vs us)
    (h : ∀ x dx, H x = none → H dx = none → dx ≠ x → sp (.ref x :: (vs ++ dvs)) (upd (upd H dx (.own x)) x (.ins C dx [])) (fun v H2 => v = .non ∧ Q (.ref x) H2) E) :
    wpAny (model X.prog X.w) X.A (call (.ref C) us) (EP X pins σ Q) X.xe s := by
  have hq := h (s.heap.objs.size + 1) s.heap.objs.size (I.hok.fresh (Nat.le_succ _)) (I.hok.fresh (Nat.le_refl _)) (Nat.ne_of_lt (Nat.lt_succ_self _))
  have I2 := Inv.made (C := C) I
  have r2 : Vals (V.ref (s.heap.objs.size + 1) :: (vs ++ dvs)) (Value.ref (s.heap.objs.size + 1) :: (us ++ ds)) := .cons rfl (r.append hd)
  have hl : (Value.ref (s.heap.objs.size + 1) :: us ++ ds).length = ps.length := by
    have e := r2.length
    rw [F.len _ _ _ _ hq] at e
    exact e.symm
  refine wpAny_call (make_map (f := f) I.kIn M.makes M.init (beq_iff_eq.mp M.fn) (codeAny_mono (F.run _ X.stack _ _ ⟨Value.ref (s.heap.objs.size + 1) :: us, []⟩ (Value.ref (s.heap.objs.size + 1) :: (us ++ ds)) _ _ E (hr.make C us [])
    (I2.env0.make C us []) (hb _ (Value.ref (s.heap.objs.size + 1) :: us) I2.kIn hl) r2 hq) fun r s' hq' => ?_))
  cases r with
  | error e => exact hx pins σ _ _ e s' I2 hq'
  | ok fl =>
    cases fl with
    | ret u =>
      obtain ⟨v, H', I3, rv, ev, q3⟩ := I2.after hq'
      subst ev
      exact ⟨rv, ⟨V.ref (s.heap.objs.size + 1), H', I3, rfl, q3⟩⟩
    | next => exact False.elim hq'
    | brk => exact False.elim hq'
    | cont => exact False.elim hq'
theorem pe_make (M : Mk X.K C f) (F : FnOk X.prog X.w X.K X.mg X.base CX k f fd ps sp) (hr : Room (k + 1) X.A) (hg : Gl X x) (hm : X.mg x = some (.ref C)) (hb : Binds X.K fd ps ds) (hd : Vals dvs ds) (hx : Passes CX X E)
    (ha : PA X (e :: es) t) (hdb : (x == ("__debug__" : Str)) = false := by decide) (he : starEach (e :: es) X.env = (false, eval e X.env) :: starEach es X.env := by rfl) (hpl : (backTo pos (starEach es X.env)).any (·.1) = false := by rfl) :
    PE X (.Call (.Name x p) (e :: es) [] pos) (tMake C sp dvs E t) := by
  intro pins s σ H Q I h
  refine wpAny_Call_Name_kw (ld_glob I hg hm ?_ hdb)
  refine PySem.W.callWith_K (h₀ := X.base) I.ok.mod.kin M.kp (thn (ha pos pins s σ H _ I h) fun us s1 ⟨vs, H1, I1, r, q⟩ => ⟨I1.kIn, ?_⟩) he hpl
  exact run_make M F hr hb hd hx I1 r q
end

/-! ### keywords -/
section
variable {X : Cx} {CX : CXT} {k : Nat} {f C : Addr} {fd : FuncData} {ps ks : List Str} {sp : Sp} {E : XK} {x m : Str} {p pos apos kpos : Pos} {e o : Expr} {es : List Expr} {kws : List Keyword} {te ta : TE} {t tk : TA} {nm : Option Str}

/-- how a call with keywords binds: g puts the positional values us and the keywords' values ws (names ks) in the parameters' order, defaults among them -/
structure KBinds (K : PySem.W.Frag) (fd : FuncData) (ps ks : List Str) (g : List Value → List Value → List Value) (gV : List V → List V → List V) : Prop where
  to : ∀ (s : Shared) (us ws : List Value), K.In s.heap → (g us ws).length = ps.length → BindsTo s fd ⟨us, ks.zip ws⟩ (ps.zip (g us ws))
  rel : ∀ {vs : List V} {us : List Value} {zs : List V} {ws : List Value}, Vals vs us → Vals zs ws → Vals (gV vs zs) (g us ws)
variable {g : List Value → List Value → List Value} {gV : List V → List V → List V}
end

/-! ### a def's body keeps its promise -/
/-- names: the parameters first -/
structure FnScope (N P : List Str) (sc : Scope) : Prop where
  kind : sc.kind = .function
  co : sc.isCoroutine = false
  gen : sc.isGenerator = false
  nd : N.Nodup
  pre : N.take P.length = P
  par : ∀ x ∈ P, sc.names.lookup x = some .local ∨ sc.names.lookup x = some .cell
  nofree : ∀ y ∈ sc.names, y.2 ≠ .free

theorem bindL_out {kindOf : Str → Option NameKind} {x : Str} : ∀ {binds : List (Str × Value)} {m : Str → Option Value}, (∀ v, (x, v) ∉ binds) → bindL kindOf binds m x = m x
  | [], _, _ => rfl
  | (n, v) :: r, m, h => by
    unfold bindL
    rw [bindL_out fun w hw => h w (List.mem_cons_of_mem _ hw)]
    split
    · have : x ≠ n := by rintro rfl; exact h v List.mem_cons_self
      simp [this]
    · rfl
theorem bindC_out {kindOf : Str → Option NameKind} {x : Str} : ∀ {binds : List (Str × Value)} {m : Str → Option Value}, (∀ v, (x, v) ∉ binds) → bindC kindOf binds m x = m x
  | [], _, _ => rfl
  | (n, v) :: r, m, h => by
    unfold bindC
    rw [bindC_out fun w hw => h w (List.mem_cons_of_mem _ hw)]
    split
    · rfl
    · have : x ≠ n := by rintro rfl; exact h v List.mem_cons_self
      simp [this]
theorem bindL_get {kindOf : Str → Option NameKind} {x : Str} {v : Value} : ∀ {P : List Str} {vs : List Value} {i : Nat} {m : Str → Option Value}, P.Nodup → P[i]? = some x → vs[i]? = some v → kindOf x = some .local →
    bindL kindOf (P.zip vs) m x = some v
  | [], _, _, _, _, h, _, _ => by simp at h
  | _ :: _, [], _, _, _, _, h, _ => by simp at h
  | p :: P, w :: vs, 0, m, nd, h1, h2, hk => by
    simp at h1 h2; subst h1; subst h2
    show bindL kindOf ((p, w) :: P.zip vs) m p = _
    unfold bindL
    rw [bindL_out fun v hv => (List.nodup_cons.mp nd).1 (List.of_mem_zip hv).1, if_pos hk]
    simp
  | p :: P, w :: vs, i + 1, m, nd, h1, h2, hk => by
    show bindL kindOf ((p, w) :: P.zip vs) m x = _
    unfold bindL
    exact bindL_get (i := i) (List.nodup_cons.mp nd).2 (by simpa using h1) (by simpa using h2) hk
theorem bindC_get {kindOf : Str → Option NameKind} {x : Str} {v : Value} : ∀ {P : List Str} {vs : List Value} {i : Nat} {m : Str → Option Value}, P.Nodup → P[i]? = some x → vs[i]? = some v → kindOf x ≠ some .local →
    bindC kindOf (P.zip vs) m x = some v
  | [], _, _, _, _, h, _, _ => by simp at h
  | _ :: _, [], _, _, _, _, h, _ => by simp at h
  | p :: P, w :: vs, 0, m, nd, h1, h2, hk => by
    simp at h1 h2; subst h1; subst h2
    show bindC kindOf ((p, w) :: P.zip vs) m p = _
    unfold bindC
    rw [bindC_out fun v hv => (List.nodup_cons.mp nd).1 (List.of_mem_zip hv).1, if_neg hk]
    simp
  | p :: P, w :: vs, i + 1, m, nd, h1, h2, hk => by
    show bindC kindOf ((p, w) :: P.zip vs) m x = _
    unfold bindC
    exact bindC_get (i := i) (List.nodup_cons.mp nd).2 (by simpa using h1) (by simpa using h2) hk

/-- the names' values at the entry -/
def start (N : List Str) (vs : List V) : St := vs.map some ++ List.replicate (N.length - vs.length) none

/-- the context of a def's body, at its entry; an exception leaves the frame, then lies as CX says -/
def cxOf (CX : CXT) (P : Program) (w : World) (K : PySem.W.Frag) (mg : Str → Option Value) (base : Heap) (N : List Str) (qual : Str) (scope : Scope) (f : Addr) (cd : Value) (A : Around) (outer : List Env) (s : Shared) (H : Hp) (E : XK) : Cx where
  prog := P
  w := w
  K := K
  mg := mg
  base := base
  A := A.deeper (envOfC qual scope s.heap.objs.size f cd)
  N := N
  s₀ := s
  H₀ := H
  env := envOfC qual scope s.heap.objs.size f cd
  outer := outer
  stack := envOfC qual scope s.heap.objs.size f cd :: outer
  ex := []
  calm := true
  fn := fun _ => true
  pn := []
  xe := fun e s' => wpAny (model P w) (A.deeper (envOfC qual scope s.heap.objs.size f cd)) (leaving (envOfC qual scope s.heap.objs.size f cd) e) (fun _ s'' => CX outer H s E e s'') (fun e' s'' => CX outer H s E e' s'') s'

theorem cell_has {sc : Scope} {n : Nat} {x : Str} (h : sc.names.lookup x = some .cell) : ∃ c, (cellsFrom n sc.names []).lookup x = some c := by
  have q := PySem.W.cellsFrom_some sc.names n [] (.inl h)
  exact Option.isSome_iff_exists.mp q

theorem inv_start {CX : CXT} {P : Program} {w : World} {K : PySem.W.Frag} {mg : Str → Option Value} {base : Heap} {N ps : List Str} {qual : Str} {scope : Scope} {f : Addr} {cd : Value} {A : Around} {outer : List Env} {s s1 : Shared} {H : Hp} {E : XK} {us : List Value} {vs : List V}
    (S : FnScope N ps scope) (hd : A.handled = none) (e0 : Env0 P w K mg base A outer s H) (hl : vs.length = ps.length) (r : Vals vs us)
    (x : InCallC s s.heap.objs.size (bindL (envOfC qual scope s.heap.objs.size f cd).kindOf (ps.zip us) fun _ => none) (cellsFrom (s.heap.objs.size + 1) scope.names []) (bindC (envOfC qual scope s.heap.objs.size f cd).kindOf (ps.zip us) fun _ => none) s1) :
    Inv (cxOf CX P w K mg base N qual scope f cd A outer s H E) [] (start N vs) H s1 := by
  have hpl : ps.length ≤ N.length := by have := congrArg List.length S.pre; rw [List.length_take] at this; omega
  obtain ⟨h1, tk, rfl, hk⟩ := x.done
  have noA : ∀ b : Addr, b ∉ (cxOf CX P w K mg base N qual scope f cd A outer s H E).ex := fun b z => absurd (show b ∈ ([] : List Addr) from z) (by simp)
  refine ⟨⟨e0.mod, S.kind, rfl, rfl, Nat.le_refl _, fun y z c h1 h2 => ?_, fun y hy => ?_, fun y c _ h => ?_, fun _ => hd, Around.frames_deeper e0.frames, .inr ⟨rfl, rfl⟩, fun b z => absurd z (noA b), e0.bs, e0.bsz, fun b _ _ => noA b, fun b z => absurd z (noA b), e0.funs, e0.frf⟩,
    rfl, e0.bare, Un.kept hk, ⟨_, x.toInCall.ns, fun i y v h1 h2 h3 => ?_⟩, fun y c h => ⟨_, x.cell y c h⟩, e0.hok.fresh (Nat.le_refl _), fun y c h => ?_, fun p hp => absurd (show p ∈ ([] : List (Addr × Obj)) from hp) (by simp), e0.hok.kept hk, ?_⟩
  · exact name_of_addr x.apart (PySem.mem_of_lookup h1) (PySem.mem_of_lookup h2)
  · have hy : scope.names.lookup y = some .cell ∨ scope.names.lookup y = some .free := hy
    rcases hy with hy | hy
    · exact cell_has hy
    · exact absurd rfl (S.nofree _ (PySem.mem_of_lookup hy))
  · exact Nat.le_of_lt (x.above y c (PySem.mem_of_lookup h))
  · have hi : i < vs.length := by
      unfold start at h2
      by_cases hi : i < vs.length
      · exact hi
      · rw [List.getElem?_append_right (by simpa using hi)] at h2
        rw [List.getElem?_replicate] at h2
        split at h2 <;> cases h2
    have ha : vs[i]? = some v := by
      unfold start at h2
      rw [List.getElem?_append_left (by simpa using hi), List.getElem?_map] at h2
      cases e : vs[i]? with
      | none => rw [e] at h2; cases h2
      | some a => rw [e] at h2; cases h2; rfl
    obtain ⟨u, hu, rv⟩ := r.get ha
    have hp : ps[i]? = some y := by
      rw [← S.pre, List.getElem?_take_of_lt (by omega)]; exact h1
    have ndP : ps.Nodup := by rw [← S.pre]; exact S.nd.sublist (List.take_sublist _ _)
    refine ⟨u, rv, ?_⟩
    rcases S.par y (List.mem_of_getElem? hp) with k | k
    · exact .inl ⟨k, bindL_get ndP hp hu k⟩
    · obtain ⟨c, e⟩ := cell_has (n := s.heap.objs.size + 1) k
      refine .inr ⟨.inl k, c, e, ?_⟩
      have q := x.cell y c e
      rw [bindC_get ndP hp hu (by show scope.names.lookup y ≠ _; rw [k]; decide)] at q
      exact q
  · exact e0.hok.fresh (Nat.le_of_lt (x.above y c (PySem.mem_of_lookup h)))
  · unfold start
    show _ = N.length
    rw [List.length_append, List.length_map, List.length_replicate]
    omega

/-- THE RULE: a def (or a method) of the text, by its body. The body's reading t is chosen for each entry; it is run at the parameters' values -/
theorem fn_of {CX : CXT} {P : Program} {w : World} {K : PySem.W.Frag} {mg : Str → Option Value} {base : Heap} {k : Nat} {f : Addr} {name qual : Str} {params : Arguments} {body : List Stmt} {scope : Scope} {dV kV doc pm cdv ct oc : Value} {an od : Option Addr}
    {osl : Array (Option Value)} {N ps : List Str} {sp : Sp} (lk : K.lookup f = some ⟨oc, od, .func (PySem.W.fnOf name qual params body scope dV kV doc pm an cdv ct), osl⟩) (hcd : PySem.W.codeIn K cdv qual = true) (S : FnScope N ps scope)
    (len : ∀ vs H Q E, sp vs H Q E → vs.length = ps.length)
    (hbody : ∀ (A : Around) (outer : List Env) (s : Shared) (H : Hp) (vs : List V) (Q : VK) (E : XK), Room k (A.deeper (envOfC qual scope s.heap.objs.size f cdv)) → sp vs H Q E →
      ∃ t, PSs (cxOf CX P w K mg base N qual scope f cdv A outer s H E) body t ∧ t { nx := fun _ H' => Q .non H', rt := Q } (start N vs) H) :
    FnOk P w K mg base CX (k + 1) f (PySem.W.fnOf name qual params body scope dV kV doc pm an cdv ct) ps sp := by
  refine ⟨len, fun A outer s H args us vs Q E hr e0 hb r hsp => ?_⟩
  have hl := len _ _ _ _ hsp
  have KX : K.In s.heap := e0.mod.kin.keeps fun b o e => (e0.bs b o e).1
  have lim : s.heap.NoLimit := e0.mod.nolimit.keeps fun b o e => (e0.bs b o e).1
  have hkind : ∀ y ∈ ps.zip us, scope.names.lookup y.1 = some .local ∨ (scope.names.lookup y.1 = some .cell ∧ ((cellsFrom (s.heap.objs.size + 1) scope.names []).lookup y.1).isSome = true) := fun ⟨n, v⟩ hy => by
    rcases S.par n (List.of_mem_zip hy).1 with q | q
    · exact .inl q
    · exact .inr ⟨q, PySem.W.cellsFrom_some _ _ _ (.inl q)⟩
  refine codeAny_call_function hr.depth (KX _ _ lk) rfl S.co S.gen rfl (PySem.W.codeRec_of KX hcd) (hb _ _ _ _ ?_)
  refine wpAny_newFunctionEnv_cells S.kind hkind fun env he s1 x => ?_
  subst he
  refine ⟨lim.keeps x.toInCall.keep, codeAny_func ?_⟩
  obtain ⟨t, ht, hq⟩ := hbody A outer s H vs Q E (hr.deeper _) hsp
  have I : Inv (cxOf CX P w K mg base N qual scope f cdv A outer s H E) [] (start N vs) H s1 := inv_start S hr.hd e0 hl r x
  refine wpAny_mono (ht [] s1 (start N vs) H _ I hq) (fun fl s' hs => ?_) fun e s' hs => hs
  have fin : ∀ {σ' : St} {H' : Hp} {v : V} {u : Value}, Inv (cxOf CX P w K mg base N qual scope f cdv A outer s H E) [] σ' H' s' → RelV v u → Q v H' → CE outer P w H s Q u s' :=
    fun {σ' H' v u} J rv q => ⟨v, H', J.os, J.bare, J.base, J.hok, rv, q⟩
  cases fl with
  | ret u =>
    obtain ⟨v, σ', H', J, rv, q⟩ := hs
    exact fin J rv q
  | next =>
    obtain ⟨σ', H', J, q⟩ := hs
    exact fin (v := V.non) (u := Value.none) J rfl q
  | brk =>
    obtain ⟨_, _, _, q⟩ := hs
    exact False.elim q
  | cont =>
    obtain ⟨_, _, _, q⟩ := hs
    exact False.elim q
end L2

namespace L2
open PySem PySem.Spec PyProof.Rows
section
variable {X : Cx} {x : Str} {p pos : Pos} {e : Expr} {es : List Expr} {t : TA} {id T : String} {r : List V → Hp → VK → Prop}

def tCB (r : List V → Hp → VK → Prop) (t : TA) : TE := fun σ H Q => t σ H fun vs H1 => r vs H1 Q
/-- f(e, ..), f a built-in function -/
theorem pe_callB (hc : CallR X (.builtin id) r) (hg : Gl X x) (hm : X.mg x = none) (hv : bootBuiltins x = some (.builtin id)) (ha : PA X (e :: es) t) (hn : x ≠ "__name__" := by decide) (hdb : (x == ("__debug__" : Str)) = false := by decide)
    (he : starEach (e :: es) X.env = (false, eval e X.env) :: starEach es X.env := by rfl) (hpl : (backTo pos (starEach es X.env)).any (·.1) = false := by rfl) : PE X (.Call (.Name x p) (e :: es) [] pos) (tCB r t) := by
  intro pins s σ H Q I h
  refine wpAny_Call_Name_kw (ld_blt I hg hm hv ?_ hn hdb)
  exact PyProof.Rows.callWith_builtin1 (thn (ha pos pins s σ H _ I h) fun us s1 ⟨vs, H1, I1, r1, q1⟩ => hc pins s1 σ H1 vs us Q I1 r1 q1) he hpl
/-- T(e, ..), T a built-in type -/
theorem pe_callTy (hc : CallR X (.type T) r) (hg : Gl X x) (hm : X.mg x = none) (hv : bootBuiltins x = some (.type T)) (ha : PA X (e :: es) t) (hn : x ≠ "__name__" := by decide) (hdb : (x == ("__debug__" : Str)) = false := by decide)
    (he : starEach (e :: es) X.env = (false, eval e X.env) :: starEach es X.env := by rfl) (hpl : (backTo pos (starEach es X.env)).any (·.1) = false := by rfl) : PE X (.Call (.Name x p) (e :: es) [] pos) (tCB r t) := by
  intro pins s σ H Q I h
  refine wpAny_Call_Name_kw (ld_blt I hg hm hv ?_ hn hdb)
  exact PyProof.Rows.callWith_type1 (thn (ha pos pins s σ H _ I h) fun us s1 ⟨vs, H1, I1, r1, q1⟩ => hc pins s1 σ H1 vs us Q I1 r1 q1) he hpl
end
end L2

namespace HT
open PySem PyProof.Rows



section
open PySem.SeqAt
open PySem.AutoSeq1 (wpAny_loadPart')
open PySem.MeetsSeq PySem.MeetsSeq2 PySem.MeetsSeq3

end

section
variable {prog : Program} {w : World} {A : Around} {E : Value → Shared → Prop} {s : Shared}


/-- t + u, t not empty -/
theorem cat_tup {t b : Addr} {vs ws : List Value} {Q : Value → Shared → Prop} (ht : IsTup s.heap t vs.toArray) (hb : IsTup s.heap b ws.toArray) (hv : vs ≠ [])
    (h1 : ws = [] → Q (.ref t) s) (h2 : ws ≠ [] → Q (.ref s.heap.objs.size) { s with heap := s.heap.push { cls := .type "tuple", data := .seq (vs ++ ws).toArray } })
    (hsz : vs.length + ws.length ≤ sizeLine) : wpAny (model prog w) A (binaryOp .Add (.ref t) (.ref b)) Q E s := by
  obtain ⟨⟨cls, dd, data, sl⟩, ho, hc, n, hd⟩ := id ht
  obtain ⟨⟨cls2, dd2, data2, sl2⟩, ho2, hc2, n2, hd2⟩ := id hb
  simp only at hc hd hc2 hd2
  subst hc hd hc2 hd2
  have e : vs.toArray ++ ws.toArray = (vs ++ ws).toArray := by simp
  by_cases hw : ws = []
  · exact concat_meets ⟨_, ho, rfl⟩ ⟨_, ho2, rfl⟩ noFill_tuple_add seq_tuple_add PySem.F.slot_tuple_add PySem.F.entry_tuple_add (PySem.F.args_tuple_add_2 _ _)
      (tuple_addW1 t b vs.toArray ws.toArray n n2 dd dd2 sl sl2 (by simpa using hv) (by simp [hw])) ⟨ho, ho2, h1 hw⟩
  · refine concat_meets ⟨_, ho, rfl⟩ ⟨_, ho2, rfl⟩ noFill_tuple_add seq_tuple_add PySem.F.slot_tuple_add PySem.F.entry_tuple_add (PySem.F.args_tuple_add_2 _ _)
      (tuple_addW2 t b vs.toArray ws.toArray n n2 dd dd2 sl sl2 (by simpa using hv) (by simpa using hw) (by rw [List.size_toArray, List.size_toArray]; exact hsz)) ⟨ho, ho2, ?_⟩
    rw [e]
    exact h2 hw

/-! ### t[a:b], not the whole -/

end
end HT

namespace L2
open PySem PySem.Spec PyProof.Rows

/-! ### the parts of a slice -/


section
variable {X : Cx} {e : Expr} {te : TE} {lo hi : Option Expr} {tl th : TO} {pos p2 : Pos}




/-! ### t < u, t + u -/
/-- t + u, t not empty: u empty gives t itself -/
def rCatT (K : PySem.W.Frag) : R2 := fun x y H Q => ∃ a b xs ys, x = .ref a ∧ y = .ref b ∧ SqT K H a xs ∧ SqT K H b ys ∧ xs ≠ [] ∧ xs.length + ys.length ≤ sizeLine ∧
  (ys = [] → Q (.ref a) H) ∧ (ys ≠ [] → ∀ p, H p = none → Q (.ref p) (upd H p (.tup (xs ++ ys))))
theorem Vals.nil_iff {xs : List V} {us : List Value} (r : Vals xs us) : us = [] ↔ xs = [] := by
  cases r with
  | nil => simp
  | cons _ _ => simp
theorem op_catT : OpR X (binaryOp .Add) (rCatT X.K) := by
  intro pins s σ H x y v u Q I rx ry h
  obtain ⟨a, b, xs, ys, rfl, rfl, ha, hb, hx, hz, q1, q2⟩ := h
  cases rx
  cases ry
  obtain ⟨its, r1, p1, _⟩ := I.tuple ha
  obtain ⟨its2, r2, p2, _⟩ := I.tuple hb
  refine HT.cat_tup p1 p2 (fun z => hx (r1.nil_iff.mp z)) (fun z => ⟨.ref a, H, I, rfl, q1 (r2.nil_iff.mp z)⟩) (fun z => ?_) (by rw [← r1.length, ← r2.length]; exact hz)
  refine ⟨.ref s.heap.objs.size, _, I.laid (t' := s.toks) (o := .tup (xs ++ ys)) (fun b ob q => Heap.get?_push_of_some _ q) (Nat.le_refl _) ?_, rfl, q2 (fun w => z (r2.nil_iff.mpr w)) _ (I.hok.fresh (Nat.le_refl _))⟩
  exact ⟨by rw [List.length_append]; exact hz, _, r1.append r2, IsTup.new _ _⟩
end
end L2

namespace L2
open PySem PySem.Spec PyProof.Rows

/-! ### places -/
/-- the place that an index of any sign means -/
def ixN (n : Nat) (i : Int) : Option Nat := if 0 ≤ i then (if i < n then some i.toNat else none) else if -(n : Int) ≤ i then some (i + n).toNat else none
def atI {α : Type} (xs : List α) (i : Int) : Option α := (ixN xs.length i).bind fun j => xs[j]?
theorem ixN_seq {n : Nat} {i : Int} {j : Nat} (h : ixN n i = some j) : seqIndex? i n = some j ∧ j < n ∧ -(n : Int) ≤ i ∧ i < n := by
  unfold ixN at h
  by_cases h0 : 0 ≤ i
  · rw [if_pos h0] at h
    by_cases h1 : i < n
    · rw [if_pos h1] at h
      have e : i.toNat = j := Option.some.inj h
      exact ⟨by rw [seqIndex_of h0 h1, e], by omega, by omega, h1⟩
    · rw [if_neg h1] at h; cases h
  · rw [if_neg h0] at h
    by_cases h1 : -(n : Int) ≤ i
    · rw [if_pos h1] at h
      have e : (i + n).toNat = j := Option.some.inj h
      exact ⟨by rw [seqIndex_neg (by omega) h1, e], by omega, h1, by omega⟩
    · rw [if_neg h1] at h; cases h
theorem atI_get {α : Type} {xs : List α} {i : Int} {v : α} (h : atI xs i = some v) : ∃ j, seqIndex? i xs.length = some j ∧ xs[j]? = some v ∧ j < xs.length ∧ -(xs.length : Int) ≤ i ∧ i < xs.length := by
  unfold atI at h
  cases e : ixN xs.length i with
  | none => rw [e] at h; cases h
  | some j =>
    rw [e] at h
    obtain ⟨h1, h2, h3, h4⟩ := ixN_seq e
    exact ⟨j, h1, h, h2, h3, h4⟩
theorem atI_nat {α : Type} {xs : List α} {j : Nat} {v : α} (h : xs[j]? = some v) : atI xs (j : Int) = some v := by
  have hj : j < xs.length := (List.getElem?_eq_some_iff.mp h).1
  have e : ixN xs.length (j : Int) = some j := by
    unfold ixN
    rw [if_pos (by omega), if_pos (by omega)]; simp
  unfold atI; rw [e]; exact h

/-! ### what may be subscripted -/
/-- what stands as an index of a plain subscript -/
def PlainIx (b : Expr) : Prop := ∀ o i, subscripted b false o i = operate [o, i] (getItem o i)
/-- a subscript by values -/
def IxR (X : Cx) (r : R2) : Prop :=
  ∀ (value slice : Expr) (pins : List (Addr × Obj)) (s : Shared) (σ : St) (H : Hp) (x y : V) (v u : Value) (Q : VK), Inv X pins σ H s → RelV x v → RelV y u → r x y H Q →
    subscripted slice false v u = operate [v, u] (getItem v u) → wpAny (model X.prog X.w) X.A (subscriptTail value slice v u) (EP X pins σ Q) X.xe s
/-- a call of a builtin's method by values: the receiver, the arguments -/
def MtR (X : Cx) (id : String) (r : V → List V → Hp → VK → Prop) : Prop :=
  ∀ (pins : List (Addr × Obj)) (s : Shared) (σ : St) (H : Hp) (x : V) (xs : List V) (v : Value) (us : List Value) (Q : VK), Inv X pins σ H s → RelV x v → Vals xs us → r x xs H Q →
    wpAny (model X.prog X.w) X.A (call (.builtin id) (v :: us)) (EP X pins σ Q) X.xe s
section
variable {X : Cx} {a b : Expr} {ta tb : TE} {pos : Pos}
/-- a[b] -/
theorem pe_ix {r : R2} (hr : IxR X r) (ha : PE X a ta) (hb : PE X b tb) (hs : PlainIx b) : PE X (.Subscript a b pos) (tOp r ta tb) := by
  intro pins s σ H Q I h
  exact Subscript_ (binT ha hb I h fun v u s2 x y H2 I2 rx ry q => hr a b pins s2 σ H2 x y v u Q I2 rx ry q (hs _ _))

def rIxL (K : PySem.W.Frag) : R2 := fun x y H Q => ∃ p xs i v, x = .ref p ∧ y = .int i ∧ SqL K H p xs ∧ atI xs i = some v ∧ Q v H
def rIxT (K : PySem.W.Frag) : R2 := fun x y H Q => ∃ p xs i v, x = .ref p ∧ y = .int i ∧ SqT K H p xs ∧ atI xs i = some v ∧ Q v H
theorem ix_list : IxR X (rIxL X.K) := by
  intro value slice pins s σ H x y v u Q I rx ry h hs
  obtain ⟨p, xs, i, z, rfl, rfl, hq, he, q⟩ := h
  cases rx
  obtain ⟨t, rfl⟩ := ry
  obtain ⟨its, r, pl, hz⟩ := I.list hq
  obtain ⟨j, h1, h2, h3, h4, h5⟩ := atI_get he
  obtain ⟨w, ew, rw'⟩ := r.get h2
  have hl := r.length
  have hn := line63
  have fin : EP X pins σ Q w s := ⟨z, H, I, rw', q⟩
  by_cases h0 : 0 ≤ i
  · have hj : i.toNat = j := by
      rw [seqIndex_of h0 h5] at h1
      exact Option.some.inj h1
    exact item_listR pl.isList h0 (by omega) (by rw [hj]; simpa using ew) fin hs
  · have hj : (i + (its.toArray.size : Int)).toNat = j := by
      rw [seqIndex_neg (by omega) h4] at h1
      rw [List.size_toArray, ← hl]
      exact Option.some.inj h1
    exact subscriptTail_builtinR (x := w) pl.isList.typeIs slot_list_getitem.lookup
      (wpAny_getItem_list_neg (Q := fun r s' => r = w ∧ EP X pins σ Q r s') pl.isList (by omega) (by rw [List.size_toArray] <;> omega) (by omega) (by rw [hj]; simpa using ew) ⟨rfl, fin⟩) hs
theorem ix_tup : IxR X (rIxT X.K) := by
  intro value slice pins s σ H x y v u Q I rx ry h hs
  obtain ⟨p, xs, i, z, rfl, rfl, hq, he, q⟩ := h
  cases rx
  obtain ⟨t, rfl⟩ := ry
  obtain ⟨its, r, pl, hz⟩ := I.tuple hq
  obtain ⟨j, h1, h2, h3, h4, h5⟩ := atI_get he
  obtain ⟨w, ew, rw'⟩ := r.get h2
  have hl := r.length
  have hn := line63
  have fin : EP X pins σ Q w s := ⟨z, H, I, rw', q⟩
  exact subscriptTail_builtinR (x := w) pl.typeIs slot_tuple_getitem.lookup
    (getItem_tuple (j := j) (Q := fun r s' => r = w ∧ EP X pins σ Q r s') pl (by omega) (by omega) (by rw [List.size_toArray, ← hl]; exact h1) (by simpa using ew) ⟨rfl, fin⟩) hs

/-! ### xs[i] = v, any sign -/
/-- the list's object behind a store -/
theorem mapSeq_set (its : List Value) (n j : Nat) (u : Value) : Obj.mapSeq (·.setIfInBounds j u) { cls := .type "list", data := .seq its.toArray n } = { cls := .type "list", data := .seq (its.set j u).toArray n } := by
  simp [Obj.mapSeq]
theorem Inv.lst {pins : List (Addr × Obj)} {σ : St} {H : Hp} {s : Shared} {p : Addr} {xs : List V} (I : Inv X pins σ H s) (h : H p = some (.lst xs)) :
    ∃ (its : List Value) (n : Nat), Vals xs its ∧ s.heap.get? p = some { cls := .type "list", data := .seq its.toArray n } ∧ xs.length ≤ sizeLine := by
  obtain ⟨z, its, n, r, e⟩ := I.hok p _ h
  exact ⟨its, n, r, e, z⟩
/-- the list at p is written by an update of its object -/
theorem Inv.lstUpd {pins : List (Addr × Obj)} {σ : St} {H : Hp} {s : Shared} {p : Addr} {xs ys : List V} {its its' : List Value} {n n' : Nat} {f : Obj → Obj} (I : Inv X pins σ H s) (h : H p = some (.lst xs))
    (ho : s.heap.get? p = some { cls := .type "list", data := .seq its.toArray n }) (hf : f { cls := .type "list", data := .seq its.toArray n } = { cls := .type "list", data := .seq its'.toArray n' }) (r : Vals ys its') (hz : ys.length ≤ sizeLine) (t : Nat) :
    Inv X pins σ (upd H p (.lst ys)) { s with heap := s.heap.update p f, toks := t } := by
  have e : (s.heap.update p f).get? p = some { cls := .type "list", data := .seq its'.toArray n' } := by
    rw [Heap.get?_update_self f ho (by rw [hf] <;> rfl), hf]
  refine I.write (x := p) (e := p) (by rw [h]; trivial) (.inl rfl) (fun b u hb q => (Heap.get?_update_other _ _ (Ne.symm hb)).trans q) ⟨_, e⟩ ?_
  exact ⟨hz, its', n', r, e⟩
def rSetL : V → V → V → Hp → (Hp → Prop) → Prop := fun o i v H Q => ∃ p xs k j, o = .ref p ∧ i = .int k ∧ H p = some (.lst xs) ∧ ixN xs.length k = some j ∧ Q (upd H p (.lst (xs.set j v)))
theorem set_list : PSet X rSetL := by
  intro pins s σ H o i v ov iv u Q I ro ri rv h
  obtain ⟨p, xs, k, j, rfl, rfl, hp, hj, q⟩ := h
  cases ro
  obtain ⟨t, rfl⟩ := ri
  obtain ⟨its, n, r, ho, hz⟩ := I.lst hp
  obtain ⟨h1, h2, h3, h4⟩ := ixN_seq hj
  have hl := r.length
  have hn := line63
  have I' : Inv X pins σ (upd H p (.lst (xs.set j v))) { s with heap := s.heap.update p (Obj.mapSeq (·.setIfInBounds j u)) } :=
    I.lstUpd hp ho (mapSeq_set its n j u) (r.set rv j) (by rw [List.length_set]; exact hz) s.toks
  by_cases h0 : 0 ≤ k
  · have hk : k.toNat = j := by
      rw [seqIndex_of h0 h4] at h1
      exact Option.some.inj h1
    exact PySem.W.ki_setAt ho h0 (by omega) (by rw [List.size_toArray, ← hl]; exact h4) (by rw [hk]; exact ⟨_, I', q⟩)
  · have hk : (k + (its.toArray.size : Int)).toNat = j := by
      rw [seqIndex_neg (by omega) h3] at h1
      rw [List.size_toArray, ← hl]
      exact Option.some.inj h1
    exact PySem.W.ki_setBack ho (by omega) (by rw [List.size_toArray, ← hl]; exact h3) (by omega) (by rw [hk]; exact ⟨_, I', q⟩)

/-! ### slices -/

/-! ### in, not in: flat items -/

/-! ### len, list(x), tuple(x) of any list or tuple that is read -/
theorem call_len_seq : CallR X (.builtin "len") (fun xs H Q => ∃ p ys, xs = [.ref p] ∧ (SqL X.K H p ys ∨ SqT X.K H p ys) ∧ Q (.int ys.length) H) := by
  intro pins s σ H xs us Q I r h
  obtain ⟨p, ys, rfl, hq, q⟩ := h
  obtain ⟨u, rfl, rx⟩ := vals1 r
  cases rx
  have hn := line63
  rcases hq with hq | hq
  · obtain ⟨its, r', pl, hz⟩ := I.list hq
    have hlen := r'.length
    exact Calls.call_len_list pl.isList (by simp only [List.size_toArray] <;> omega) ⟨.int ys.length, H, I.tok _, ⟨s.toks + 1, by rw [List.size_toArray, hlen]⟩, q⟩
  · obtain ⟨its, r', pl, hz⟩ := I.tuple hq
    have hlen := r'.length
    exact len_tuple pl (by simp only [List.size_toArray] <;> omega) ⟨.int ys.length, H, I.tok _, ⟨s.toks + 1, by rw [List.size_toArray, hlen]⟩, q⟩
theorem call_list_of : CallR X (.type "list") (fun xs H Q => ∃ p ys, xs = [.ref p] ∧ (SqL X.K H p ys ∨ SqT X.K H p ys) ∧ ∀ l, H l = none → Q (.ref l) (upd H l (.lst ys))) := by
  intro pins s σ H xs us Q I r h
  obtain ⟨p, ys, rfl, hq, q⟩ := h
  obtain ⟨u, rfl, rx⟩ := vals1 r
  cases rx
  have fin : ∀ (its : List Value), Vals ys its → ys.length ≤ sizeLine → ∀ (h' : Heap) (c' : Nat), (∀ b o', s.heap.get? b = some o' → h'.get? b = some o') →
      h'.get? s.heap.objs.size = some { cls := .type "list", dict := none, data := .seq its.toArray c', slots := #[] } → EP X pins σ Q (.ref s.heap.objs.size) { s with heap := h' } := fun its r' hz h' c' kp e =>
    ⟨.ref s.heap.objs.size, _, I.laid (t' := s.toks) kp (Nat.le_refl _) (show ObjOk X.prog X.w _ h' _ (.lst ys) from ⟨hz, its, c', r', e⟩), rfl, q _ (I.hok.fresh (Nat.le_refl _))⟩
  rcases hq with hq | hq
  · obtain ⟨its, r', pl, hz⟩ := I.list hq
    have hlen := r'.length
    obtain ⟨o, ho, hc, n, hd⟩ := pl.isList
    exact call_list_seq p (.inl rfl) ho hc hd (fun h' c' kp e => fin its r' hz h' c' kp e) (by simp only [List.size_toArray] <;> omega)
  · obtain ⟨its, r', pl, hz⟩ := I.tuple hq
    have hlen := r'.length
    obtain ⟨o, ho, hc, n, hd⟩ := pl
    exact call_list_seq p (.inr rfl) ho hc hd (fun h' c' kp e => fin its r' hz h' c' kp e) (by simp only [List.size_toArray] <;> omega)
theorem call_tuple_of : CallR X (.type "tuple") (fun xs H Q => ∃ p ys, xs = [.ref p] ∧ ((SqL X.K H p ys ∧ ∀ l, H l = none → Q (.ref l) (upd H l (.tup ys))) ∨ (SqT X.K H p ys ∧ Q (.ref p) H))) := by
  intro pins s σ H xs us Q I r h
  obtain ⟨p, ys, rfl, h⟩ := h
  obtain ⟨u, rfl, rx⟩ := vals1 r
  cases rx
  rcases h with ⟨hq, q⟩ | ⟨hq, q⟩
  · obtain ⟨its, r', pl, hz⟩ := I.list hq
    have hlen := r'.length
    refine call_tuple_list pl.isList (fun h' kp => ?_) (by simp only [List.size_toArray] <;> omega)
    have I1 : Inv X pins σ H { s with heap := h' } := I.kept (t' := s.toks) kp
    have I2 : Inv X pins σ (upd H h'.objs.size (.tup ys)) { s with heap := h'.push { cls := .type "tuple", data := .seq its.toArray } } :=
      I1.laid (t' := s.toks) (fun b o e => Heap.get?_push_of_some _ e) (Nat.le_refl _) (show ObjOk X.prog X.w _ _ _ (.tup ys) from ⟨hz, its, r', IsTup.new _ _⟩)
    exact ⟨.ref h'.objs.size, _, I2, rfl, q _ (I1.hok.fresh (Nat.le_refl _))⟩
  · obtain ⟨its, r', pl, hz⟩ := I.tuple hq
    exact call_tuple_same pl ⟨.ref p, H, I, rfl, q⟩

/-! ### the call of a builtin's method: o.m(..) -/
/-- the value is of that builtin type -/
def tyV (K : PySem.W.Frag) (T : String) (x : V) (H : Hp) : Prop := match x with
  | .str _ => T = "str"
  | .int _ => T = "int"
  | .ref p => (T = "list" ∧ ∃ xs, SqL K H p xs) ∨ (T = "tuple" ∧ ∃ o, K.lookup p = some o ∧ o.cls = .type "tuple" ∧ o.dict = none) ∨
      (T = "dict" ∧ ((∃ kvs, H p = some (.dK kvs)) ∨ ∃ kvs, H p = some (.dT kvs))) ∨ (T = "set" ∧ ∃ S n, H p = some (.set S n))
  | _ => False
theorem tyV_is {pins : List (Addr × Obj)} {σ : St} {H : Hp} {s : Shared} {T : String} {x : V} {v : Value} (I : Inv X pins σ H s) (r : RelV x v) (ty : tyV X.K T x H) :
    s.TypeIs v T ∧ ∀ a, v = .ref a → ∃ ob, s.heap.get? a = some ob ∧ ob.dict = none := by
  cases x with
  | str z =>
    obtain ⟨t, rfl⟩ := r
    cases (show T = "str" from ty)
    exact ⟨typeIs_str s z t, fun _ e => nomatch e⟩
  | int i =>
    obtain ⟨t, rfl⟩ := r
    cases (show T = "int" from ty)
    exact ⟨typeIs_int s i t, fun _ e => nomatch e⟩
  | ref p =>
    cases r
    rcases ty with ⟨rfl, xs, hq⟩ | ⟨rfl, o, hk, hc, hd⟩ | ⟨rfl, hk⟩ | ⟨rfl, S, n, hk⟩
    · obtain ⟨its, _, pl, _⟩ := I.list hq
      refine ⟨pl.isList.typeIs, fun a e => ?_⟩
      cases e
      obtain ⟨o, n, e, c, hd, _⟩ := pl
      exact ⟨o, e, hd⟩
    · refine ⟨⟨o, I.kIn p o hk, hc⟩, fun a e => ?_⟩
      cases e
      exact ⟨o, I.kIn _ o hk, hd⟩
    · have z : ∃ o, s.heap.get? p = some o ∧ o.ExactDict := by
        rcases hk with ⟨kvs, hk⟩ | ⟨kvs, hk⟩
        · obtain ⟨_, _, _, _, o, _, _, e, ex, _⟩ := I.hok p _ hk
          exact ⟨o, e, ex⟩
        · obtain ⟨_, _, _, _, o, _, _, e, ex, _⟩ := I.hok p _ hk
          exact ⟨o, e, ex⟩
      obtain ⟨o, e, ex⟩ := z
      refine ⟨⟨o, e, ex.1⟩, fun a e2 => ?_⟩
      cases e2
      exact ⟨o, e, ex.2.1⟩
    · obtain ⟨o, _, _, _, e, ex, _⟩ := I.hok p _ hk
      refine ⟨⟨o, e, ex.1⟩, fun a e2 => ?_⟩
      cases e2
      exact ⟨o, e, ex.2.1⟩
  | _ => exact False.elim ty
def tBM0 (K : PySem.W.Frag) (T : String) (r : V → List V → Hp → VK → Prop) (to : TE) : TE := fun σ H Q => to σ H fun x H1 => tyV K T x H1 ∧ r x [] H1 Q
def tBM (K : PySem.W.Frag) (T : String) (r : V → List V → Hp → VK → Prop) (to : TE) (t : TA) : TE := fun σ H Q => to σ H fun x H1 => tyV K T x H1 ∧ t σ H1 fun xs H2 => r x xs H2 Q
variable {o e : Expr} {es : List Expr} {to : TE} {t : TA} {name : Str} {apos cpos : Pos} {T id : String} {r : V → List V → Hp → VK → Prop}
theorem pe_bm0 (pa : PlainAttrs T) (slot : Slot T name id) (hty : typeOf (.builtin id) = pure (.type "method_descriptor")) (hm : MtR X id r) (ho : PE X o to)
    (hbase : attributeBase o name X.env (eval o X.env) = eval o X.env := by rfl) (hline : (apos.endLine == cpos.line) = true := by rfl) : PE X (.Call (.Attribute o name apos) [] [] cpos) (tBM0 X.K T r to) := by
  intro pins s σ H Q I h
  refine wpAny_Call_method0_late hbase hline (thn (ho pins s σ H _ I h) fun v s1 ⟨x, H1, I1, r1, ty, q1⟩ => ?_)
  obtain ⟨h1, h2⟩ := tyV_is I1 r1 ty
  exact ⟨T, id, pa, slot, hty, h1, h2, Calls.callWith_builtin rfl (PySem.evalArgs_none (hm pins s1 σ H1 x [] v [] Q I1 r1 .nil q1))⟩
theorem pe_bm (pa : PlainAttrs T) (slot : Slot T name id) (hty : typeOf (.builtin id) = pure (.type "method_descriptor")) (hm : MtR X id r) (ho : PE X o to) (ha : PA X (e :: es) t)
    (hbase : attributeBase o name X.env (eval o X.env) = eval o X.env := by rfl)
    (hfew : ((backTo cpos (starEach (e :: es) X.env)).all (fun x => !x.1) && (backToKw cpos (keywordEach [] X.env)).all (fun x => x.1.isSome)
      && decide ((e :: es).length + ([] : List Keyword).length + (if ([] : List Keyword).isEmpty then 0 else 1) < 30)) = true := by rfl)
    (hline : (apos.endLine == cpos.line) = true := by rfl) (hs : starEach (e :: es) X.env = (false, eval e X.env) :: starEach es X.env := by rfl) (hplain : (backTo cpos (starEach es X.env)).any (·.1) = false := by rfl) :
    PE X (.Call (.Attribute o name apos) (e :: es) [] cpos) (tBM X.K T r to t) := by
  intro pins s σ H Q I h
  refine wpAny_Call_method_late hbase hfew hline rfl (thn (ho pins s σ H _ I h) fun v s1 ⟨x, H1, I1, r1, ty, q1⟩ => ?_)
  obtain ⟨h1, h2⟩ := tyV_is I1 r1 ty
  refine ⟨T, id, pa, slot, hty, h1, h2, ?_⟩
  have hA := ha cpos pins s1 σ H1 _ I1 q1
  rw [hs] at hA ⊢
  refine Calls.callWith_builtin (by show (false || (backTo cpos (starEach es X.env)).any (·.1)) = false; rw [hplain] <;> rfl) (Calls.evalArgs_plain ?_)
  exact thn hA fun us s2 ⟨vs, H2, I2, r2, q2⟩ => hm pins s2 σ H2 x vs v us Q I2 r1 r2 q2
/- xs.append(e), list.index on a module's tuple .. are MtR facts of 06m -/
end
end L2

namespace L2
open PySem PySem.Spec PyProof.Rows

def MtM (X : Cx) (id : String) (r : V → List V → Hp → VK → Prop) : Prop :=
  ∀ (pins : List (Addr × Obj)) (s : Shared) (σ : St) (H : Hp) (x : V) (xs : List V) (v : Value) (us : List Value) (Q : VK), Inv X pins σ H s → RelV x v → Vals xs us → r x xs H Q →
    wpAny (model X.prog X.w) X.A (call (.builtin id) (v :: us)) (EP X pins σ Q) X.xe s

/-! ### lists of values -/
theorem Vals.one : ∀ {x : V} {us : List Value}, Vals [x] us → ∃ u, us = [u] ∧ RelV x u
  | _, _, .cons r .nil => ⟨_, rfl, r⟩
theorem Vals.zero : ∀ {us : List Value}, Vals [] us → us = []
  | _, .nil => rfl

section
variable {X : Cx} {pins : List (Addr × Obj)} {σ : St} {H : Hp} {s : Shared} {l b : Addr} {xs ys zs : List V}

/-! ### the two steps: a tracked list is rewritten, a new list is laid -/
theorem Inv.lset {its its' : List Value} {n : Nat} {f : Array Value → Array Value} {t' : Nat} (I : Inv X pins σ H s) (hH : H l = some (.lst xs))
    (e : s.heap.get? l = some { cls := .type "list", data := .seq its.toArray n }) (hf : f its.toArray = its'.toArray) (hv : Vals ys its') (hz : ys.length ≤ sizeLine) :
    Inv X pins σ (upd H l (.lst ys)) { s with heap := s.heap.update l (Obj.mapSeq f), toks := t' } := by
  have q := PySem.IsL.update e f
  rw [hf] at q
  refine I.write (x := l) (e := l) (by rw [hH]; exact trivial) (.inl rfl) (fun b' u hb hu => (Heap.get?_update_other s.heap (Obj.mapSeq f) (Ne.symm hb)).trans hu) ⟨_, q⟩ ?_
  exact ⟨hz, its', _, hv, q⟩
theorem Inv.lnew {its : List Value} {t' : Nat} (I : Inv X pins σ H s) (hv : Vals ys its) (hz : ys.length ≤ sizeLine) :
    Inv X pins σ (upd H s.heap.objs.size (.lst ys)) { s with heap := s.heap.push { cls := .type "list", data := .seq its.toArray }, toks := t' } :=
  I.laid (fun _ _ q => Heap.get?_push_of_some _ q) (Nat.le_refl _) ⟨hz, its, 0, hv, Heap.get?_push_size _ rfl⟩
theorem Inv.fresh (I : Inv X pins σ H s) : H s.heap.objs.size = none := I.hok.fresh (Nat.le_refl _)
theorem Inv.lstM (I : Inv X pins σ H s) (hH : H l = some (.lst xs)) : xs.length ≤ sizeLine ∧ ∃ (its : List Value) (n : Nat), Vals xs its ∧ xs.length = its.length ∧ s.heap.get? l = some { cls := .type "list", data := .seq its.toArray n } := by
  obtain ⟨z, its, n, r, e⟩ := I.hok l _ hH
  exact ⟨z, its, n, r, r.length, e⟩

theorem notLongL {n : Nat} (h : n ≤ sizeLine) : Builtin.List.listTooLong n = false := by
  unfold Builtin.List.listTooLong
  exact decide_eq_false (by omega)
end

section
variable {X : Cx}

/-! ### methods -/
def rAppend : V → List V → Hp → VK → Prop := fun x vs H Q => ∃ l xs y, x = .ref l ∧ vs = [y] ∧ H l = some (.lst xs) ∧ xs.length < sizeLine ∧ Q .non (upd H l (.lst (xs ++ [y])))
theorem mt_append : MtM X "list.append" rAppend := by
  intro pins s σ H x vs v us Q I rx rv h
  obtain ⟨l, xs, y, rfl, rfl, hH, hz, q⟩ := h
  cases rx
  obtain ⟨u, rfl, ru⟩ := rv.one
  obtain ⟨z, its, n, r, hl, e⟩ := I.lstM hH
  refine call_meets F.slot_list_append ⟨_, e, rfl⟩ F.entry_list_append (F.args_list_append_2 _ _) (PySem.list_append l its.toArray n u (by rw [List.size_toArray]; omega)) ⟨e, ?_⟩
  refine ⟨.non, _, I.lset (its' := its ++ [u]) hH e (by simp) (r.append (.cons ru .nil)) ?_, rfl, q⟩
  rw [List.length_append, List.length_singleton]
  omega

def rExtend : V → List V → Hp → VK → Prop := fun x vs H Q => ∃ l b xs zs, x = .ref l ∧ vs = [.ref b] ∧ H l = some (.lst xs) ∧ H b = some (.lst zs) ∧ xs.length + zs.length ≤ sizeLine ∧ Q .non (upd H l (.lst (xs ++ zs)))
theorem mt_extend : MtM X "list.extend" rExtend := by
  intro pins s σ H x vs v us Q I rx rv h
  obtain ⟨l, b, xs, zs, rfl, rfl, hH, hB, hz, q⟩ := h
  cases rx
  obtain ⟨u, rfl, ru⟩ := rv.one
  cases ru
  obtain ⟨z, its, n, r, hl, e⟩ := I.lstM hH
  obtain ⟨z2, its2, n2, r2, hl2, e2⟩ := I.lstM hB
  have hsz : its.toArray.size + its2.toArray.size ≤ sizeLine := by rw [List.size_toArray, List.size_toArray]; omega
  have hlong : ¬ (!its.toArray.isEmpty && Builtin.List.listTooLong (its.toArray.size + its2.toArray.size)) = true := by
    rw [notLongL hsz, Bool.and_false]
    exact Bool.false_ne_true
  refine call_meets F.slot_list_extend ⟨_, e, rfl⟩ F.entry_list_extend (F.args_list_extend_2 _ _)
    (AutoSeq1.list_extend_list_list_0 l its.toArray n b its2.toArray n2 hlong (by rw [List.size_toArray]; omega) (by omega)) ⟨e, e2, ?_⟩
  refine ⟨.non, _, I.lset (its' := its ++ its2) hH e (by simp) (r.append r2) ?_, rfl, q⟩
  rw [List.length_append]
  omega




def rClear : V → List V → Hp → VK → Prop := fun x vs H Q => ∃ l xs, x = .ref l ∧ vs = [] ∧ H l = some (.lst xs) ∧ Q .non (upd H l (.lst []))
theorem mt_clear : MtM X "list.clear" rClear := by
  intro pins s σ H x vs v us Q I rx rv h
  obtain ⟨l, xs, rfl, rfl, hH, q⟩ := h
  cases rx
  have hus := rv.zero
  subst hus
  obtain ⟨z, its, n, r, hl, e⟩ := I.lstM hH
  refine call_meets F.slot_list_clear ⟨_, e, rfl⟩ F.entry_list_clear (F.args_list_clear_1 _) (AutoSeq1.list_clear_list_0 l its.toArray n (by rw [List.size_toArray]; omega)) ⟨e, ?_⟩
  exact ⟨.non, _, I.lset (its' := []) (ys := []) hH e rfl .nil (Nat.zero_le _), rfl, q⟩

/-! ### list + list, list += list, list * int -/
def rCat : R2 := fun x y H Q => ∃ l b xs zs, x = .ref l ∧ y = .ref b ∧ H l = some (.lst xs) ∧ H b = some (.lst zs) ∧ xs.length + zs.length ≤ sizeLine ∧ ∀ p, H p = none → Q (.ref p) (upd H p (.lst (xs ++ zs)))
theorem op_cat : OpR X (binaryOp .Add) rCat := by
  intro pins s σ H x y v u Q I rx ry h
  obtain ⟨l, b, xs, zs, rfl, rfl, hH, hB, hz, q⟩ := h
  cases rx
  cases ry
  obtain ⟨z, its, n, r, hl, e⟩ := I.lstM hH
  obtain ⟨z2, its2, n2, r2, hl2, e2⟩ := I.lstM hB
  refine PySem.P.add_list e e2 ?_ (by rw [List.size_toArray, List.size_toArray]; omega)
  have ea : its.toArray ++ its2.toArray = (its ++ its2).toArray := by simp
  rw [ea]
  exact ⟨.ref _, _, I.lnew (t' := s.toks) (r.append r2) (by rw [List.length_append]; omega), rfl, q _ I.fresh⟩

/-! ### del xs[i] -/
end

/-! ### xs[a:b] = ys -/
section
variable {prog : Program} {w : World} {A : Around} {E : Value → Shared → Prop} {s : Shared}
end

section
variable {X : Cx}
end
end L2

namespace L2
open PySem PySem.Spec PyProof.Rows

/-! ### lists of pairs as tables -/
section
variable {κ : Type} [DecidableEq κ]



end


/-! ### a tracked dict, its keys ints and texts or tuples of these -/


section
variable {P : Program} {w : World} {H : Hp} {h : Heap} {a : Addr}
end



section
variable {X : Cx} {pins : List (Addr × Obj)} {σ : St} {H : Hp} {s : Shared} {a : Addr} {y v : V} {u r : Value} {o : Option V} {A : Around} {E : Value → Shared → Prop}


end

section
variable {X : Cx} {pins : List (Addr × Obj)} {σ : St} {H : Hp} {s : Shared} {a : Addr} {kvs : List (Key × V)} {k : Key} {u : Value} {A : Around} {E : Value → Shared → Prop}
end


/-! ### readings and rules -/



section
variable {X : Cx} {o i e value : Expr} {pos pos' tpos : Pos} {td ty tv : TE}
end


/-! ### displays -/
section
variable {X : Cx} {pos : Pos}
end




/-! ### methods -/
/-- a method call o.m(e) of a built-in, with one argument: what must be seen of the text -/
structure M1 (X : Cx) (o : Expr) (m : Str) (apos : Pos) (e : Expr) (cpos : Pos) : Prop where
  base : attributeBase o m X.env (eval o X.env) = eval o X.env
  few : ((backTo cpos (starEach [e] X.env)).all (fun x => !x.1) && (backToKw cpos (keywordEach [] X.env)).all (fun x => x.1.isSome)
    && decide (([e] : List Expr).length + ([] : List Keyword).length + (if ([] : List Keyword).isEmpty then 0 else 1) < 30)) = true
  line : (apos.endLine == cpos.line) = true
  trees : backTo cpos (starEach [e] X.env) = [(false, eval e X.env)]
structure M2 (X : Cx) (o : Expr) (m : Str) (apos : Pos) (e f : Expr) (cpos : Pos) : Prop where
  base : attributeBase o m X.env (eval o X.env) = eval o X.env
  few : ((backTo cpos (starEach [e, f] X.env)).all (fun x => !x.1) && (backToKw cpos (keywordEach [] X.env)).all (fun x => x.1.isSome)
    && decide (([e, f] : List Expr).length + ([] : List Keyword).length + (if ([] : List Keyword).isEmpty then 0 else 1) < 30)) = true
  line : (apos.endLine == cpos.line) = true
  trees : backTo cpos (starEach [e, f] X.env) = [(false, eval e X.env), (false, eval f X.env)]


section
variable {X : Cx} {pins : List (Addr × Obj)} {σ : St} {H : Hp} {s : Shared} {a : Addr} {y d : V} {u r : Value} {o : Option V} {A : Around} {E : Value → Shared → Prop}
end

section
variable {X : Cx} {o e f : Expr} {apos cpos : Pos} {td ty tx : TE}
end

/-! ### dict(d): a copy -/
section
variable {X : Cx} {pins : List (Addr × Obj)} {σ : St} {H : Hp} {s : Shared} {a : Addr} {kvs : List (Key × V)} {A : Around} {E : Value → Shared → Prop}
end


section
variable {X : Cx} {pins : List (Addr × Obj)} {σ : St} {H : Hp} {s : Shared} {a : Addr} {y : V} {u : Value} {A : Around} {E : Value → Shared → Prop}
end
end L2

namespace Att
open PySem PySem.W PySem.Calls PyProof.Rows

/-! ### the script -/
theorem ints_of_wellAll {P : Params} {h : Heap} : ∀ (ns : List Int) (vs : List Value), WellAll P h vs (ns.map WData.int) → IntsAre vs ns := by
  intro ns
  induction ns with
  | nil =>
    intro vs w
    rw [List.map_nil] at w
    cases w
    exact .nil
  | cons n ns ih =>
    intro vs w
    rw [List.map_cons] at w
    cases w with
    | cons a b =>
      cases a
      exact .cons _ _ (ih _ b)

theorem script_of {l : OpenLaw} {n : Nat} (hn : l.most = some n) {P : Params} {h : Heap} {args : List WData} {vals : List Value}
    (hpre : l.row.toRowW.claim.pre args = true) (hwl : WellAll P h vals args) :
    ∃ a vs ns, vals = [Value.ref a] ∧ args = [WData.list (ns.map WData.int)] ∧ h.get? a = some { cls := .type "list", data := .seq vs.toArray } ∧ IntsAre vs ns ∧ ns.length ≤ n := by
  have hsh : WShape.hasAll [] args [.list .int] = true := (pre_splitW hpre).1
  have hc : l.pre.holds [] { args := args } = true := (pre_splitW hpre).2
  obtain ⟨d, r, rfl, h1, h2⟩ := hasAllW_cons hsh
  obtain rfl := hasAllW_nil h2
  obtain ⟨xs, rfl, h3⟩ := hasW_list h1
  obtain ⟨ns, rfl⟩ := items_int h3
  have hlen : ns.length ≤ n := by
    unfold OpenLaw.pre at hc
    have h4 : (WTm.not (.lt (.lit (.int (n : Int))) (.len (.arg 0)))).holds [] { args := [.list (ns.map .int)] } = true := by
      have h4 := (holds_andW hc).1
      rw [hn] at h4
      exact h4
    have h5 := condW_of h4 (w_not (w_lt w_lit (w_len_list (w_arg rfl))))
    rw [List.length_map] at h5
    refine Nat.le_of_not_lt fun q => ?_
    have q' : (n : Int) < ((ns.length : Nat) : Int) := by omega
    first
      | (rw [decide_eq_true q'] at h5; exact absurd h5 (by decide))
      | (simp at h5; omega)
  cases hwl with
  | cons w1 w2 =>
    cases w2
    cases w1 with
    | list ho hall => exact ⟨_, _, ns, rfl, rfl, ho, ints_of_wellAll ns _ hall, hlen⟩

theorem post_true (l : OpenLaw) (args : List WData) : l.row.toRowW.claim.post args (.bool true) args = true :=
  postW_of (r := l.row.toRowW) (X := (true == true))
    (show WShape.has [] (.bool true) .bool = true by first | rfl | decide | simp [WShape.has, WShape.arms, WShape.armsAll])
    (show (WTm.eq .res (.lit (.bool true))).value [] { args := args, res := some (.bool true), after := args } = some (.bool (true == true)) from w_eq_bool (w_res rfl) w_lit) rfl

/-! ### the attachment: holds_open's last premise (the goal 'hc' behind k_head) from a wpAny of the law's body -/

/-- the same from a codeAny of the CALL (for a layer whose function contracts speak of calls) -/
theorem attach_call {l : OpenLaw} {n : Nat} {q : Program} {loose : List Str} {XP : (Str → Option Value) → Heap → Prop} {YP : World → Heap → Prop} {d : DefRec}
    (hn : l.most = some n) (hdf : d.params.defaults = [])
    (call : ∀ (w : World) (s₀ s₁ : Shared) (mg mb : Str → Option Value) (fa : Addr) (o : Obj) (pm cd doc : Value) (a : Addr) (vs : List Value) (ns : List Int),
      Ground q loose [] XP w s₀ mg mb s₁.heap → YP w s₁.heap →
      s₁.heap.get? fa = some o → o.data = .func (docDef d.name d.params d.body d.scope pm cd doc) → s₁.heap.CodeRec cd d.name → mg d.name = some (.ref fa) →
      s₁.heap.get? a = some { cls := .type "list", data := .seq vs.toArray } → IntsAre vs ns → ns.length ≤ n → s₁.gens = #[] →
      codeAny (model l.prog w) callerA (.call (.ref fa) ⟨[.ref a], []⟩) (fun r s' => r = .ok (.ret (.bool true)) ∧ OldK s₁.heap s'.heap ∧ s'.os = s₁.os ∧ AllBare s'.gens) s₁) :
    WalkO q loose XP YP l.row.toRowW d [] (fun f vs => PySem.call f vs) := by
  intro w s₀ s₁ mg mb G Y fa o pm cd doc dV kV ho hd hcd hD hmg hg args vals as hpre hlay hrd hwl hlo
  obtain rfl : dV = .none := Dflts.none hD hdf
  obtain rfl : kV = .none := Dflts.noKw hD
  obtain ⟨a, vs, ns, rfl, rfl, hobj, hints, hlen⟩ := script_of hn hpre hwl
  refine enter_call (codeAny_mono (call w s₀ s₁ mg mb fa o pm cd doc a vs ns G Y ho (fd_plain hd) hcd hmg hobj hints hlen hg) fun r s' hq => ?_)
  obtain ⟨rfl, h2, h3, h4⟩ := hq
  exact ⟨.inl ⟨.bool true, .bool true, [], rfl, fun _ => rfl, .bool true, post_true l _, fun _ => ⟨List.Pairwise.nil, fun _ hm => (nomatch hm)⟩⟩, h2, h3, h4⟩


/-! ### rules over ANY heap (no ledger) from facts about the written part K: the library's own take a ledger (News) for what they write -/
section
variable {prog : Program} {w : World} {A : Around} {E : Value → Shared → Prop} {s : Shared} {K : Frag}





/-! the whole heap as the ledger: makes every rule that writes through a ledger a rule over any heap -/

end
end Att

namespace L2
open PySem PySem.Spec PyProof.Rows

theorem vals_ints : ∀ {vs : List Value} {ns : List Int}, IntsAre vs ns → Vals (ns.map V.int) vs
  | _, _, .nil => .nil
  | _, _, .cons n t h => .cons ⟨t, rfl⟩ (vals_ints h)

/-- nothing is tracked but the script, known to the object (or it is an object of the module) -/
def Only (H : Hp) : Prop := ∀ b, H b = none ∨ ∃ o xs, H b = some (.frz o (.lst xs))

/-- THE HEAD: the law's promise, at the heap behind the top. F, the promise of the law's def, may use that base is part of the heap (so K.In base, base.Ns mainGlobals mg stand in Mod) -/
theorem law_call {P : Program} {w : World} {K : PySem.W.Frag} {mg mb : Str → Option Value} {CX : CXT} {k : Nat} {fa a : Addr} {fd : FuncData} {x : Str} {sp : Sp} {s₁ : Shared} {vs : List Value} {ns : List Int}
    (KX : K.In s₁.heap) (hns : s₁.heap.Ns mainGlobals mg) (hb : s₁.heap.Ns builtinsNs mb) (hbb : ∀ x : Str, x ≠ "__name__" → mb x = bootBuiltins x) (hlim : s₁.heap.NoLimit) (hg : s₁.gens = #[])
    (ha : s₁.heap.get? a = some { cls := .type "list", data := .seq vs.toArray }) (hi : IntsAre vs ns) (hl : ns.length ≤ sizeLine) (hr : Room k callerA)
    (F : ∀ base : Heap, K.In base → base.Ns mainGlobals mg → FnOk P w K mg base CX k fa fd [x] sp) (hbind : ∀ (s : Shared) (u : Value), BindsTo s fd ⟨[u], []⟩ [(x, u)])
    (hsp : ∀ H : Hp, Only H → SqL K H a (ns.map V.int) → sp [.ref a] H (fun v _ => v = .bl true) fun _ _ _ => False)
    (hCX : ∀ H e s', CX [] H s₁ (fun _ _ _ => False) e s' → False) :
    codeAny (model P w) callerA (.call (.ref fa) ⟨[.ref a], []⟩) (fun r s' => r = .ok (.ret (.bool true)) ∧ OldK s₁.heap s'.heap ∧ s'.os = s₁.os ∧ AllBare s'.gens) s₁ := by
  have rv := vals_ints hi
  have lenV := hi.length
  -- from an abstract heap in which nothing but the script may be tracked
  have core : ∀ H : Hp, Only H → SqL K H a (ns.map V.int) → HOk P w H s₁.heap → (∀ b, H b ≠ none → b = a) → (H a ≠ none → K.lookup a = none) →
      codeAny (model P w) callerA (.call (.ref fa) ⟨[.ref a], []⟩) (fun r s' => r = .ok (.ret (.bool true)) ∧ OldK s₁.heap s'.heap ∧ s'.os = s₁.os ∧ AllBare s'.gens) s₁ := by
    intro H hO hS hok hA hK
    have base_of : ∀ {b : Addr} {o : Obj}, s₁.heap.get? b = some o → H b = none → (hidT s₁.heap H).get? b = some o := fun e n => hidT_get e n
    have noA : ∀ {b : Addr} {o : Obj} {es : Array DictEntry} {ep : Nat}, s₁.heap.get? b = some o → o.data = .dict es ep → H b = none := fun {b o es ep} e d => by
      cases q : H b with
      | none => rfl
      | some u =>
        have e' : b = a := hA b (by rw [q]; simp)
        subst e'
        rw [ha] at e; cases e
        have d' : Data.seq vs.toArray _ = Data.dict es ep := d
        cases d'
    have nsK : ∀ {b : Addr} {m : Str → Option Value}, s₁.heap.Ns b m → (hidT s₁.heap H).Ns b m := fun {b m} ⟨o, es, ep, e, d, r⟩ => ⟨o, es, ep, base_of e (noA e d), d, r⟩
    have hKb : K.In (hidT s₁.heap H) := fun b o e => base_of (KX b o e) (by
      cases q : H b with
      | none => rfl
      | some u =>
        have e' : b = a := hA b (by rw [q]; simp)
        subst e'
        rw [hK (by rw [q]; simp)] at e; cases e)
    have hM : Mod K mg (hidT s₁.heap H) := ⟨hKb, nsK hns, ⟨mb, nsK hb, hbb⟩, let ⟨mc, h1, h2⟩ := hlim; ⟨mc, nsK h1, h2⟩⟩
    have e0 : Env0 P w K mg (hidT s₁.heap H) callerA [] s₁ H := ⟨rfl, hM, fun b o e => of_hidT e, Nat.le_of_eq (hidT_size _ _), trivial, fun b hb => absurd (show b ∈ ([] : List Addr) from hb) (by simp), hok, .of_eq hg⟩
    refine codeAny_mono ((F _ hKb (nsK hns)).run callerA [] s₁ H ⟨[.ref a], []⟩ [.ref a] [.ref a] _ _ hr e0 (hbind s₁ (.ref a)) (.cons rfl .nil) (hsp H hO hS)) fun r s' h => ?_
    cases r with
    | error e => exact (hCX H e s' h).elim
    | ok fl =>
      cases fl with
      | next => exact False.elim h
      | brk => exact False.elim h
      | cont => exact False.elim h
      | ret u =>
        obtain ⟨v, H', os, bare, un, hok', r', q⟩ := h
        have q' : v = .bl true := q
        subst q'
        obtain rfl : u = Value.bool true := r'
        refine ⟨rfl, OldK.of_keep fun b o e => ?_, os, bare⟩
        cases q : H b with
        | none => exact un.keep b o e q (by intro z; exact absurd (show b ∈ ([] : List Addr) from z) (by simp)) (by simp)
        | some u =>
          rcases hO b with z | ⟨ob, xs, z⟩
          · rw [q] at z; cases z
          · have z2 := un.frzs b ob _ z
            obtain ⟨e1, _⟩ := hok b _ z
            obtain ⟨e2, _⟩ := hok' b _ z2
            rw [e] at e1; cases e1
            exact e2
  cases hk : K.lookup a with
  | some o =>
    -- the script is one of the module's own objects
    have e := KX a o hk
    rw [ha] at e
    cases e
    refine core (fun _ => none) (fun _ => .inl rfl) (.inr ⟨_, vs.toArray, _, hk, rfl, rfl, rfl, by rw [List.size_toArray, lenV]; exact hl, by simpa using rv⟩) (fun b u z => by have z' : (none : Option HO) = some u := z; cases z') (fun b z => absurd rfl z) fun z => absurd rfl z
  | none =>
    refine core (fun b => if b = a then some (.frz { cls := .type "list", data := .seq vs.toArray } (.lst (ns.map V.int))) else none) (fun b => ?_) (.inl (.inr ⟨{ cls := .type "list", data := .seq vs.toArray }, if_pos rfl⟩)) (fun b u z => ?_) (fun b z => ?_) fun _ => hk
    · by_cases hb : b = a
      · exact .inr ⟨_, _, if_pos hb⟩
      · exact .inl (if_neg hb)
    · by_cases hb : b = a
      · have z' := (if_pos hb).symm.trans z
        cases z'
        subst hb
        exact ⟨ha, by rw [List.length_map]; exact hl, vs, _, rv, ha⟩
      · have z' := (if_neg hb).symm.trans z
        cases z'
    · by_cases hb : b = a
      · exact hb
      · exact absurd (if_neg hb) z
end L2

namespace L2
open PySem PySem.Spec PyProof.Rows


/-- the goal that k_head leaves (case hc), from the law's promise. F gives the function object fd (K's own) once, then the promise over every base -/
theorem walk_of {l : PySem.W.OpenLaw} {n k : Nat} {q : Program} {loose : List Str} {XP : (Str → Option Value) → Heap → Prop} {YP : World → Heap → Prop} {d : DefRec} {K : Params → PySem.W.Frag} {CX : World → CXT} {sp : World → Sp} {x : Str}
    (hn : l.most = some n) (hn2 : n ≤ sizeLine) (hdf : d.params.defaults = []) (hr : Room k callerA)
    (hY : ∀ (w : World) (h : Heap), YP w h → (K w.params).In h)
    (F : ∀ (w : World) (mg : Str → Option Value) (fa : Addr) (h : Heap), (K w.params).In h → h.Ns mainGlobals mg → mg d.name = some (.ref fa) →
      ∃ fd : FuncData, (∀ (s : Shared) (u : Value), BindsTo s fd ⟨[u], []⟩ [(x, u)]) ∧
        ∀ base : Heap, (K w.params).In base → base.Ns mainGlobals mg → FnOk l.prog w (K w.params) mg base (CX w) k fa fd [x] (sp w))
    (hsp : ∀ (w : World) (H : Hp) (a : Addr) (ns : List Int), ns.length ≤ n → Only H → SqL (K w.params) H a (ns.map V.int) → sp w [.ref a] H (fun v _ => v = .bl true) fun _ _ _ => False)
    (hCX : ∀ (w : World) (H : Hp) (s : Shared) (e : Value) (s' : Shared), CX w [] H s (fun _ _ _ => False) e s' → False) :
    PySem.W.WalkO q loose XP YP l.row.toRowW d [] (fun f vs => PySem.call f vs) := by
  refine Att.attach_call hn hdf fun w s₀ s₁ mg mb fa o pm cd doc a vs ns G Y ho hd hcd hmg hobj hints hlen hg => ?_
  have KX := hY w _ Y
  obtain ⟨fd, hb, hF⟩ := F w mg fa _ KX G.T.g hmg
  exact law_call KX G.T.g G.T.b G.T.builtins G.T.nolimit hg hobj hints (Nat.le_trans hlen hn2) hr hF hb (fun H hO hS => hsp w H a ns hlen hO hS) fun H e s' => hCX w H s₁ e s'
end L2

/- THE LAST THEOREM (shape; LID, My.* are yours):
   My.Adr: a structure of the addresses that your layer names (classes, functions); My.Txt K t: a structure (Prop) of the equations over K;
   My.txt_mk : {K} {implicit addresses ..} (e1 : nsIn K mainGlobals "law" = some (some (.ref f))) (e2 : K.lookup f = some ⟨oc, od, .func (fnOf "law" "law" params body scope dV kV doc pm an cdv ct), sl⟩) (e3 : codeIn K cdv "law" = true) .. : ∃ t, My.Txt K t

set_option maxHeartbeats 0 in
theorem PySem.Challenge.cw_LID_holds : PySem.Challenge.rw_LID.Holds := by
  w_on; o_law; k_head; (case hw => w_witness2)
  k_fill
  refine L2.walk_of (l := PySem.Challenge.rw_LID) (n := 63) (k := 40) (x := "script") (CX := fun w => ..) (sp := fun _ => My.sp_law) rfl (by decide) rfl ⟨rfl, by decide, by decide⟩ (fun w h Y => PySem.W.kIn_of Y) ?F ?S ?C
  case F =>
    intro w mg fa h KX G hmg
    have T : ∃ t, My.Txt (L2.KOf KX) t := by
      dsimp only [L2.KOf]                          -- K must stand as «<heap const> w.params» for k_is
      refine' My.txt_mk ?e1 ?e2 ?e3 ..
      (case e1 => PySem.W.k_is)                    -- in the order: a name -> its address -> its object -> its parts
      (case e2 => PySem.W.k_is)
      ..
    obtain ⟨t, T⟩ := T
    have e0 := hmg.symm.trans (PySem.W.mg_of KX G T.law)
    cases e0                                       -- fa is the law's own address
    exact ⟨_, fun s u => .of_eq rfl, fun base kb nb => My.law_fn T kb nb⟩     -- if «.of_eq rfl» comes too early: refine' ⟨_, ?b, fun base kb nb => My.law_fn T kb nb⟩; exact fun s u => .of_eq rfl
  case S => exact fun w H a ns hl hO hS => ..
  case C => exact ..
(the tactic k_is has no namespace: write k_is) -/

/-! SHORT WORDS over the layer: a def of the text, its body, what a loop and a test want. -/
namespace L2
open PySem PySem.Spec PyProof.Rows

/-! ### the text by places -/
/-- the j-th statement of a class's body -/
def inClass (s : Stmt) (j : Nat) : Stmt := match s with
  | .ClassDef _ _ _ body _ _ _ _ _ _ _ => body.getD j (.Pass ⟨0, 0, 0, 0⟩)
  | _ => .Pass ⟨0, 0, 0, 0⟩
def defArgs (s : Stmt) : Arguments := match s with
  | .FunctionDef _ a _ _ _ _ _ _ _ _ => a
  | _ => { posonlyargs := [], args := [], vararg := none, kwonlyargs := [], kw_defaults := [], kwarg := none, defaults := [] }
def defBody (s : Stmt) : List Stmt := match s with
  | .FunctionDef _ _ b _ _ _ _ _ _ _ => b
  | _ => []
def defScope (s : Stmt) : Scope := match s with
  | .FunctionDef _ _ _ _ _ _ sc _ _ _ => sc
  | _ => { kind := .function, names := [], isGenerator := false, isCoroutine := false }

/-! ### no exception leaves a def -/
abbrev CX0 : CXT := fun _ _ _ _ _ _ => False
abbrev E0 : XK := fun _ _ _ => False
theorem pass0 {X : Cx} : Passes CX0 X E0 := fun _ _ _ _ _ _ _ h => h.elim

/-! ### a def (or method) of the text as it stands behind the top -/
structure Fun (K : PySem.W.Frag) (x qual : Str) (st : Stmt) (f : Addr) (fd : FuncData) : Prop where
  ex : ∃ (oc : Value) (od : Option Addr) (kV doc pm : Value) (an : Option Addr) (cdv ct : Value) (osl : Array (Option Value)),
    fd = PySem.W.fnOf x qual (defArgs st) (defBody st) (defScope st) .none kV doc pm an cdv ct ∧ K.lookup f = some ⟨oc, od, .func fd, osl⟩ ∧ PySem.W.codeIn K cdv qual = true
  kp : PySem.W.keepIn K (.ref f) = true
section
variable {P : Program} {w : World} {K : PySem.W.Frag} {mg : Str → Option Value} {base : Heap}
/-- THE RULE for a def: its body as a term of rules, and the reading of that term -/
theorem Fun.ok {x qual : Str} {st : Stmt} {f : Addr} {fd : FuncData} {N ps : List Str} {k : Nat} {sp : Sp} (F : Fun K x qual st f fd) (S : FnScope N ps (defScope st)) (len : ∀ vs H Q E, sp vs H Q E → vs.length = ps.length)
    (hbody : ∀ (cdv : Value) (A : Around) (outer : List Env) (s : Shared) (H : Hp) (vs : List V) (Q : VK) (E : XK), Room k (A.deeper (envOfC qual (defScope st) s.heap.objs.size f cdv)) → sp vs H Q E →
      ∃ t, PSs (cxOf CX0 P w K mg base N qual (defScope st) f cdv A outer s H E).nox (defBody st) t ∧ t { nx := fun _ H' => Q .non H', rt := Q } (start N vs) H) : FnOk P w K mg base CX0 (k + 1) f fd ps sp := by
  obtain ⟨oc, od, kV, doc, pm, an, cdv, ct, osl, rfl, lk, hcd⟩ := F.ex
  refine fn_of lk hcd S len fun A outer s H vs Q E hr hsp => ?_
  obtain ⟨t, h, q⟩ := hbody cdv A outer s H vs Q E hr hsp
  exact ⟨t, h.nox, q⟩
/-- how its arguments bind (no defaults): h is «fun _ _ _ _ _ _ us hl => match us, hl with | [_, _], _ => rfl», one _ a parameter -/
theorem Fun.binds {x qual : Str} {st : Stmt} {f : Addr} {fd : FuncData} {ps : List Str} (F : Fun K x qual st f fd)
    (h : ∀ (kV doc pm : Value) (an : Option Addr) (cdv ct : Value) (us : List Value), us.length = ps.length → bindArgs (PySem.W.fnOf x qual (defArgs st) (defBody st) (defScope st) .none kV doc pm an cdv ct) ⟨us, []⟩ = pure (ps.zip us)) : Binds K fd ps [] := by
  obtain ⟨oc, od, kV, doc, pm, an, cdv, ct, osl, rfl, lk, hcd⟩ := F.ex
  exact .all (h kV doc pm an cdv ct)
theorem fun_mk {x qual : Str} {st : Stmt} {f : Addr} {oc : Value} {od an : Option Addr} {osl : Array (Option Value)} {kV doc pm cdv ct : Value} (l : K.lookup f = some ⟨oc, od, .func (PySem.W.fnOf x qual (defArgs st) (defBody st) (defScope st) .none kV doc pm an cdv ct), osl⟩)
    (c : PySem.W.codeIn K cdv qual = true) (k : PySem.W.keepIn K (.ref f) = true) : Fun K x qual st f (PySem.W.fnOf x qual (defArgs st) (defBody st) (defScope st) .none kV doc pm an cdv ct) := ⟨⟨oc, od, kV, doc, pm, an, cdv, ct, osl, rfl, l, c⟩, k⟩
end
theorem small1000 {n : Nat} (h : n ≤ 1000) : n < sizeLine := Nat.lt_of_le_of_lt h (by decide)

/-! ### expressions in short: the name that stands in the i-th slot -/
section
variable {X : Cx}
theorem pv (i : Nat) {x : Str} {pos : Pos} (hN : X.N[i]? = some x := by rfl) (hv : Vis X.env.scope x := by first | exact Or.inl rfl | exact Or.inr (Or.inl rfl) | exact Or.inr (Or.inr rfl)) (hd : (x == ("__debug__" : Str)) = false := by decide)
    (hcd : (x == ("__classdict__" : Str)) = false := by decide) : PE X (.Name x pos) (tVar i) := pe_var hN hv hd hcd
end

/-! ### tests -/
theorem iteF {A B : Prop} (h : B) : if false = true then A else B := by
  rw [if_neg Bool.false_ne_true]
  exact h
theorem iteT {A B : Prop} (h : A) : if true = true then A else B := by
  rw [if_pos rfl]
  exact h
theorem ite2 {c A B : Prop} [Decidable c] (h1 : c → A) (h2 : ¬ c → B) : if c then A else B := by
  by_cases h : c
  · rw [if_pos h]
    exact h1 h
  · rw [if_neg h]
    exact h2 h
theorem iteNS {c A B : Prop} [Decidable c] (hc : c) (h : B) : if (!decide c) = true then A else B := by
  rw [decide_eq_true hc]
  exact iteF h

/-! ### heaps -/
/-- all that was tracked is as it was -/
def Same (H H' : Hp) : Prop := ∀ b o, H b = some o → H' b = some o
theorem Same.refl (H : Hp) : Same H H := fun _ _ h => h
theorem Same.trans {H H1 H2 : Hp} (a : Same H H1) (b : Same H1 H2) : Same H H2 := fun c o h => b c o (a c o h)
theorem Same.free {H H' : Hp} (e : Same H H') {l : Addr} (h : H' l = Option.none) : H l = Option.none := by
  cases q : H l with
  | none => rfl
  | some o =>
    rw [e l o q] at h
    cases h
theorem Same.seq {K : PySem.W.Frag} {H H' : Hp} {a : Addr} {xs : List V} (e : Same H H') (h : SqL K H a xs) : SqL K H' a xs := by
  rcases h with (h | ⟨o, h⟩) | h
  · exact .inl (.inl (e _ _ h))
  · exact .inl (.inr ⟨o, e _ _ h⟩)
  · exact .inr h

/-! ### a dict's pairs: keys that differ -/
section
variable {κ : Type} [DecidableEq κ]
end
end L2

set_option maxHeartbeats 4000000
namespace L2
open PySem PySem.Spec PyProof.Rows

/-! ### comprehensions -/
/-- the context of a comprehension's block -/
def cxC (X : Cx) (scope : Scope) (cl : List (Str × Addr)) (C : Addr) (N' : List Str) (s : Shared) (H : Hp) (fp : List Addr) (E : Value → Shared → Prop) : Cx where
  prog := X.prog
  w := X.w
  K := X.K
  mg := X.mg
  base := X.base
  A := X.A
  N := N'
  s₀ := s
  H₀ := H
  env := compEnvC scope cl C X.env
  outer := X.stack
  stack := X.stack
  ex := fp
  fn := fun _ => false
  calm := X.calm
  pn := []
  xe := E

theorem forIn_cells {env : Env} (f : Str × NameKind → List (Str × Addr) → Sem (ForInStep (List (Str × Addr)))) (hf : ∀ n k cs, f (n, k) cs = if (k == NameKind.free) = true then (cellOf env n >>= fun a => pure (ForInStep.yield ((n, a) :: cs))) else pure (ForInStep.yield cs)) :
    ∀ (l : List (Str × NameKind)) (cs : List (Str × Addr)), (∀ n, (n, NameKind.free) ∈ l → ∃ c, env.cells.lookup n = some c) → (∀ n c, cs.lookup n = some c → env.cells.lookup n = some c) →
      ∃ cl, forIn l cs f = (pure cl : Sem _) ∧ (∀ n c, cl.lookup n = some c → env.cells.lookup n = some c) ∧ (∀ n, (n, NameKind.free) ∈ l → ∃ c, cl.lookup n = some c) ∧ (∀ n c, cs.lookup n = some c → ∃ c', cl.lookup n = some c')
  | [], cs, _, hc => ⟨cs, rfl, hc, fun n hn => absurd hn (by simp), fun n c e => ⟨c, e⟩⟩
  | (n, k) :: l, cs, h, hc => by
    have hl : ∀ m, (m, NameKind.free) ∈ l → ∃ c, env.cells.lookup m = some c := fun m hm => h m (List.mem_cons_of_mem _ hm)
    by_cases hk : k = .free
    · subst hk
      obtain ⟨c, ec⟩ := h n List.mem_cons_self
      have hc' : ∀ m d, ((n, c) :: cs).lookup m = some d → env.cells.lookup m = some d := fun m d e => by
        rw [List.lookup_cons] at e
        by_cases q : m == n
        · rw [q] at e
          have := beq_iff_eq.mp q
          subst this
          rw [ec]; exact e
        · rw [Bool.eq_false_iff.mpr q] at e
          exact hc m d e
      obtain ⟨cl, e1, e2, e3, e4⟩ := forIn_cells f hf l ((n, c) :: cs) hl hc'
      refine ⟨cl, ?_, e2, fun m hm => ?_, fun m d e => ?_⟩
      · rw [List.forIn_cons, hf, if_pos (show (NameKind.free == NameKind.free) = true from rfl)]
        have : cellOf env n = pure c := by unfold cellOf; rw [ec]
        rw [this]
        exact e1
      · rcases List.mem_cons.mp hm with z | z
        · cases z
          exact e4 n c (by rw [List.lookup_cons]; simp)
        · exact e3 m z
      · by_cases q : m = n
        · subst q; exact e4 m c (by rw [List.lookup_cons]; simp)
        · exact e4 m d (by rw [List.lookup_cons, beq_eq_false_iff_ne.mpr q]; exact e)
    · obtain ⟨cl, e1, e2, e3, e4⟩ := forIn_cells f hf l cs hl hc
      refine ⟨cl, ?_, e2, fun m hm => ?_, e4⟩
      · rw [List.forIn_cons, hf, if_neg (by simpa using hk)]
        exact e1
      · rcases List.mem_cons.mp hm with z | z
        · cases z; exact absurd rfl hk
        · exact e3 m z
theorem closure_of {env : Env} {scope : Scope} (h : ∀ n, (n, NameKind.free) ∈ scope.names → ∃ c, env.cells.lookup n = some c) :
    ∃ cl, closureFor scope env = pure cl ∧ (∀ n c, cl.lookup n = some c → env.cells.lookup n = some c) ∧ (∀ n, (n, NameKind.free) ∈ scope.names → ∃ c, cl.lookup n = some c) := by
  obtain ⟨cl, e1, e2, e3, _⟩ := forIn_cells (env := env) (fun x __s => match x with
    | (name, kind) => if (kind == NameKind.free) = true then (do let a ← cellOf env name; pure (ForInStep.yield ((name, a) :: __s))) else pure (ForInStep.yield __s)) (fun n k cs => rfl) scope.names [] h (fun n c e => nomatch e)
  refine ⟨cl, ?_, e2, e3⟩
  unfold closureFor
  dsimp only
  rw [e1]
  all_goals rfl

/-- the tests of a clause -/
def PIf (X : Cx) (ifs : List Expr) (t : TT) : Prop :=
  ∀ (pins : List (Addr × Obj)) (s : Shared) (σ : St) (H : Hp) (Q : Bool → Hp → Prop), Inv X pins σ H s → t σ H Q →
    wpAny (model X.prog X.w) X.A (forIn ifs true fun c r => if r = true then do let ok ← isTrue c X.env (eval c X.env); pure (ForInStep.yield ok) else pure (ForInStep.yield r)) (TP X pins σ Q) X.xe s
def tYes : TT := fun _ H Q => Q true H
theorem tYes_of {σ : St} {H : Hp} {A B : Hp → Prop} (h : A H) : tYes σ H fun b H3 => if b = true then A H3 else B H3 := by
  show if true = true then A H else B H
  rw [if_pos rfl]
  exact h
theorem pif_nil {X : Cx} : PIf X [] tYes := fun _ _ _ H _ I h => wpAny_tests_nil ⟨H, I, h⟩
theorem pif_one {X : Cx} {c : Expr} {t : TT} (h : PT X c t) : PIf X [c] t := fun pins s σ H Q I hw => wpAny_tests_one (h pins s σ H Q I hw)

theorem compLoop_any {prog : Program} {w : World} {A : Around} {R : Result → Shared → Prop} {s : Shared} {elt target iter : Expr} {ifs : List Expr} {scope : Scope} {pos : Pos} {it acc : Value} {env : Env} (I : Nat → Shared → Prop)
    (turn : ∀ n s, I n s → wpAny (model prog w) A (pyNext it) (fun r s₁ => match r with
      | none => R (.ok .next) s₁
      | some v => wpAny (model prog w) A (letOwnedTupleGo target it v) (fun _ s₁' => wpAny (model prog w) A (assign target env v) (fun _ s₂ =>
          wpAny (model prog w) A (forIn ifs true fun c r => if r = true then do let ok ← isTrue c env (eval c env); pure (ForInStep.yield ok) else pure (ForInStep.yield r)) (fun ok s₃ =>
            if ok = true then wpAny (model prog w) A (eval elt env) (fun x s₄ =>
              wpAny (model prog w) A (call (.builtin "list.append") [acc, x]) (fun _ s₅ => ∃ m, m < n ∧ I m s₅) (notedBy (model prog w) A env fun e s' => R (.error e) s') s₄) (notedBy (model prog w) A env fun e s' => R (.error e) s') s₃
            else ∃ m, m < n ∧ I m s₃) (notedBy (model prog w) A env fun e s' => R (.error e) s') s₂) (notedBy (model prog w) A env fun e s' => R (.error e) s') s₁') (notedBy (model prog w) A env fun e s' => R (.error e) s') s₁) (notedBy (model prog w) A env fun e s' => R (.error e) s') s)
    (n : Nat) (h : I n s) :
    codeAny (model prog w) A (.compLoop (.ListComp elt [⟨target, iter, ifs, 0⟩] scope pos) 0 it acc env) R s := by
  refine codeAny_loop rfl I (fun n s hI => ?_) n h
  show wpAny _ A ((compTurn (.ListComp elt [⟨target, iter, ifs, 0⟩] scope pos) 0 it acc env).onRaise (fun x => do noteFrame x env; theTreesLotGoes x)) _ _ s
  refine wpAny_noted ?_
  rw [compTurn_list]
  refine wpAny_bind (wpAny_standAt (wpAny_bind (wpAny_mono (turn n s hI) (fun r s₁ h₁ => ?_) fun _ _ h' => h')))
  cases r with
  | none => exact wpAny_pure h₁
  | some v =>
    refine wpAny_bind (wpAny_mono h₁ (fun _ s₁' h₁' => ?_) fun _ _ h' => h')
    refine wpAny_bind (wpAny_mono h₁' (fun _ s₂ h₂ => wpAny_bind (wpAny_mono h₂ (fun ok s₃ h₃ => ?_) fun _ _ h' => h')) fun _ _ h' => h')
    cases ok with
    | false => exact wpAny_pure ⟨rfl, h₃⟩
    | true =>
      exact wpAny_bind (wpAny_bind (wpAny_mono h₃ (fun x s₄ h₄ => wpAny_bind (wpAny_mono h₄ (fun _ s₅ h₅ => wpAny_pure (wpAny_pure ⟨rfl, h₅⟩)) fun _ _ h' => h')) fun _ _ h' => h'))

theorem lookup_relabel_free {env : Env} : ∀ {names : List (Str × NameKind)} {x : Str}, names.lookup x = some .free →
    (names.map fun (n, k) => if (k == NameKind.free && env.scope.kind == .function && env.kindOf n == some .cell) then (n, NameKind.cell) else (n, k)).lookup x = some .cell ∨
    (names.map fun (n, k) => if (k == NameKind.free && env.scope.kind == .function && env.kindOf n == some .cell) then (n, NameKind.cell) else (n, k)).lookup x = some .free
  | [], _, h => by simp at h
  | (n, k) :: r, x, h => by
    have ih := @lookup_relabel_free env r x
    show List.lookup x ((if (k == NameKind.free && env.scope.kind == .function && env.kindOf n == some .cell) = true then (n, NameKind.cell) else (n, k)) :: _) = _ ∨ List.lookup x ((if (k == NameKind.free && env.scope.kind == .function && env.kindOf n == some .cell) = true then (n, NameKind.cell) else (n, k)) :: _) = _
    cases hx : x == n with
    | true =>
      simp only [List.lookup_cons, hx] at h
      cases h
      split <;> simp [List.lookup_cons, hx]
    | false =>
      simp only [List.lookup_cons, hx] at h
      by_cases hc : (k == NameKind.free && env.scope.kind == .function && env.kindOf n == some .cell) = true
      · rw [if_pos hc]; simp only [List.lookup_cons, hx]; exact ih h
      · rw [if_neg hc]; simp only [List.lookup_cons, hx]; exact ih h
theorem relabel_cf {env : Env} : ∀ {names : List (Str × NameKind)} {x : Str}, (∀ y ∈ names, y.2 ≠ .cell) →
    ((names.map fun (n, k) => if (k == NameKind.free && env.scope.kind == .function && env.kindOf n == some .cell) then (n, NameKind.cell) else (n, k)).lookup x = some .cell ∨
    (names.map fun (n, k) => if (k == NameKind.free && env.scope.kind == .function && env.kindOf n == some .cell) then (n, NameKind.cell) else (n, k)).lookup x = some .free) → (x, NameKind.free) ∈ names
  | [], _, _, h => by simp at h
  | (n, k) :: r, x, hn, h => by
    have ih := @relabel_cf env r x (fun y hy => hn y (List.mem_cons_of_mem _ hy))
    have h : List.lookup x ((if (k == NameKind.free && env.scope.kind == .function && env.kindOf n == some .cell) = true then (n, NameKind.cell) else (n, k)) :: _) = _ ∨ List.lookup x ((if (k == NameKind.free && env.scope.kind == .function && env.kindOf n == some .cell) = true then (n, NameKind.cell) else (n, k)) :: _) = _ := h
    cases hx : x == n with
    | true =>
      have e := beq_iff_eq.mp hx
      subst e
      have hk : k = .free := by
        by_cases hc : (k == NameKind.free && env.scope.kind == .function && env.kindOf x == some .cell) = true
        · simp only [Bool.and_eq_true, beq_iff_eq] at hc
          exact hc.1.1
        · rw [if_neg hc] at h
          simp only [List.lookup_cons, hx] at h
          rcases h with h | h
          · exact absurd (Option.some.inj h) (hn (x, k) List.mem_cons_self)
          · exact Option.some.inj h
      subst hk
      exact List.mem_cons_self
    | false =>
      refine List.mem_cons_of_mem _ (ih ?_)
      by_cases hc : (k == NameKind.free && env.scope.kind == .function && env.kindOf n == some .cell) = true
      · rw [if_pos hc] at h; simp only [List.lookup_cons, hx] at h; exact h
      · rw [if_neg hc] at h; simp only [List.lookup_cons, hx] at h; exact h

def capN (N : List Str) (js : List Nat) : List Str := js.map fun j => N.getD j Str.empty
def capSt (σ : St) (js : List Nat) : St := js.map fun j => (σ[j]?).getD none
/-- the names that the block takes from around it -/
def capOk (N : List Str) (osc sc : Scope) (js : List Nat) : Bool :=
  js.all fun j => decide (j < N.length) && (osc.names.lookup (N.getD j Str.empty) == some .cell || osc.names.lookup (N.getD j Str.empty) == some .free) && sc.names.lookup (N.getD j Str.empty) == some .free
def scOk (osc sc : Scope) (x : Str) : Bool :=
  sc.kind == .function && sc.names.all (fun y => y.2 != .cell) && sc.names.all (fun y => y.2 != .local || sc.names.lookup y.1 == some .local) && sc.names.lookup x == some .local &&
    sc.names.all (fun y => y.2 != .free || (osc.names.lookup y.1 == some .cell || osc.names.lookup y.1 == some .free))

def LcLoop (J : It) (cap : St) (tt : TT) (te : TE) (H : Hp) (P : List V → Hp → Prop) : Prop :=
  ∃ W : Nat → Nat → List V → Hp → Prop, (∃ m, W 0 m [] H) ∧ ∀ i m ys H, W i m ys H →
    (J.stop i H ∧ ys.length ≤ sizeLine ∧ P ys H) ∨ (J.go i H ∧ ys.length < sizeLine ∧ ∃ Nx : List V → Hp → Prop, (∀ ys' H', Nx ys' H' → ∃ m', m' < m ∧ W (i + 1) m' ys' H') ∧
      ∀ x H', J.yld i H x H' → tt (some x :: cap) H' fun b H3 => if b = true then te (some x :: cap) H3 fun v H4 => Nx (ys ++ [v]) H4 else Nx ys H3)


theorem Un.track {fs ex : List Addr} {H H1 : Hp} {h h1 : Heap} {D : Addr} {o : HO} (u : Un fs ex H H1 h h1) (hp : h.objs.size ≤ D) (hn : H1 D = none) : Un fs ex H (upd H1 D o) h h1 where
  keep := u.keep
  slot := u.slot
  free := fun b ob q n hx => by rw [upd_ne (Nat.ne_of_lt (Nat.lt_of_lt_of_le (Heap.lt_size q) hp))]; exact u.free b ob q n hx
  there := u.there
  tups := fun b xs q => by have z := u.tups b xs q; rw [upd_ne (ne_of_none z hn)]; exact z
  frzs := fun b ob xs q => by have z := u.frzs b ob xs q; rw [upd_ne (ne_of_none z hn)]; exact z
  tbls := fun b ps q => by obtain ⟨more, z⟩ := u.tbls b ps q; exact ⟨more, by rw [upd_ne (ne_of_none z hn)]; exact z⟩
theorem HOk.track {P : Program} {w : World} {H : Hp} {h : Heap} {D : Addr} {o : HO} (x : HOk P w H h) (hn : H D = none) (new : ObjOk P w (upd H D o) h D o) : HOk P w (upd H D o) h := fun b u e => by
  by_cases hb : b = D
  · subst hb; rw [upd_same] at e; cases e; exact new
  · rw [upd_ne hb] at e
    exact (x b u e).stay (fun c v _ q => q) (fun c q => by rw [upd_ne (ne_of_none q hn)]; exact q) fun c xs q => by rw [upd_ne (ne_of_none q hn)]; exact q
section
variable {X : Cx} {x : Str} {px : Pos} {iter elt : Expr} {ifs : List Expr} {scope : Scope} {pos : Pos} {js : List Nat} {N : List Str} {osc : Scope} {tt : TT} {te : TE} {cl : List (Str × Addr)}

theorem comp_core {RR : Value → Addr → Result → Shared → Prop} {E : Value → Shared → Prop} {pins : List (Addr × Obj)} {σ : St} {H2 : Hp} {s2 : Shared} {it : Addr} {fp : List Addr} {tn : Nat → Heap → Prop} {J : It} {P : List V → Hp → Prop}
    (hN : X.N = N) (hsc : X.env.scope = osc) (hcap : capOk N osc scope js = true) (hs1 : scOk osc scope x = true) (hnd : (x :: capN N js).Nodup) (hc : X.calm = true)
    (hin : ∀ C s H fp E, PIf (cxC X scope cl C (x :: capN N js) s H fp E) ifs tt ∧ PE (cxC X scope cl C (x :: capN N js) s H fp E) elt te)
    (I2 : Inv X pins σ H2 s2) (T : Turn X.prog X.w X.K (.Name x px) J fp it tn) (st : tn 0 s2.heap) (f2 : ∀ b ∈ fp, FpOk X pins H2 b)
    (cl1 : ∀ n c, cl.lookup n = some c → X.env.cells.lookup n = some c) (cl2 : ∀ n, (n, NameKind.free) ∈ scope.names → ∃ c, cl.lookup n = some c)
    (h : LcLoop J (capSt σ js) tt te H2 P)
    (hRR : ∀ D C ys H' s', P ys H' → H' D = none → Inv X pins σ (upd H' D (.lst ys)) s' → (∃ m, s'.heap.Ns C m) → C ≠ X.env.locals → X.s₀.heap.objs.size ≤ C → (∀ y c, X.env.cells.lookup y = some c → c ≠ C) → (∀ p ∈ X.pn ++ pins, p.1 ≠ C) →
      (upd H' D (.lst ys)) C = none → RR (.ref D) C (.ok .next) s') :
    wpAny (model X.prog X.w) X.A (newList []) (fun acc s₃ => wpAny (model X.prog X.w) X.A (newFunctionEnv scope X.env.globals cl [] X.env.qual none .none (some X.env)) (fun cenv s₄ =>
      codeAny (model X.prog X.w) X.A (.compStart (.ListComp elt [⟨.Name x px, iter, ifs, 0⟩] scope pos) 0 (.ref it) acc { cenv with scope := relabel scope X.env }) (RR acc cenv.locals) s₄) E s₃) E s2 := by
  unfold scOk at hs1
  simp only [Bool.and_eq_true, beq_iff_eq, List.all_eq_true] at hs1
  obtain ⟨⟨⟨⟨hkind, hcell0⟩, hnames0⟩, hxl⟩, hfr0⟩ := hs1
  have hcell : ∀ y ∈ scope.names, y.2 ≠ .cell := fun y hy e => by
    have := hcell0 y hy
    rw [e] at this
    simp at this
  refine wpAny_newObj_type (wpAny_newFunctionEnv hcell (by intro y hy; simp at hy) (fun h₁ hns₁ hsb₁ => ?_) hkind)
  dsimp only at hns₁ hsb₁ ⊢
  generalize hHp : s2.heap.push { cls := .type "list", dict := none, data := .seq ([] : List Value).toArray } = Hh at hns₁ hsb₁ ⊢
  have hC : Hh.objs.size = s2.heap.objs.size + 1 := by rw [← hHp, Heap.size_push]
  generalize hD : s2.heap.objs.size = D at hC ⊢
  generalize hCC : Hh.objs.size = C at hC hns₁ hsb₁ ⊢
  have hDC : D ≠ C := by omega
  have below : ∀ b o, s2.heap.get? b = some o → b < D := fun b o e => by rw [← hD]; exact Heap.lt_size e
  have old : ∀ b o, s2.heap.get? b = some o → h₁.get? b = some o := fun b o e =>
    hsb₁.extBut b o (Nat.ne_of_lt (by rw [hC]; exact Nat.lt_succ_of_lt (below b o e))) (Heap.get?_push_of_some _ (by rw [← hHp]; exact Heap.get?_push_of_some _ e))
  have hacc : h₁.get? D = some { cls := .type "list", data := .seq ([] : List Value).toArray } :=
    hsb₁.extBut D _ hDC (Heap.get?_push_of_some _ (by rw [← hHp, ← hD]; exact Heap.get?_push_size _ rfl))
  have fpD : ∀ b ∈ fp, b < D := fun b hb => by
    obtain ⟨o, e, _⟩ := T.obj _ _ st b hb
    exact below b o e
  have ltC : ∀ b : Addr, b < D → b ≠ C := fun b hb => Nat.ne_of_lt (by rw [hC]; exact Nat.lt_succ_of_lt hb)
  have hLt : X.env.locals < D := by rw [← hD]; exact I2.lt
  have cellLt : ∀ y c, X.env.cells.lookup y = some c → c < D := fun y c e => by
    obtain ⟨v, q⟩ := I2.cell y c e
    rw [← hD]; exact q.lt
  have frLt : ∀ b, b ∈ frs X.stack → b < D := fun b hb => by
    obtain ⟨_, o, ho, _⟩ := I2.stack.mem hb
    exact below b o ho
  let E' : Value → Shared → Prop := notedBy (model X.prog X.w) X.A (compEnvC scope cl C X.env) (fun e s' => RR (.ref D) C (.error e) s')
  let X' : Cx := cxC X scope cl C (x :: capN N js) s2 H2 fp E'
  have hok : X'.Ok := {
      mod := I2.ok.mod
      kind := hkind
      glob := I2.ok.glob
      blt := I2.ok.blt
      above := by show s2.heap.objs.size ≤ C; omega
      inj := fun a b c e1 e2 => I2.ok.inj a b c (cl1 _ _ e1) (cl1 _ _ e2)
      has := fun y hy => cl2 y (relabel_cf hcell hy)
      cab := fun _ _ e => nomatch e
      hd := I2.ok.hd
      frames := I2.ok.frames
      stk := .inl rfl
      exf := fun b hb => ⟨ltC b (fpD b hb), fun y c e => (f2 b hb).2.2.2.2.1 y c (cl1 _ _ e)⟩
      bs := I2.bs
      bsz := Nat.le_trans I2.ok.bsz I2.sz
      noex := fun b o e hb => by
        rcases (f2 b hb).2.2.2.1 with z | z
        · exact I2.ok.noex b o e z
        · have := Nat.lt_of_lt_of_le (Heap.lt_size e) I2.ok.bsz
          omega
      exfs := fun b hb z => by
        rcases List.mem_cons.mp (I2.stkSub b z) with e | e
        · exact (f2 b hb).2.1 e
        · exact (f2 b hb).2.2.1 e
      funs := I2.stack
      frf := I2.stkFree }
  have hl0 : (none :: capSt σ js : St).length = X'.N.length := by
    show _ = (x :: capN N js).length
    simp [capSt, capN]
  have nC2 : H2 C = none := I2.hok.fresh (by omega)
  have nD2 : H2 D = none := I2.hok.fresh (by omega)
  have I0 : Inv X' [] (none :: capSt σ js) H2 { s2 with heap := h₁, toks := s2.toks + ([] : List (Str × Value)).length } := by
    refine ⟨hok, rfl, I2.bare, Un.kept old, ⟨_, hns₁, fun i y v h1 h2 h3 => ?_⟩, fun y c e => ?_, nC2, fun y c e => I2.freeC y c (cl1 y c e), fun p hp => absurd (show p ∈ ([] : List (Addr × Obj)) from hp) (by simp), I2.hok.kept old, hl0⟩
    · cases i with
      | zero => simp at h2
      | succ i =>
        have h1' : (capN N js)[i]? = some y := by
          have z : (x :: capN N js)[i + 1]? = some y := h1
          simpa using z
        have h2' : (capSt σ js)[i]? = some (some v) := by simpa using h2
        unfold capN at h1'
        unfold capSt at h2'
        rw [List.getElem?_map] at h1' h2'
        cases ej : js[i]? with
        | none => rw [ej] at h1'; cases h1'
        | some j =>
          rw [ej] at h1' h2'
          have e1 : N.getD j Str.empty = y := Option.some.inj h1'
          have e2 : (σ[j]?).getD none = some v := Option.some.inj h2'
          have hσ : σ[j]? = some (some v) := by
            cases q : σ[j]? with
            | none => rw [q] at e2; cases e2
            | some o => rw [q] at e2; rw [show o = some v from e2]
          have hcj := (List.all_eq_true.mp hcap) j (List.mem_of_getElem? ej)
          simp only [Bool.and_eq_true, Bool.or_eq_true, beq_iff_eq, decide_eq_true_eq] at hcj
          obtain ⟨⟨hjl, hok1⟩, hok2⟩ := hcj
          rw [e1] at hok1 hok2
          have hNj : X.N[j]? = some y := by
            rw [hN, ← e1, List.getD_eq_getElem?_getD]
            simp [hjl]
          obtain ⟨m, hm, hl⟩ := I2.loc
          have hvis : Vis X.env.scope y := by
            rw [hsc]
            rcases hok1 with z | z
            · exact .inr (.inl z)
            · exact .inr (.inr z)
          obtain ⟨u, ru, look⟩ := hl j y v hNj hσ hvis
          refine ⟨u, ru, .inr ⟨lookup_relabel_free hok2, ?_⟩⟩
          rcases look with ⟨lk, _⟩ | ⟨_, c, ec, hcl⟩
          · have lk' : X.env.scope.names.lookup y = some .local := lk
            rw [hsc] at lk'
            rcases hok1 with z | z <;> (rw [z] at lk'; cases lk')
          · obtain ⟨c', ec'⟩ := cl2 y (PySem.mem_of_lookup hok2)
            have := cl1 y c' ec'
            rw [ec] at this
            cases this
            exact ⟨c, ec', let ⟨o, ho, hd⟩ := hcl; ⟨o, old c o ho, hd⟩⟩
    · obtain ⟨v, o, ho, hd⟩ := I2.cell y c (cl1 y c e)
      exact ⟨v, o, old c o ho, hd⟩
  have DfsX : D ∉ X'.fs := fun z => absurd (frLt D z) (Nat.lt_irrefl _)
  have Dfp : D ∉ fp := fun z => absurd (fpD D z) (Nat.lt_irrefl _)
  have Dcell : ∀ y c, X'.env.cells.lookup y = some c → c ≠ D := fun y c e => Nat.ne_of_lt (cellLt y c (cl1 y c e))
  have D0 : X'.s₀.heap.objs.size ≤ D := by show s2.heap.objs.size ≤ D; omega
  have fpOk : ∀ {H : Hp} {pl : List (Addr × Obj)}, (∀ b ∈ fp, H b = none) → (∀ p ∈ pl, p.1 ∉ fp) → ∀ b ∈ fp, FpOk X' pl H b := fun {H pl} hn hp b hb => by
    refine ⟨hn b hb, ltC b (fpD b hb), fun z => ?_, .inl hb, fun y c e => (f2 b hb).2.2.2.2.1 y c (cl1 y c e), fun p q => ?_⟩
    · rcases List.mem_cons.mp (I2.stkSub b z) with e | e
      · exact (f2 b hb).2.1 e
      · exact (f2 b hb).2.2.1 e
    · intro e
      rcases List.mem_append.mp q with q | q
      · exact absurd (show p ∈ ([] : List (Addr × Obj)) from q) (by simp)
      · exact hp p q (by rw [e]; exact hb)
  have hif : PIf X' ifs tt := (hin C s2 H2 fp E').1
  have helt : PE X' elt te := (hin C s2 H2 fp E').2
  obtain ⟨W, ⟨m0, w0⟩, turn⟩ := h
  have loop : ∀ s₃ : Shared, s₃ = { s2 with heap := h₁, toks := s2.toks + ([] : List (Str × Value)).length } →
      codeAny (model X.prog X.w) X.A (.compLoop (.ListComp elt [⟨.Name x px, iter, ifs, 0⟩] scope pos) 0 (.ref it) (.ref D) (compEnvC scope cl C X.env)) (RR (.ref D) C) s₃ := by
    rintro s₃ rfl
    refine compLoop_any (fun n s' => ∃ i ys its nn H', Inv X' [] (none :: capSt σ js) H' s' ∧ tn i s'.heap ∧ (∀ b ∈ fp, H' b = none) ∧ s'.heap.get? D = some { cls := .type "list", data := .seq (its : List Value).toArray nn } ∧ H' D = none ∧ Vals ys its ∧ W i n ys H') ?_ m0
      ⟨0, [], [], 0, H2, I0, T.keep _ _ _ st fun b _ o e => old b o e, fun b hb => (f2 b hb).1, hacc, nD2, .nil, w0⟩
    rintro n s3 ⟨i, ys, its, nn, H3, I3, st3, fr3, hD3, nD3, rv, w3⟩
    have hlen : ys.length = its.length := rv.length
    let ob : Obj := { cls := .type "list", data := .seq its.toArray nn }
    have nocell : ∀ v, ob.data ≠ .cell v := fun v z => nomatch z
    have I3p : Inv X' [(D, ob)] (none :: capSt σ js) H3 s3 := I3.pins_of fun p hp => by
      have e : p = (D, ob) := by simpa using hp
      subst e
      exact ⟨hD3, nD3, hDC, DfsX, nocell⟩
    have pfp : ∀ p ∈ [(D, ob)], p.1 ∉ fp := fun p hp => by
      have e : p = (D, ob) := by simpa using hp
      subst e
      exact Dfp
    rcases turn i n ys H3 w3 with ⟨stop, hz, q⟩ | ⟨go, hz, Nx, hNx, step⟩
    · refine wpAny_mono (T.done X' rfl rfl rfl hc i [(D, ob)] s3 _ H3 E' I3p (fpOk fr3 pfp) st3 stop) (fun r s4 ⟨hr, I4⟩ => ?_) fun _ _ e => e
      subst hr
      have hD4 : s4.heap.get? D = some ob := (I4.pin (D, ob) (by simp)).1
      have un : Un (frs X.stack) fp H2 H3 s2.heap s4.heap := I4.base
      obtain ⟨m, hm, _⟩ := I4.loc
      have nC3 : H3 C = none := I4.free
      refine hRR D C ys H3 s4 q nD3 ?_ ⟨m, hm⟩ (Ne.symm (ltC _ hLt)) (by have := I2.sz; omega) (fun y c e => ltC c (cellLt y c e)) (fun p hp => ?_) (by rw [upd_ne hDC.symm]; exact nC3)
      · refine I2.call' I4.os (un.track (by omega) nD3) (I4.hok.track nD3 ⟨hz, its, nn, rv, hD4⟩) I4.bare fun b hb => ?_
        obtain ⟨_, a2, _, a4, a5, a6⟩ := f2 b hb
        exact ⟨a4, a2, a5, a6⟩
      · exact ltC _ (below _ _ (I2.pin p hp).1)
    · refine wpAny_mono (T.item X' rfl rfl rfl hc i [(D, ob)] s3 _ H3 E' I3p (fpOk fr3 pfp) st3 go) (fun r s4 ⟨u, hr, h4⟩ => ?_) fun _ _ e => e
      subst hr
      refine wpAny_mono h4 (fun _ s5 ⟨xv, H5, I5, r5, y5, st5, fr5⟩ => ?_) fun _ _ e => e
      have I5' := I5.pinned (fpOk fr5 pfp) (T.obj _ _ st5)
      refine wpAny_assign_Name (store_ok (X := X') (i := 0) (x := x) I5' hnd rfl (.inl (lookup_relabel_local hxl)) r5 (fun s6 I6 => ?_) (.inr (lookup_relabel_local hxl)))
      -- behind the element or the test: the next turn
      have next : ∀ {s7 : Shared} {H7 : Hp}, Inv X' ([(D, ob)] ++ pinsAt fp s5.heap) (some xv :: capSt σ js) H7 s7 →
          Inv X' [] (none :: capSt σ js) H7 s7 ∧ tn (i + 1) s7.heap ∧ (∀ b ∈ fp, H7 b = none) ∧ s7.heap.get? D = some ob ∧ H7 D = none := fun {s7 H7} I7 => by
        have pD := I7.pin (D, ob) (List.mem_append_right _ (List.mem_append_left _ (by simp)))
        refine ⟨(I7.weak (σ' := none :: capSt σ js) (by simp) fun j v e => ?_).pins_of (fun p hp => nomatch hp), T.keep _ _ _ st5 fun b hb o e => (I7.pin (b, o) (List.mem_append_right _ (List.mem_append_right _ (mem_pinsAt hb e)))).1, fun b hb => ?_, pD.1, pD.2.1⟩
        · cases j with
          | zero => simp at e
          | succ j => simpa using e
        · obtain ⟨o, e, d⟩ := T.obj _ _ st5 b hb
          exact (I7.pin (b, o) (List.mem_append_right _ (List.mem_append_right _ (mem_pinsAt hb e)))).2.1
      refine wpAny_mono (hif _ s6 _ H5 _ I6 (step xv H5 y5)) (fun b s7 ⟨H7, I7, q7⟩ => ?_) fun _ _ e => e
      cases b with
      | false =>
        rw [if_neg Bool.false_ne_true] at q7 ⊢
        obtain ⟨m', hm, w7⟩ := hNx ys H7 q7
        obtain ⟨a1, a2, a3, a4, a5⟩ := next I7
        exact ⟨m', hm, i + 1, ys, its, nn, H7, a1, a2, a3, a4, a5, rv, w7⟩
      | true =>
        rw [if_pos rfl] at q7 ⊢
        refine wpAny_mono (helt _ s7 _ H7 _ I7 q7) (fun uv s8 ⟨v, H8, I8, r8, q8⟩ => ?_) fun _ _ e => e
        obtain ⟨m', hm, w8⟩ := hNx _ H8 q8
        obtain ⟨a1, a2, a3, a4, a5⟩ := next I8
        refine call_meets F.slot_list_append ⟨_, a4, rfl⟩ F.entry_list_append (F.args_list_append_2 _ _) (PySem.list_append D its.toArray nn uv (by rw [List.size_toArray]; omega)) ⟨a4, ?_⟩
        have q := PySem.IsL.update a4 (·.push uv)
        have e2 : its.toArray.push uv = (its ++ [uv]).toArray := by simp
        rw [e2] at q
        have kk : ∀ b o, b ≠ D → s8.heap.get? b = some o → (s8.heap.update D (Obj.mapSeq (·.push uv))).get? b = some o := fun b o hb e => (Heap.get?_update_other s8.heap _ (Ne.symm hb)).trans e
        refine ⟨m', hm, i + 1, ys ++ [v], its ++ [uv], _, H8, a1.turned (t' := s8.toks) kk a5 hDC (.inr D0) Dcell (fun p hp => ?_), T.keep _ _ _ a2 fun b hb o e => kk b o (fun z => Dfp (z ▸ hb)) e, a3, q, a5, rv.append (.cons r8 .nil), w8⟩
        · exact absurd (show p ∈ ([] : List (Addr × Obj)) from hp) (by simp)
  exact codeAny_compStart_list (loop _ rfl) (T.self X.A 0 _ _ _ (T.keep _ _ _ st fun b _ o e => old b o e) (loop _ rfl))

/-- [elt for x in iter if ..]: js, the slots of the names that the block takes from around it -/
def tLC (wi : TI) (js : List Nat) (tt : TT) (te : TE) : TE := fun σ H Q => wi σ H fun J H1 => LcLoop J (capSt σ js) tt te H1 fun ys H2 => ∀ D, H2 D = none → Q (.ref D) (upd H2 D (.lst ys))
theorem frees_of (hs1 : scOk osc scope x = true) (hsc : X.env.scope = osc) {pins : List (Addr × Obj)} {σ : St} {H : Hp} {s : Shared} (I : Inv X pins σ H s) : ∀ n, (n, NameKind.free) ∈ scope.names → ∃ c, X.env.cells.lookup n = some c := fun n hn => by
  unfold scOk at hs1
  simp only [Bool.and_eq_true, beq_iff_eq, List.all_eq_true] at hs1
  have h := hs1.2 _ hn
  simp only [bne_self_eq_false, Bool.false_or, Bool.or_eq_true, beq_iff_eq] at h
  refine I.ok.has n ?_
  show X.env.scope.names.lookup n = _ ∨ X.env.scope.names.lookup n = _
  rw [hsc]; exact h
theorem scOk.kind (hs1 : scOk osc scope x = true) : scope.kind = .function := by
  unfold scOk at hs1
  simp only [Bool.and_eq_true, beq_iff_eq, List.all_eq_true] at hs1
  exact hs1.1.1.1.1
theorem scOk.names (hs1 : scOk osc scope x = true) : ∀ y ∈ scope.names, y.2 = .local → scope.names.lookup y.1 = some .local := fun y hy e => by
  unfold scOk at hs1
  simp only [Bool.and_eq_true, beq_iff_eq, List.all_eq_true] at hs1
  have := hs1.1.1.2 y hy
  rw [e] at this
  simpa using this
theorem pe_lc {wi : TI} {ps : List Str} (_S : FnScope N ps osc) (js : List Nat) (hi : PI X (.Name x px) iter wi)
    (hin : ∀ cl C s H fp E, PIf (cxC X scope cl C (x :: capN N js) s H fp E) ifs tt ∧ PE (cxC X scope cl C (x :: capN N js) s H fp E) elt te)
    (hN : X.N = N := by rfl) (hsc : X.env.scope = osc := by rfl) (hcap : capOk N osc scope js = true := by decide +kernel) (hs1 : scOk osc scope x = true := by decide +kernel) (hnd : (x :: capN N js).Nodup := by decide +kernel) (hc : X.calm = true := by rfl)
    (hs : ∀ v, foldedSetIterable iter X.env v = pure v := by intro _; rfl) :
    PE X (.ListComp elt [⟨.Name x px, iter, ifs, 0⟩] scope pos) (tLC wi js tt te) := by
  intro pins s σ H Q I h
  obtain ⟨cl, hcl, cl1, cl2⟩ := closure_of (frees_of hs1 hsc I)
  rw [eval_ListComp]
  refine wpAny_comprehension_free (use := none) rfl hs hcl (scOk.kind hs1) (scOk.names hs1) (thn (hi pins s σ H _ I h) fun v s1 h1 => thn h1 fun itv s2 h2 => ?_)
  obtain ⟨it, fp, tn, J, H2, e, I2, T, st2, f2, lp⟩ := h2
  subst e
  refine comp_core (RR := fun acc C => compPost (model X.prog X.w) X.A X.xe none (EP X pins σ Q) acc C) hN hsc hcap hs1 hnd hc (hin cl) I2 T st2 f2 cl1 cl2 lp ?_
  intro D C ys H' s' q nD I' hm hL h0 hce hpi hfree
  refine ⟨hm.choose, hm.choose_spec, fun h' hs' => ⟨.ref D, _, I'.turned (t' := s'.toks) (fun b o hb e => hs'.extBut b o hb e) hfree hL (.inr h0) hce hpi, rfl, q D nD⟩⟩
/-- y = [elt for x in iter if ..], the one-line way -/
theorem ps_lc {wi : TI} {y : Str} {py spos : Pos} {i : Nat} {ps : List Str} (_S : FnScope N ps osc) (js : List Nat) (hn : X.N.Nodup) (hi' : X.N[i]? = some y) (hy : X.env.scope.names.lookup y = some .local) (hi : PI X (.Name x px) iter wi)
    (hin : ∀ cl C s H fp E, PIf (cxC X scope cl C (x :: capN N js) s H fp E) ifs tt ∧ PE (cxC X scope cl C (x :: capN N js) s H fp E) elt te)
    (hN : X.N = N := by rfl) (hsc : X.env.scope = osc := by rfl) (hcap : capOk N osc scope js = true := by decide +kernel) (hs1 : scOk osc scope x = true := by decide +kernel) (hnd : (x :: capN N js).Nodup := by decide +kernel) (hc : X.calm = true := by rfl)
    (hs : ∀ v, foldedSetIterable iter X.env v = pure v := by intro _; rfl)
    (hsw : swapsWith (.ListComp elt [⟨.Name x px, iter, ifs, 0⟩] scope pos) (some (.Name y py)) spos.line X.env = pure true := by rfl) :
    PS X (.Assign [.Name y py] (.ListComp elt [⟨.Name x px, iter, ifs, 0⟩] scope pos) spos) (tAsg (tLC wi js tt te) (gName i)) := by
  intro pins s σ H Dn I h
  obtain ⟨cl, hcl, cl1, cl2⟩ := closure_of (frees_of hs1 hsc I)
  rw [exec_Assign_Name_used _ _ _ _ hsw]
  refine wpAny_bind (wpAny_standAt (wpAny_bind ?_))
  show wpAny _ X.A (do let _ ← comprehension (.ListComp elt [⟨.Name x px, iter, ifs, 0⟩] scope pos) scope X.env _ (newList []) false (eval iter X.env) (some (assign (.Name y py) X.env))) _ _ s
  refine wpAny_bind (wpAny_mono (wpAny_comprehension_free (use := some (assign (.Name y py) X.env)) (Q := fun _ s' => SP X pins Dn .next s') rfl hs hcl (scOk.kind hs1) (scOk.names hs1)
    (thn (hi pins s σ H _ I h) fun v s1 h1 => thn h1 fun itv s2 h2 => ?_)) (fun _ s' hq => wpAny_pure (wpAny_pure hq)) fun _ _ e => e)
  obtain ⟨it, fp, tn, J, H2, e, I2, T, st2, f2, lp⟩ := h2
  subst e
  refine comp_core (RR := fun acc C => compPost (model X.prog X.w) X.A X.xe (some (assign (.Name y py) X.env)) (fun _ s' => SP X pins Dn .next s') acc C) hN hsc hcap hs1 hnd hc (hin cl) I2 T st2 f2 cl1 cl2 lp ?_
  intro D C ys H' s' q nD I' hm hL h0 hce hpi hfree
  show wpAny _ X.A (assign (.Name y py) X.env (.ref D)) _ _ _
  refine wpAny_assign_Name (store_ok2 (v := .ref D) I' hn hi' (.inl hy) rfl (fun s'' I'' hch => ?_) (.inr hy))
  obtain ⟨m, hm⟩ := hm
  obtain ⟨a, sb, ha⟩ := hch
  have hCa : C ≠ a := by
    rcases ha with z | z
    · rw [z]; exact hL
    · exact fun e => hce _ _ z e.symm
  exact ⟨m, hm.sameBut sb hCa, fun h' hs' => ⟨_, _, I''.turned (t' := s''.toks) (fun b o hb e => hs'.extBut b o hb e) hfree hL (.inr h0) hce hpi, q D nD⟩⟩
end
end L2

namespace L2
open PySem PySem.Spec PyProof.Rows

/-! ### isinstance -/
section
variable {X : Cx}
/-- a class as a value -/
inductive ClV : V → Value → Prop where
  | ty (n : String) : ClV (.ty n) (.type n)
  | ref (a : Addr) : ClV (.ref a) (.ref a)
theorem ClV.rel {c : V} {cv u : Value} (h : ClV c cv) (r : RelV c u) : u = cv := by
  cases h with
  | ty n => exact r
  | ref a => exact r
theorem call_isinst : CallR X (.builtin "isinstance") (fun xs H Q => ∃ x c t cv b, xs = [x, c] ∧ ClV c cv ∧ TyOf X.K H x t ∧ PySem.W.kitOne X.K t cv = some b ∧ Q (.bl b) H) := by
  intro pins s σ H xs us Q I r h
  obtain ⟨x, c, t, cv, b, rfl, hc, ht, he, q⟩ := h
  cases r with
  | cons r1 r' =>
    cases r' with
    | cons r2 r'' =>
      cases r''
      obtain rfl := hc.rel r2
      exact isinst_ok I r1 ht he fun tk => ⟨.bl b, H, I.tok tk, rfl, q⟩
/-- a tuple of classes: kitAny's answer, for what the text's own objects are -/
theorem isinst_tup {pins : List (Addr × Obj)} {σ : St} {H : Hp} {s : Shared} {A : Around} {E : Value → Shared → Prop} {Q : Value → Shared → Prop} {x : V} {u t : Value} {tp : Addr} {cs : List V} {cvs : List Value} {b : Bool}
    (I : Inv X pins σ H s) (rx : RelV x u) (ty : TyOf X.K H x t) (ht : H tp = some (.tup cs)) (hcs : Paired ClV cs cvs) (e : PySem.W.kitAny X.K t cvs = some b) (h : ∀ tk, Q (.bool b) { s with toks := tk }) :
    wpAny (model X.prog X.w) A (call (.builtin "isinstance") [u, .ref tp]) Q E s := by
  obtain ⟨_, its, rv, p⟩ := (show ObjOk X.prog X.w H s.heap tp (.tup cs) from I.hok tp _ ht)
  have eits : its = cvs := by
    have : ∀ {cs : List V} {its cvs : List Value}, Vals cs its → Paired ClV cs cvs → its = cvs := by
      intro cs
      induction cs with
      | nil => intro its cvs a b; cases a; cases b; rfl
      | cons c cs ih =>
        intro its cvs a b
        cases a with
        | cons a1 a2 =>
          cases b with
          | cons b1 b2 => rw [b1.rel a1, ih a2 b2]
    exact this rv hcs
  subst eits
  obtain ⟨⟨oc, od, odt, osl⟩, h1, h2, n, h3⟩ := p
  cases h2
  cases h3
  cases ty with
  | non => cases (show u = Value.none from rx); exact PySem.W.kia_tup PySem.W.kitx_none I.kIn True.intro h1 e (fun z => nomatch z) h
  | bl y => cases (show u = Value.bool y from rx); exact PySem.W.kia_tup PySem.W.kitx_bool I.kIn True.intro h1 e (fun z => nomatch z) h
  | int i => obtain ⟨t, q⟩ := (show ∃ t, u = Value.int i t from rx); cases q; exact PySem.W.kia_tup PySem.W.kitx_int I.kIn True.intro h1 e (fun z => nomatch z) h
  | str y => obtain ⟨t, q⟩ := (show ∃ t, u = Value.str y t from rx); cases q; exact PySem.W.kia_tup PySem.W.kitx_str I.kIn True.intro h1 e (fun z => nomatch z) h
  | flt y => obtain ⟨t, q⟩ := (show ∃ t, u = Value.float y t from rx); cases q; exact PySem.W.kia_tup PySem.W.kitx_float I.kIn True.intro h1 e (fun z => nomatch z) h
  | @lst a xs ea =>
    cases (show u = Value.ref a from rx)
    obtain ⟨_, _, n, _, h1'⟩ := (show ObjOk X.prog X.w H s.heap a (.lst xs) from I.hok a _ ea)
    exact PySem.W.kia_tup PySem.W.kitx_list I.kIn ⟨_, h1', rfl⟩ h1 e (fun z => nomatch z) h
  | @frz a ob xs ea =>
    cases (show u = Value.ref a from rx)
    obtain ⟨_, _, _, n, _, h1'⟩ := (show ObjOk X.prog X.w H s.heap a (.frz ob (.lst xs)) from I.hok a _ ea)
    exact PySem.W.kia_tup PySem.W.kitx_list I.kIn ⟨_, h1', rfl⟩ h1 e (fun z => nomatch z) h
  | @tup a xs ea =>
    cases (show u = Value.ref a from rx)
    obtain ⟨_, _, _, p⟩ := (show ObjOk X.prog X.w H s.heap a (.tup xs) from I.hok a _ ea)
    obtain ⟨o, h1', h2, _⟩ := p
    exact PySem.W.kia_tup PySem.W.kitx_tuple I.kIn ⟨o, h1', h2⟩ h1 e (fun z => nomatch z) h
  | @dK a kvs ea =>
    cases (show u = Value.ref a from rx)
    obtain ⟨_, _, vs, _, p⟩ := (show ObjOk X.prog X.w H s.heap a (.dK kvs) from I.hok a _ ea)
    obtain ⟨o, es, ep, h1', h2, _⟩ := p
    exact PySem.W.kia_tup PySem.W.kitx_dict I.kIn ⟨o, h1', h2.1⟩ h1 e (fun z => nomatch z) h
  | @dT a kvs ea =>
    cases (show u = Value.ref a from rx)
    obtain ⟨_, _, xs, _, o, es, ep, h1', h2, _⟩ := (show ObjOk X.prog X.w H s.heap a (.dT kvs) from I.hok a _ ea)
    exact PySem.W.kia_tup PySem.W.kitx_dict I.kIn ⟨o, h1', h2.1⟩ h1 e (fun z => nomatch z) h
  | @ins a C dx fs ea cl ha hn htk hm =>
    cases (show u = Value.ref a from rx)
    obtain ⟨mA, O, _⟩ := ins_get I.hok ea
    obtain ⟨od, J, _⟩ := O.look
    exact PySem.W.kia_tup (PySem.W.kitx_own (cl.get _) cl.hd ha hn htk hm) I.kIn J h1 e (fun z => nomatch z) h
theorem call_isinstT : CallR X (.builtin "isinstance") (fun xs H Q => ∃ x tp cs t cvs b, xs = [x, .ref tp] ∧ H tp = some (.tup cs) ∧ Paired ClV cs cvs ∧ TyOf X.K H x t ∧ PySem.W.kitAny X.K t cvs = some b ∧ Q (.bl b) H) := by
  intro pins s σ H xs us Q I r h
  obtain ⟨x, tp, cs, t, cvs, b, rfl, htp, hcs, ht, he, q⟩ := h
  cases r with
  | cons r1 r' =>
    cases r' with
    | cons r2 r'' =>
      cases r''
      cases r2
      exact isinst_tup I r1 ht htp hcs he fun tk => ⟨.bl b, H, I.tok tk, rfl, q⟩
end

/-! ### == and != of lists and tuples, by what they stand for -/
/-- what == of two values says, at every heap that H describes -/
def EqD (X : Cx) (H : Hp) (d : Nat) (x y : V) (b : Bool) : Prop :=
  ∀ (A : Around) (s : Shared) (pins : List (Addr × Obj)) (σ : St) (u v : Value), Inv X pins σ H s → A.units + d < cLine → RelV x u → RelV y v → SeqAt.EqAt A s u v b
def RcD (X : Cx) (H : Hp) (d : Nat) (x y : V) (b : Bool) : Prop :=
  ∀ (A : Around) (s : Shared) (pins : List (Addr × Obj)) (σ : St) (u v : Value), Inv X pins σ H s → A.units + d < cLine → RelV x u → RelV y v → SeqAt.RcAt A s u v b ∧ SeqAt.RcNeAt A s u v (!b)
/-- R reads data off a value; two values are equal just if their data are -/
structure EqR (X : Cx) (H : Hp) (d : Nat) {α : Type} [DecidableEq α] (R : V → α → Prop) : Prop where
  eq : ∀ x y a b, R x a → R y b → EqD X H d x y (decide (a = b))
  rc : ∀ x y a b, R x a → R y b → RcD X H d x y (decide (a = b))
  one : ∀ x a b, R x a → R x b → (∃ pins σ s, Inv X pins σ H s) → a = b
section
variable {X : Cx} {H : Hp} {d : Nat}
def isI : V → Int → Prop := fun v i => v = .int i
def isB : V → Bool → Prop := fun v i => v = .bl i
theorem EqR.int : EqR X H d isI := ⟨fun x y a b ha hb A s pins σ u v I hu ru rv => by
    cases ha; cases hb
    obtain ⟨t, rfl⟩ := ru
    obtain ⟨t', rfl⟩ := rv
    rw [show decide (a = b) = (a == b) from rfl]
    exact SeqAt.EqAt.int_int a t b t', fun x y a b ha hb A s pins σ u v I hu ru rv => by
    cases ha; cases hb
    obtain ⟨t, rfl⟩ := ru
    obtain ⟨t', rfl⟩ := rv
    rw [show decide (a = b) = (a == b) from rfl]
    exact ⟨SeqAt.RcAt.int_int a t b t', SeqAt.RcNeAt.int_int a t b t'⟩, fun x a b ha hb _ => by cases ha; cases hb; rfl⟩
theorem EqR.bl : EqR X H d isB := ⟨fun x y a b ha hb A s pins σ u v I hu ru rv => by
    cases ha; cases hb
    cases ru; cases rv
    rw [show decide (a = b) = (a == b) by cases a <;> cases b <;> rfl]
    exact SeqAt.EqAt.bool_bool a b, fun x y a b ha hb A s pins σ u v I hu ru rv => by
    cases ha; cases hb
    cases ru; cases rv
    rw [show decide (a = b) = (a == b) by cases a <;> cases b <;> rfl]
    exact ⟨SeqAt.RcAt.bool_bool a b, SeqAt.RcNeAt.bool_bool a b⟩, fun x a b ha hb _ => by cases ha; cases hb; rfl⟩
variable {α : Type} [DecidableEq α] {R : V → α → Prop}
/-- a tuple, a list of what R reads -/
def isT (K : PySem.W.Frag) (H : Hp) (R : V → α → Prop) : V → List α → Prop := fun v as => ∃ a xs, v = .ref a ∧ SqT K H a xs ∧ Paired R xs as
def isL (K : PySem.W.Frag) (H : Hp) (R : V → α → Prop) : V → List α → Prop := fun v as => ∃ a xs, v = .ref a ∧ SqL K H a xs ∧ Paired R xs as
theorem Paired.get {β γ : Type} {F : β → γ → Prop} : ∀ {xs : List β} {ys : List γ} {i : Nat} {x : β}, Paired F xs ys → xs[i]? = some x → ∃ y, ys[i]? = some y ∧ F x y
  | _, _, _, _, .nil, e => by simp at e
  | _, _, 0, _, .cons r _, e => by simp at e; subst e; exact ⟨_, rfl, r⟩
  | _, _, i + 1, x, .cons _ t, e => by
    obtain ⟨u, h1, h2⟩ := Paired.get (i := i) (x := x) t (by simpa using e)
    exact ⟨u, by simpa using h1, h2⟩
theorem paired_one {X : Cx} {H : Hp} {d : Nat} (h : EqR X H d R) (I : ∃ pins σ s, Inv X pins σ H s) : ∀ {xs : List V} {as bs : List α}, Paired R xs as → Paired R xs bs → as = bs
  | _, _, _, .nil, .nil => rfl
  | _, _, _, .cons r t, .cons r' t' => by rw [h.one _ _ _ r r' I, paired_one h I t t']
theorem all_range_eq {as bs : List α} (hl : as.length = bs.length) : (List.range as.length).all (fun j => decide (as[j]? = bs[j]?)) = decide (as = bs) := by
  rw [Bool.eq_iff_iff, List.all_eq_true, decide_eq_true_iff]
  constructor
  · intro h
    apply List.ext_getElem? 
    intro j
    by_cases hj : j < as.length
    · exact of_decide_eq_true (h j (List.mem_range.mpr hj))
    · rw [List.getElem?_eq_none_iff.mpr (by omega), List.getElem?_eq_none_iff.mpr (by omega)]
  · intro h j _
    rw [h]; simp
theorem EqR.tup (h : EqR X H d R) : EqR X H (d + 1) (isT X.K H R) := by
  have rc : ∀ x y a b, isT X.K H R x a → isT X.K H R y b → RcD X H (d + 1) x y (decide (a = b)) := by
    rintro x y as bs ⟨a, xs, rfl, hx, pa⟩ ⟨b, ys, rfl, hy, pb⟩ A s pins σ u v I hu ru rv
    cases ru; cases rv
    obtain ⟨its, r1, t1, _⟩ := I.tuple hx
    obtain ⟨jts, r2, t2, _⟩ := I.tuple hy
    have l1 := r1.length
    have l2 := r2.length
    have l3 := pa.length
    have l4 := pb.length
    have hu1 : A.units < cLine := by omega
    have he : ∀ j (h1 : j < its.toArray.size) (h2 : j < jts.toArray.size), SeqAt.EqAt A.in1 s its.toArray[j] jts.toArray[j] (decide (as[j]? = bs[j]?)) := fun j h1 h2 => by
      simp only [List.size_toArray] at h1 h2
      obtain ⟨xv, ex⟩ : ∃ xv, xs[j]? = some xv := ⟨xs[j]'(by omega), List.getElem?_eq_getElem (by omega)⟩
      obtain ⟨yv, ey⟩ : ∃ yv, ys[j]? = some yv := ⟨ys[j]'(by omega), List.getElem?_eq_getElem (by omega)⟩
      obtain ⟨u1, q1, w1⟩ := r1.get ex
      obtain ⟨u2, q2, w2⟩ := r2.get ey
      obtain ⟨a1, p1, z1⟩ := Paired.get pa ex
      obtain ⟨a2, p2, z2⟩ := Paired.get pb ey
      have g1 : its.toArray[j]'(by simpa using h1) = u1 := by
        have := List.getElem?_eq_some_iff.mp q1
        simpa using this.2
      have g2 : jts.toArray[j]'(by simpa using h2) = u2 := by
        have := List.getElem?_eq_some_iff.mp q2
        simpa using this.2
      rw [g1, g2, p1, p2]
      have := h.eq xv yv a1 a2 z1 z2 A.in1 s pins σ u1 u2 I (by show A.units + 1 + d < cLine; omega) w1 w2
      rw [show decide (some a1 = some a2) = decide (a1 = a2) by simp]
      exact this
    have hb : ((List.range (min its.toArray.size jts.toArray.size)).all (fun j => decide (as[j]? = bs[j]?)) && its.toArray.size == jts.toArray.size) = decide (as = bs) := by
      simp only [List.size_toArray]
      by_cases hl : as.length = bs.length
      · have e1 : its.length = jts.length := by omega
        have e2 : min its.length jts.length = as.length := by omega
        rw [e2, all_range_eq hl, e1]; simp
      · have : (its.length == jts.length) = false := by simp; omega
        rw [this, Bool.and_false]
        exact (decide_eq_false fun e => hl (by rw [e])).symm
    have z1 := SeqAt.RcAt.tuples (A := A) (s := s) t1 t2 hu1 he
    have z2 := SeqAt.RcNeAt.tuples (A := A) (s := s) t1 t2 hu1 he
    rw [hb] at z1 z2
    exact ⟨z1, z2⟩
  refine ⟨?_, rc, ?_⟩
  · rintro x y as bs hx hy A s pins σ u v I hu ru rv
    obtain ⟨a, xs, rfl, hx', pa⟩ := id hx
    obtain ⟨b, ys, rfl, hy', pb⟩ := id hy
    cases ru; cases rv
    by_cases e : a = b
    · subst e
      have : xs = ys := I.tuple_inj hx' hy'
      subst this
      rw [paired_one h ⟨pins, σ, s, I⟩ pa pb, decide_eq_true rfl]
      exact SeqAt.EqAt.same _
    · exact SeqAt.EqAt.of_refs e (rc _ _ as bs hx hy A s pins σ _ _ I hu rfl rfl).1
  · rintro x as bs ⟨a, xs, rfl, hx, pa⟩ ⟨b, ys, e, hy, pb⟩ ⟨pins, σ, s, I⟩
    cases e
    have : xs = ys := I.tuple_inj hx hy
    subst this
    exact paired_one h ⟨pins, σ, s, I⟩ pa pb
theorem EqR.lst (h : EqR X H d R) : EqR X H (d + 1) (isL X.K H R) := by
  have rc : ∀ x y a b, isL X.K H R x a → isL X.K H R y b → RcD X H (d + 1) x y (decide (a = b)) := by
    rintro x y as bs ⟨a, xs, rfl, hx, pa⟩ ⟨b, ys, rfl, hy, pb⟩ A s pins σ u v I hu ru rv
    cases ru; cases rv
    obtain ⟨its, r1, t1, _⟩ := I.list hx
    obtain ⟨jts, r2, t2, _⟩ := I.list hy
    have l1 := r1.length
    have l2 := r2.length
    have l3 := pa.length
    have l4 := pb.length
    have hu1 : A.units < cLine := by omega
    by_cases hl : as.length = bs.length
    · have he : ∀ j (h1 : j < its.toArray.size) (h2 : j < jts.toArray.size), SeqAt.EqAt A.in1 s its.toArray[j] jts.toArray[j] (decide (as[j]? = bs[j]?)) := fun j h1 h2 => by
        simp only [List.size_toArray] at h1 h2
        obtain ⟨xv, ex⟩ : ∃ xv, xs[j]? = some xv := ⟨xs[j]'(by omega), List.getElem?_eq_getElem (by omega)⟩
        obtain ⟨yv, ey⟩ : ∃ yv, ys[j]? = some yv := ⟨ys[j]'(by omega), List.getElem?_eq_getElem (by omega)⟩
        obtain ⟨u1, q1, w1⟩ := r1.get ex
        obtain ⟨u2, q2, w2⟩ := r2.get ey
        obtain ⟨a1, p1, z1⟩ := Paired.get pa ex
        obtain ⟨a2, p2, z2⟩ := Paired.get pb ey
        have g1 : its.toArray[j]'(by simpa using h1) = u1 := by
          have := List.getElem?_eq_some_iff.mp q1
          simpa using this.2
        have g2 : jts.toArray[j]'(by simpa using h2) = u2 := by
          have := List.getElem?_eq_some_iff.mp q2
          simpa using this.2
        rw [g1, g2, p1, p2]
        have := h.eq xv yv a1 a2 z1 z2 A.in1 s pins σ u1 u2 I (by show A.units + 1 + d < cLine; omega) w1 w2
        rw [show decide (some a1 = some a2) = decide (a1 = a2) by simp]
        exact this
      have hsz : its.toArray.size = jts.toArray.size := by simp; omega
      have hb : (List.range its.toArray.size).all (fun j => decide (as[j]? = bs[j]?)) = decide (as = bs) := by
        simp only [List.size_toArray]
        rw [show its.length = as.length by omega, all_range_eq hl]
      have z1 := SeqAt.RcAt.lists (A := A) (s := s) t1.isList t2.isList hsz hu1 he
      have z2 := SeqAt.RcNeAt.lists (A := A) (s := s) t1.isList t2.isList hsz hu1 he
      rw [hb] at z1 z2
      exact ⟨z1, z2⟩
    · have hsz : (its.toArray.size != jts.toArray.size) = true := by simp; omega
      rw [decide_eq_false fun e => hl (by rw [e])]
      exact ⟨SeqAt.RcAt.lists_lengths t1.isList t2.isList hsz hu1, SeqAt.RcNeAt.lists_lengths t1.isList t2.isList hsz hu1⟩
  refine ⟨?_, rc, ?_⟩
  · rintro x y as bs hx hy A s pins σ u v I hu ru rv
    obtain ⟨a, xs, rfl, hx', pa⟩ := id hx
    obtain ⟨b, ys, rfl, hy', pb⟩ := id hy
    cases ru; cases rv
    by_cases e : a = b
    · subst e
      have : xs = ys := I.list_inj hx' hy'
      subst this
      rw [paired_one h ⟨pins, σ, s, I⟩ pa pb, decide_eq_true rfl]
      exact SeqAt.EqAt.same _
    · exact SeqAt.EqAt.of_refs e (rc _ _ as bs hx hy A s pins σ _ _ I hu rfl rfl).1
  · rintro x as bs ⟨a, xs, rfl, hx, pa⟩ ⟨b, ys, e, hy, pb⟩ ⟨pins, σ, s, I⟩
    cases e
    have : xs = ys := I.list_inj hx hy
    subst this
    exact paired_one h ⟨pins, σ, s, I⟩ pa pb
/-- x == y, x != y -/
def rEqD (X : Cx) : R2 := fun x y H Q => ∃ b, RcD X H 20 x y b ∧ Q (.bl b) H
def rNeD (X : Cx) : R2 := fun x y H Q => ∃ b, RcD X H 20 x y b ∧ Q (.bl (!b)) H
theorem op_eqD (hu : X.A.units + 20 < cLine) : OpR X (compareOp .Eq) (rEqD X) := by
  intro pins s σ H x y v u Q I rx ry h
  obtain ⟨b, hb, q⟩ := h
  exact (hb X.A s pins σ v u I hu rx ry).1 X.prog X.w X.xe _ ⟨.bl b, H, I, rfl, q⟩
theorem op_neD (hu : X.A.units + 20 < cLine) : OpR X (compareOp .NotEq) (rNeD X) := by
  intro pins s σ H x y v u Q I rx ry h
  obtain ⟨b, hb, q⟩ := h
  exact (hb X.A s pins σ v u I hu rx ry).2 X.prog X.w X.xe _ ⟨.bl (!b), H, I, rfl, q⟩
open Classical in
open Classical in
end
end L2

namespace L2
open PySem PySem.Spec PyProof.Rows
section
variable {X : Cx} {pins : List (Addr × Obj)} {σ : St} {H : Hp} {s : Shared} {h' : Heap}
/-- several untracked records of ours have turned -/
theorem Inv.turnedL {t' : Nat} {ch : List Addr} (I : Inv X pins σ H s) (k : ∀ b o, b ∉ ch → s.heap.get? b = some o → h'.get? b = some o) (hf : ∀ b ∈ ch, FpOk X pins H b) : Inv X pins σ H { s with heap := h', toks := t' } := by
  have nit : ∀ b u, H b = some u → b ∉ ch := fun b u e z => by rw [(hf b z).1] at e; cases e
  refine I.step (g' := s.gens) (d' := s.drawn) (ch := ch) (fun b hb => ?_) (fun b o _ _ hc e _ => k b o hc e) (fun b o _ _ hc e _ => ⟨o.slots, k b o hc e⟩) (fun _ _ _ _ n => n)
    (fun b o hc e => ⟨o, k b o hc e⟩) (fun _ _ e => e) (fun _ _ _ e => e) (fun b ps e => ⟨#[], by rw [e]; simp⟩) (fun m hm => ?_) (fun b u e => ?_) I.bare
  · obtain ⟨_, a2, _, a4, a5, a6⟩ := hf b hb
    exact ⟨a4, a2, a5, a6⟩
  · obtain ⟨o, es, ep, ho, r⟩ := hm
    exact ⟨o, es, ep, k _ o (fun z => (hf _ z).2.1 rfl) ho, r⟩
  · refine (I.hok b u e).stay (fun c v hc q => k c v ?_ q) (fun _ q => q) fun _ _ q => q
    rcases hc with z | z
    · rw [z]; exact nit b u e
    · exact nit c _ z
/-- an object of ours that stood untracked is tracked from now on -/
theorem Inv.track {a : Addr} {o : HO} {t' : Nat} (I : Inv X pins σ H s) (hf : FpOk X pins H a) (new : ObjOk X.prog X.w (upd H a o) s.heap a o) : Inv X pins σ (upd H a o) { s with toks := t' } := by
  have hn := hf.1
  refine I.step (h' := s.heap) (g' := s.gens) (d' := s.drawn) (ch := [a]) (fun b hb => ?_) (fun b o _ _ _ e _ => e) (fun b o _ _ _ e _ => ⟨o.slots, e⟩) (fun b ob hc e n => ?_)
    (fun b o _ e => ⟨o, e⟩) (fun b xs e => by rw [upd_ne (ne_of_none e hn)]; exact e) (fun b ob u e => by rw [upd_ne (ne_of_none e hn)]; exact e) (fun b ps e => ⟨#[], by rw [upd_ne (ne_of_none e hn), e]; simp⟩) (fun m hm => hm) (I.hok.track hn new) I.bare
  · have e : b = a := by simpa using hb
    subst e
    obtain ⟨_, a2, _, a4, a5, a6⟩ := hf
    exact ⟨a4, a2, a5, a6⟩
  · rw [upd_ne (fun z => hc (by simp [z]))]; exact n
end

/-! ### for a, b in zip(l, m) of two lists -/
def Itz (K : PySem.W.Frag) (l1 l2 : Addr) : It :=
  ⟨fun i H => ∃ xs ys x y, SqL K H l1 xs ∧ SqL K H l2 ys ∧ xs[i]? = some x ∧ ys[i]? = some y,
   fun i H v H' => ∃ T x y, v = .ref T ∧ H T = none ∧ H' = upd H T (.tup [x, y]) ∧ (∀ xs, SqL K H l1 xs → xs[i]? = some x) ∧ (∀ ys, SqL K H l2 ys → ys[i]? = some y),
   fun i H => ∃ xs ys, SqL K H l1 xs ∧ SqL K H l2 ys ∧ (xs.length ≤ i ∨ ys.length ≤ i)⟩
theorem turn_zip {P : Program} {w : World} {K : PySem.W.Frag} {es : List Expr} {k : Nat} {pos : Pos} {z TI TO i1 i2 l1 l2 : Addr} (D : ZipApart z TI TO i1 i2 l1 l2) :
    Turn P w K (.Tuple es k pos) (Itz K l1 l2) [z, TI, TO, i1, i2] z (fun i h => IsZip h z TI TO .none ∧ IsPair h TI (.ref i1) (.ref i2) ∧ (∃ a b, IsPair h TO a b) ∧ h.IsListIter i1 l1 i ∧ h.IsListIter i2 l2 i) where
  mem := by simp
  obj := fun i h st b hb => by
    obtain ⟨hz, hTI, ⟨a', b', hTO⟩, ⟨o1, e1, c1, d1⟩, ⟨o2, e2, c2, d2⟩⟩ := st
    simp only [List.mem_cons, List.not_mem_nil, or_false] at hb
    rcases hb with rfl | rfl | rfl | rfl | rfl
    · exact ⟨_, hz, fun v z => nomatch z⟩
    · exact ⟨_, hTI, fun v z => nomatch z⟩
    · exact ⟨_, hTO, fun v z => nomatch z⟩
    · exact ⟨o1, e1, fun v z => by rw [d1] at z; cases z⟩
    · exact ⟨o2, e2, fun v z => by rw [d2] at z; cases z⟩
  keep := fun i h h' st kk => by
    obtain ⟨hz, hTI, ⟨a', b', hTO⟩, h1, h2⟩ := st
    exact ⟨kk z (by simp) _ hz, kk TI (by simp) _ hTI, ⟨a', b', kk TO (by simp) _ hTO⟩, h1.at fun o e => kk i1 (by simp) o e, h2.at fun o e => kk i2 (by simp) o e⟩
  item := by
    intro X hP hw hK hc i pins s σ H E I hf st hg
    subst hP hw hK
    obtain ⟨xs, ys, x, y, hq1, hq2, hx, hy⟩ := hg
    obtain ⟨its, rv, p1, _⟩ := I.list hq1
    obtain ⟨jts, rw', p2, _⟩ := I.list hq2
    obtain ⟨u1, hu1, ru1⟩ := rv.get hx
    obtain ⟨u2, hu2, ru2⟩ := rw'.get hy
    obtain ⟨hz, hTI, ⟨a, b, hTO⟩, h1, h2⟩ := st
    refine wpAny_pyNext_zip_item D hz hTI hTO h1 h2 p1.isList p2.isList (x := u1) (y := u2) (by simpa using hu1) (by simpa using hu2) fun h' a1 a2 a3 a4 a5 a6 hk => ?_
    refine ⟨_, rfl, wpAny_letOwnedTupleGo_zip a1 fun h'' hz'' hs'' => ?_⟩
    have hne : ∀ c, c ∈ [z, TI, TO, i1, i2] → s.heap.objs.size ≠ c := fun c hc => by
      have : ∃ o, s.heap.get? c = some o := by
        simp only [List.mem_cons, List.not_mem_nil, or_false] at hc
        obtain ⟨o1, e1, _⟩ := id h1
        obtain ⟨o2, e2, _⟩ := id h2
        rcases hc with rfl | rfl | rfl | rfl | rfl
        · exact ⟨_, hz⟩
        · exact ⟨_, hTI⟩
        · exact ⟨_, hTO⟩
        · exact ⟨_, e1⟩
        · exact ⟨_, e2⟩
      obtain ⟨o, e⟩ := this
      exact Nat.ne_of_gt (Heap.lt_size e)
    have I1 : Inv X pins σ H { s with heap := h'' } := I.turnedL (t' := s.toks) (ch := [z, TI, TO, i1, i2]) (fun c o hc e => hs''.extBut _ _ (fun q => hc (by simp [q])) (hk c o (fun q => hc (by simp [q])) (fun q => hc (by simp [q])) (fun q => hc (by simp [q])) (fun q => hc (by simp [q])) e)) hf
    have hT : h''.get? s.heap.objs.size = some { cls := .type "tuple", data := .seq #[u1, u2] } := hs''.extBut _ _ (hne z (by simp)) a5
    have I2 : Inv X pins σ (upd H s.heap.objs.size (.tup [x, y])) { s with heap := h'' } := I1.track (t' := s.toks) (I.fpOk (Nat.le_refl _) (I.hok.fresh (Nat.le_refl _))) ⟨by show 2 ≤ sizeLine; decide, [u1, u2], .cons ru1 (.cons ru2 .nil), ⟨_, hT, rfl, _, rfl⟩⟩
    refine ⟨.ref s.heap.objs.size, _, I2, rfl, ⟨_, x, y, rfl, I.hok.fresh (Nat.le_refl _), rfl, fun xs' h => by rw [I.list_inj h hq1]; exact hx, fun ys' h => by rw [I.list_inj h hq2]; exact hy⟩, ⟨hz'', hs''.extBut _ _ D.TIz (hk _ _ D.TIz D.TITO D.TIi1 D.TIi2 hTI), ⟨_, _, hs''.extBut _ _ D.TOz a2⟩, a3.extBut hs''.extBut D.i1z, a4.extBut hs''.extBut D.i2z⟩, fun c hc => ?_⟩
    rw [upd_ne (Ne.symm (hne c hc))]
    exact (hf c hc).1
  done := by
    intro X hP hw hK hc i pins s σ H E I hf st hg
    subst hP hw hK
    obtain ⟨xs, ys, hq1, hq2, hx⟩ := hg
    obtain ⟨its, rv, p1, _⟩ := I.list hq1
    obtain ⟨jts, rw', p2, _⟩ := I.list hq2
    obtain ⟨hz, hTI, ⟨a, b, hTO⟩, h1, h2⟩ := st
    have l1 := rv.length
    have l2 := rw'.length
    refine wpAny_pyNext_zip_end (I.ok.hd hc) D hz hTI hTO h1 h2 p1.isList p2.isList ?_ fun h' hk => ⟨rfl, ?_⟩
    · rcases hx with z | z
      · exact .inl (by simp; omega)
      · exact .inr (by simp; omega)
    · exact I.turnedL (t' := s.toks) (ch := [z, TI, TO, i1, i2]) (fun c o hc e => hk c o (fun q => hc (by simp [q])) (fun q => hc (by simp [q])) (fun q => hc (by simp [q])) (fun q => hc (by simp [q])) e) hf
  self := fun _ _ _ _ _ st h => wpAny_pyIter_zip st.1 h
def iZip (K : PySem.W.Frag) (ta : TA) : TI := fun σ H R => ta σ H fun vs H1 => ∃ l1 l2 xs ys, vs = [.ref l1, .ref l2] ∧ SqL K H1 l1 xs ∧ SqL K H1 l2 ys ∧ R (Itz K l1 l2) H1
theorem pi_zip {X : Cx} {a b : Expr} {ta : TA} {p pos : Pos} {es : List Expr} {k : Nat} {pt : Pos} (hg : Gl X "zip") (hm : X.mg "zip" = none) (ha : PA X [a, b] ta)
    (hs : starEach [a, b] X.env = [(false, eval a X.env), (false, eval b X.env)] := by rfl) (hs2 : starEach [b] X.env = [(false, eval b X.env)] := by rfl) (hv : bootBuiltins "zip" = some (.type "zip") := by decide +kernel) :
    PI X (.Tuple es k pt) (.Call (.Name "zip" p) [a, b] [] pos) (iZip X.K ta) := by
  intro pins s σ H R I h
  refine Call_ (ld_blt I hg hm hv (PyProof.Rows.callWith_type1 (thn (ha pos pins s σ H _ I h) fun us s1 ⟨vs, H1, I1, r1, q1⟩ => ?_) (by rw [hs, hs2]) (by rw [hs2]; rfl)))
  obtain ⟨l1, l2, xs, ys, e, hq1, hq2, q⟩ := q1
  subst e
  cases r1 with
  | cons r rr =>
    cases rr with
    | cons r' rr =>
      cases rr
      cases r
      cases r'
      obtain ⟨its, rv, p1, _⟩ := I1.list hq1
      obtain ⟨jts, rw', p2, _⟩ := I1.list hq2
      have lt1 : l1 < s1.heap.objs.size := by obtain ⟨o, n, e, _⟩ := p1; exact Heap.lt_size e
      have lt2 : l2 < s1.heap.objs.size := by obtain ⟨o, n, e, _⟩ := p2; exact Heap.lt_size e
      refine call_zip_2 p1.isList p2.isList fun h' hz hTI hTO hi1 hi2 hsz hk => wpAny_pyIter_zip hz ?_
      refine ⟨_, [_, _, _, _, _], _, Itz X.K l1 l2, H1, rfl, I1.kept (t' := s1.toks) hk, turn_zip (zipApart_new lt1 lt2), ⟨hz, hTI, ⟨_, _, hTO⟩, hi1, hi2⟩, fun b hb => ?_, q⟩
      have hb' : s1.heap.objs.size ≤ b := by
        simp only [List.mem_cons, List.not_mem_nil, or_false] at hb
        rcases hb with rfl | rfl | rfl | rfl | rfl <;> omega
      exact I1.fpOk hb' (I1.hok.fresh hb')
theorem for_zip {K : PySem.W.Frag} {l1 l2 : Addr} {xs ys : List V} {g : TG} {tb : TS} {D : Ends} {σ : St} {H : Hp} (hlen : xs.length = ys.length) (Pv : Nat → St → Hp → Prop) (h0 : Pv 0 σ H) (hl : ∀ i σ H, i ≤ xs.length → Pv i σ H → SqL K H l1 xs ∧ SqL K H l2 ys)
    (hs : ∀ i x y T σ H, xs[i]? = some x → ys[i]? = some y → H T = none → Pv i σ H → g (.ref T) σ (upd H T (.tup [x, y])) fun σ2 H2 => tb { D with nx := Pv (i + 1), ct := Pv (i + 1), bk := D.nx } σ2 H2) (hd : ∀ σ H, Pv xs.length σ H → D.nx σ H) :
    ∃ W : Nat → Nat → St → Hp → Prop, (∃ m, W 0 m σ H) ∧ ∀ i m σ H, W i m σ H →
      ((Itz K l1 l2).stop i H ∧ D.nx σ H) ∨ ((Itz K l1 l2).go i H ∧ ∃ N : St → Hp → Prop, (∀ σ' H', N σ' H' → ∃ m', m' < m ∧ W (i + 1) m' σ' H') ∧ ∀ x H', (Itz K l1 l2).yld i H x H' → g x σ H' fun σ2 H2 => tb { D with nx := N, ct := N, bk := D.nx } σ2 H2) := by
  refine ⟨fun i m σ H => m = xs.length - i ∧ i ≤ xs.length ∧ Pv i σ H, ⟨xs.length, by simp, Nat.zero_le _, h0⟩, ?_⟩
  rintro i m σ H ⟨rfl, hi, p⟩
  obtain ⟨q1, q2⟩ := hl i σ H hi p
  by_cases hlt : i < xs.length
  · refine .inr ⟨⟨xs, ys, xs[i], ys[i], q1, q2, by simp [hlt], by simp [← hlen, hlt]⟩, Pv (i + 1), fun σ' H' p' => ⟨xs.length - (i + 1), by omega, rfl, hlt, p'⟩, fun x H' y => ?_⟩
    obtain ⟨T, a, b, e1, hn, e2, ya, yb⟩ := y
    subst e1 e2
    exact hs i a b T σ _ (ya xs q1) (yb ys q2) hn p
  · have e : i = xs.length := by omega
    subst e
    exact .inl ⟨⟨xs, ys, q1, q2, .inl (Nat.le_refl _)⟩, hd σ H p⟩

/-! ### the comprehension's forms -/
theorem lc_range {lo : Int} {n : Nat} {cap : St} {tt : TT} {te : TE} {H : Hp} {P : List V → Hp → Prop} (Pv : Nat → List V → Hp → Prop) (h0 : Pv 0 [] H) (hn : n < sizeLine) (hb : ∀ i ys H, Pv i ys H → ys.length ≤ i)
    (hs : ∀ i ys H, i < n → Pv i ys H → tt (some (.int (lo + i)) :: cap) H fun b H3 => if b = true then te (some (.int (lo + i)) :: cap) H3 fun v H4 => Pv (i + 1) (ys ++ [v]) H4 else Pv (i + 1) ys H3) (hd : ∀ ys H, Pv n ys H → P ys H) :
    LcLoop (Itr lo n) cap tt te H P := by
  refine ⟨fun i m ys H => m = n - i ∧ i ≤ n ∧ Pv i ys H, ⟨n, by simp, Nat.zero_le _, h0⟩, ?_⟩
  rintro i m ys H ⟨rfl, hi, p⟩
  have hl := hb i ys H p
  by_cases hlt : i < n
  · refine .inr ⟨hlt, by omega, Pv (i + 1), fun σ' H' p' => ⟨n - (i + 1), by omega, rfl, hlt, p'⟩, fun x H' y => ?_⟩
    obtain ⟨e, y⟩ := y
    subst e y
    exact hs i ys _ hlt p
  · have e : i = n := by omega
    subst e
    exact .inl ⟨Nat.le_refl _, by omega, hd ys H p⟩
theorem lc_list {K : PySem.W.Frag} {a : Addr} {xs : List V} {cap : St} {tt : TT} {te : TE} {H : Hp} {P : List V → Hp → Prop} (Pv : Nat → List V → Hp → Prop) (h0 : Pv 0 [] H) (hn : xs.length < sizeLine) (hb : ∀ i ys H, Pv i ys H → ys.length ≤ i) (hl : ∀ i ys H, i ≤ xs.length → Pv i ys H → SqL K H a xs)
    (hs : ∀ i x ys H, xs[i]? = some x → Pv i ys H → tt (some x :: cap) H fun b H3 => if b = true then te (some x :: cap) H3 fun v H4 => Pv (i + 1) (ys ++ [v]) H4 else Pv (i + 1) ys H3) (hd : ∀ ys H, Pv xs.length ys H → P ys H) :
    LcLoop (Itl K a) cap tt te H P := by
  refine ⟨fun i m ys H => m = xs.length - i ∧ i ≤ xs.length ∧ Pv i ys H, ⟨xs.length, by simp, Nat.zero_le _, h0⟩, ?_⟩
  rintro i m ys H ⟨rfl, hi, p⟩
  have hyl := hb i ys H p
  have q := hl i ys H hi p
  by_cases hlt : i < xs.length
  · refine .inr ⟨⟨xs, xs[i], q, by simp [hlt]⟩, by omega, Pv (i + 1), fun σ' H' p' => ⟨xs.length - (i + 1), by omega, rfl, hlt, p'⟩, fun x H' y => ?_⟩
    obtain ⟨e, y⟩ := y
    subst e
    exact hs i x ys _ (y xs q) p
  · have e : i = xs.length := by omega
    subst e
    exact .inl ⟨⟨xs, q, Nat.le_refl _⟩, by omega, hd ys H p⟩
theorem lc_tup {K : PySem.W.Frag} {a : Addr} {xs : List V} {cap : St} {tt : TT} {te : TE} {H : Hp} {P : List V → Hp → Prop} (Pv : Nat → List V → Hp → Prop) (h0 : Pv 0 [] H) (hn : xs.length < sizeLine) (hb : ∀ i ys H, Pv i ys H → ys.length ≤ i) (hl : ∀ i ys H, i ≤ xs.length → Pv i ys H → SqT K H a xs)
    (hs : ∀ i x ys H, xs[i]? = some x → Pv i ys H → tt (some x :: cap) H fun b H3 => if b = true then te (some x :: cap) H3 fun v H4 => Pv (i + 1) (ys ++ [v]) H4 else Pv (i + 1) ys H3) (hd : ∀ ys H, Pv xs.length ys H → P ys H) :
    LcLoop (Itt K a) cap tt te H P := by
  refine ⟨fun i m ys H => m = xs.length - i ∧ i ≤ xs.length ∧ Pv i ys H, ⟨xs.length, by simp, Nat.zero_le _, h0⟩, ?_⟩
  rintro i m ys H ⟨rfl, hi, p⟩
  have hyl := hb i ys H p
  have q := hl i ys H hi p
  by_cases hlt : i < xs.length
  · refine .inr ⟨⟨xs, xs[i], q, by simp [hlt]⟩, by omega, Pv (i + 1), fun σ' H' p' => ⟨xs.length - (i + 1), by omega, rfl, hlt, p'⟩, fun x H' y => ?_⟩
    obtain ⟨e, y⟩ := y
    subst e
    exact hs i x ys _ (y xs q) p
  · have e : i = xs.length := by omega
    subst e
    exact .inl ⟨⟨xs, q, Nat.le_refl _⟩, by omega, hd ys H p⟩

/-! ### defs, methods, classes in one piece -/
section
variable (P : Program) (w : World) (K : PySem.W.Frag) (mg : Str → Option Value) (base : Heap) (k : Nat)
def FnB (x : Str) (ps : List Str) (sp : Sp) : Prop := ∃ f fd, FnOk P w K mg base CX0 k f fd ps sp ∧ mg x = some (.ref f) ∧ PySem.W.keepIn K (.ref f) = true ∧ Binds K fd ps []
def MeB (C : Addr) (m : Str) (ps : List Str) (sp : Sp) : Prop := ∃ f fd, FnOk P w K mg base CX0 k f fd ps sp ∧ Meth K C m f ∧ Binds K fd ps [] ∧ Cls K C
def MkB (x : Str) (C : Addr) (ps : List Str) (sp : Sp) : Prop := ∃ f fd, FnOk P w K mg base CX0 k f fd ps sp ∧ mg x = some (.ref C) ∧ Mk K C f ∧ Binds K fd ps []
end
section
variable {X : Cx} {k : Nat} {x m : Str} {C : Addr} {ps : List Str} {sp : Sp} {p pos apos : Pos} {e o : Expr} {es : List Expr} {ta : TE} {t : TA}
theorem pe_fn (F : FnB X.prog X.w X.K X.mg X.base k x ps sp) (hr : Room k X.A) (ha : PA X (e :: es) t) (hg : Gl X x := by rfl) (hdb : (x == ("__debug__" : Str)) = false := by decide) (he : starEach (e :: es) X.env = (false, eval e X.env) :: starEach es X.env := by rfl) (hpl : (backTo pos (starEach es X.env)).any (·.1) = false := by rfl) :
    PE X (.Call (.Name x p) (e :: es) [] pos) (tCall sp [] E0 t) := by
  obtain ⟨f, fd, F, hm, hk, hb⟩ := F
  exact pe_call F hr hg hm hk hb .nil pass0 ha hdb he hpl
theorem pe_me {pl : Sem Bool} (M : MeB X.prog X.w X.K X.mg X.base k C m ps sp) (he : PE X o ta) (hr : Room k X.A) (ha : PA X (e :: es) t)
    (hst : starEach (e :: es) X.env = (false, eval e X.env) :: starEach es X.env := by rfl) (hpl : (backTo pos (starEach es X.env)).any (·.1) = false := by rfl)
    (ht : eval (.Call (.Attribute o m apos) (e :: es) [] pos) X.env = (do
      let ov ← eval o X.env
      standAt apos.atName
      let (f, first) ← holding [ov] (getMethod ov m pl)
      callWith pos f first (backTo pos (starEach (e :: es) X.env)) (backToKw pos (keywordEach [] X.env))) := by rfl) :
    PE X (.Call (.Attribute o m apos) (e :: es) [] pos) (tMeth C m sp [] E0 ta t) := by
  obtain ⟨f, fd, F, hm, hb, hc⟩ := M
  exact pe_meth he hc hm F hr hb .nil pass0 ha hst hpl ht
theorem pe_me0 {pl : Sem Bool} (M : MeB X.prog X.w X.K X.mg X.base k C m ps sp) (he : PE X o ta) (hr : Room k X.A)
    (ht : eval (.Call (.Attribute o m apos) [] [] pos) X.env = (do
      let ov ← eval o X.env
      standAt apos.atName
      let (f, first) ← holding [ov] (getMethod ov m pl)
      callWith pos f first (backTo pos (starEach [] X.env)) (backToKw pos (keywordEach [] X.env))) := by rfl) :
    PE X (.Call (.Attribute o m apos) [] [] pos) (tMeth C m sp [] E0 ta tNil) := by
  obtain ⟨f, fd, F, hm, hb, hc⟩ := M
  exact pe_meth0 he hc hm F hr hb .nil pass0 ht
theorem pe_mk (M : MkB X.prog X.w X.K X.mg X.base k x C ps sp) (hr : Room (k + 1) X.A) (ha : PA X (e :: es) t) (hg : Gl X x := by rfl) (hdb : (x == ("__debug__" : Str)) = false := by decide) (he : starEach (e :: es) X.env = (false, eval e X.env) :: starEach es X.env := by rfl) (hpl : (backTo pos (starEach es X.env)).any (·.1) = false := by rfl) :
    PE X (.Call (.Name x p) (e :: es) [] pos) (tMake C sp [] E0 t) := by
  obtain ⟨f, fd, F, hm, hM, hb⟩ := M
  exact pe_make hM F hr hg hm hb .nil pass0 ha hdb he hpl
end
theorem Room.u20 {k : Nat} {A : Around} (r : Room k A) : A.units + 20 < cLine := by have := r.un; omega
theorem Same.new {H : Hp} {a : Addr} {o : HO} (h : H a = none) : Same H (upd H a o) := fun b u e => by rw [upd_ne (ne_of_none e h)]; exact e
theorem Same.lay {H H' : Hp} {a : Addr} {o : HO} (s : Same H H') (h : H' a = none) : Same H (upd H' a o) := s.trans (Same.new h)
/-- an object that was not there is changed -/
theorem Same.put {H H' : Hp} {a : Addr} {o : HO} (s : Same H H') (h : H a = none) : Same H (upd H' a o) := fun b u e => by rw [upd_ne (ne_of_none e h)]; exact s b u e

/-- t + u of two tuples, either may be empty -/
def rCatU : R2 := fun x y H Q => ∃ a b xs ys, x = .ref a ∧ y = .ref b ∧ H a = some (.tup xs) ∧ H b = some (.tup ys) ∧ xs.length + ys.length ≤ sizeLine ∧ ∀ p H', Same H H' → H' p = some (.tup (xs ++ ys)) → Q (.ref p) H'
theorem op_catU {X : Cx} : OpR X (binaryOp .Add) rCatU := by
  intro pins s σ H x y v u Q I rx ry h
  obtain ⟨a, b, xs, ys, rfl, rfl, ha, hb, hz, q⟩ := h
  by_cases hx : xs = []
  · subst hx
    cases rx
    cases ry
    obtain ⟨its, r1, p1, _⟩ := I.tuple (SqT.of (K := X.K) ha)
    obtain ⟨its2, r2, p2, _⟩ := I.tuple (SqT.of (K := X.K) hb)
    cases r1
    obtain ⟨⟨cls, dd, data, sl⟩, ho, hc, n, hd⟩ := id p1
    obtain ⟨⟨cls2, dd2, data2, sl2⟩, ho2, hc2, n2, hd2⟩ := id p2
    simp only at hc hd hc2 hd2
    subst hc hd hc2 hd2
    refine concat_meets ⟨_, ho, rfl⟩ ⟨_, ho2, rfl⟩ noFill_tuple_add seq_tuple_add PySem.F.slot_tuple_add PySem.F.entry_tuple_add (PySem.F.args_tuple_add_2 _ _)
      (tuple_addW0 a b _ _ n n2 dd dd2 sl sl2 (by simp)) ⟨ho, ho2, ⟨.ref b, H, I, rfl, q b H (Same.refl _) (by simpa using hb)⟩⟩
  · refine op_catT pins s σ H (.ref a) (.ref b) v u Q I rx ry ⟨a, b, xs, ys, rfl, rfl, SqT.of ha, SqT.of hb, hx, hz, fun e => ?_, fun e p hp => ?_⟩
    · subst e
      exact q a H (Same.refl _) (by simpa using ha)
    · exact q p _ (Same.new hp) upd_same
end L2

namespace L2
open PySem PySem.Spec PyProof.Rows
section
variable {X : Cx} {k : Nat} {x m : Str} {ps : List Str} {sp : Sp} {p pos apos : Pos} {e o : Expr} {es : List Expr} {ta : TE} {t : TA}
/-- o.m(..) of an instance of one of several classes -/
def tMethU (S : Addr → Prop) (m : Str) (sp : Sp) (ta : TE) (t : TA) : TE := fun σ H Q => ta σ H fun x H1 => ∃ C a dx fs, S C ∧ x = .ref a ∧ H1 a = some (.ins C dx fs) ∧ fs.lookup m = none ∧
  t σ H1 fun vs H2 => sp (x :: (vs ++ [])) H2 Q E0
theorem pe_meU {pl : Sem Bool} {S : Addr → Prop} (M : ∀ C, S C → MeB X.prog X.w X.K X.mg X.base k C m ps sp) (he : PE X o ta) (hr : Room k X.A) (ha : PA X (e :: es) t)
    (hst : starEach (e :: es) X.env = (false, eval e X.env) :: starEach es X.env := by rfl) (hpl : (backTo pos (starEach es X.env)).any (·.1) = false := by rfl)
    (ht : eval (.Call (.Attribute o m apos) (e :: es) [] pos) X.env = (do
      let ov ← eval o X.env
      standAt apos.atName
      let (f, first) ← holding [ov] (getMethod ov m pl)
      callWith pos f first (backTo pos (starEach (e :: es) X.env)) (backToKw pos (keywordEach [] X.env))) := by rfl) :
    PE X (.Call (.Attribute o m apos) (e :: es) [] pos) (tMethU S m sp ta t) := by
  intro pins s σ H Q I h
  refine PySem.W.methodCall_KW (pl := pl) (thn (he pins s σ H _ I h) fun u s1 ⟨x, H1, I1, rx, C, a, dx, fs, hS, ex, ea, l, q⟩ => ?_) ht
  subst ex
  obtain rfl : u = Value.ref a := rx
  obtain ⟨f, fd, F, hm, hb, c⟩ := M C hS
  refine getmeth_ok I1 ea c hm l ?_
  refine PySem.W.callWith_K (first := [.ref a]) (h₀ := X.base) I.ok.mod.kin hm.kp (thn (ha pos pins s1 σ H1 _ I1 q) fun us s2 ⟨vs, H2, I2, r, q2⟩ => ⟨I2.kIn, ?_⟩) hst hpl
  exact run_fn (us := .ref a :: us) (vs := .ref a :: vs) F hr hb .nil pass0 I2 (.cons rfl r) q2
end
/-! ### texts -/
theorem vals_strs : ∀ {ss : List Str} {us : List Value}, Vals (ss.map V.str) us → StrsAre us ss
  | [], us, r => by cases r; exact .nil
  | x :: ss, us, r => by
    cases r with
    | cons r rr =>
      obtain ⟨t, rfl⟩ := r
      exact .cons _ _ (vals_strs rr)
section
variable {X : Cx}
def rJoin (K : PySem.W.Frag) : V → List V → Hp → VK → Prop := fun x vs H Q => ∃ sep l ss, x = .str sep ∧ vs = [.ref l] ∧ SqL K H l (ss.map V.str) ∧ (ss.map (·.length)).sum + ss.length * sep.length ≤ 16777216 ∧ Q (.str (Txt.join sep ss)) H
theorem mt_join : MtR X "str.join" (rJoin X.K) := by
  intro pins s σ H x vs v us Q I rx rv h
  obtain ⟨sep, l, ss, rfl, rfl, hl, hz, q⟩ := h
  obtain ⟨t, rfl⟩ := rx
  obtain ⟨u, rfl, ru⟩ := rv.one
  cases ru
  obtain ⟨its, r, pl, _⟩ := I.list hl
  exact join_list pl.isList (by simpa using vals_strs r) hz fun t' k => ⟨.str _, H, I.tok k, ⟨t', rfl⟩, q⟩
def rSplit : V → List V → Hp → VK → Prop := fun x vs H Q => ∃ z sep, x = .str z ∧ vs = [.str sep] ∧ (sep.length == 0) = false ∧ z.length ≤ sizeLine ∧ (Txt.split z sep).length ≤ sizeLine ∧ ∀ l, H l = none → Q (.ref l) (upd H l (.lst ((Txt.split z sep).map V.str)))
theorem vals_strsFrom : ∀ (ss : List Str) (t : Nat), Vals (ss.map V.str) (strsFrom t ss)
  | [], _ => .nil
  | x :: ss, t => .cons ⟨t, rfl⟩ (vals_strsFrom ss (t + 1))
open Builtin Builtin.Str in
theorem mt_split : MtR X "str.split" rSplit := by
  intro pins s σ H x vs v us Q I rx rv h
  obtain ⟨z, y, rfl, rfl, hy, hz, hn, q⟩ := h
  obtain ⟨t, rfl⟩ := rx
  obtain ⟨_, rfl, u, rfl⟩ := rv.one
  cases h1 : (decide (z.length < y.length) || decide (strKind z < strKind y))
  · cases hf : (occurrences z y 0 z.length (z.length + 1)).isEmpty
    · have e : Txt.split z y = partsBetween z (occurrences z y 0 z.length (z.length + 1)) y.length := (if_neg (ne_true_of_eq_false h1)).trans (if_neg (ne_true_of_eq_false hf))
      rw [e] at hn q
      refine call_meets F.slot_str_split (typeIs_str _ _ _) F.entry_str_split (F.args_str_split_2 _ _) (meets_str_split_sep z y t u h1 hy hf hz hn) ?_
      exact ⟨.ref s.heap.objs.size, _, I.lnew (vals_strsFrom _ _) (by rw [List.length_map]; exact hn), rfl, q _ I.fresh⟩
    · have e : Txt.split z y = [z] := (if_neg (ne_true_of_eq_false h1)).trans (if_pos hf)
      rw [e] at q
      refine call_meets F.slot_str_split (typeIs_str _ _ _) F.entry_str_split (F.args_str_split_2 _ _) (meets_str_split_not_found z y t u h1 hy hf) ?_
      exact ⟨.ref s.heap.objs.size, _, I.lnew (t' := s.toks) (ys := [.str z]) (.cons ⟨t, rfl⟩ .nil) (by show 1 ≤ sizeLine; decide), rfl, q _ I.fresh⟩
  · have e : Txt.split z y = [z] := if_pos h1
    rw [e] at q
    refine call_meets F.slot_str_split (typeIs_str _ _ _) F.entry_str_split (F.args_str_split_2 _ _) (meets_str_split_cannot_occur z y t u h1) ?_
    exact ⟨.ref s.heap.objs.size, _, I.lnew (t' := s.toks) (ys := [.str z]) (.cons ⟨t, rfl⟩ .nil) (by show 1 ≤ sizeLine; decide), rfl, q _ I.fresh⟩
theorem call_int_str : CallR X (.type "int") (fun xs H Q => ∃ x n, xs = [.str x] ∧ PySem.intText? x = some n ∧ x.length ≤ 640 ∧ Q (.int n) H) := by
  intro pins s σ H xs us Q I r h
  obtain ⟨x, n, rfl, hn, hl, q⟩ := h
  obtain ⟨u, rfl, t, rfl⟩ := vals1 r
  exact PySem.W.KIN.call_text hn hl ⟨.int n, H, I.tok _, ⟨_, rfl⟩, q⟩
end

theorem for_rangeN {n : Nat} {g : TG} {tb : TS} {D : Ends} {σ : St} {H : Hp} (Pv : Nat → St → Hp → Prop) (h0 : Pv 0 σ H)
    (hs : ∀ (i : Nat) σ H, i < n → Pv i σ H → g (.int (i : Int)) σ H fun σ2 H2 => tb { D with nx := Pv (i + 1), ct := Pv (i + 1), bk := D.nx } σ2 H2) (hd : ∀ σ H, Pv n σ H → D.nx σ H) :
    ∃ W : Nat → Nat → St → Hp → Prop, (∃ m, W 0 m σ H) ∧ ∀ i m σ H, W i m σ H →
      ((Itr 0 n).stop i H ∧ D.nx σ H) ∨ ((Itr 0 n).go i H ∧ ∃ N : St → Hp → Prop, (∀ σ' H', N σ' H' → ∃ m', m' < m ∧ W (i + 1) m' σ' H') ∧ ∀ x H', (Itr 0 n).yld i H x H' → g x σ H' fun σ2 H2 => tb { D with nx := N, ct := N, bk := D.nx } σ2 H2) :=
  for_range (lo := 0) (n := n) Pv h0 (fun i σ H hi p => by rw [Int.zero_add]; exact hs i σ H hi p) hd
theorem lc_rangeN {n : Nat} {cap : St} {tt : TT} {te : TE} {H : Hp} {P : List V → Hp → Prop} (Pv : Nat → List V → Hp → Prop) (h0 : Pv 0 [] H) (hn : n < sizeLine) (hb : ∀ i ys H, Pv i ys H → ys.length ≤ i)
    (hs : ∀ (i : Nat) ys H, i < n → Pv i ys H → tt (some (.int (i : Int)) :: cap) H fun b H3 => if b = true then te (some (.int (i : Int)) :: cap) H3 fun v H4 => Pv (i + 1) (ys ++ [v]) H4 else Pv (i + 1) ys H3) (hd : ∀ ys H, Pv n ys H → P ys H) :
    LcLoop (Itr 0 n) cap tt te H P := lc_range (lo := 0) (n := n) Pv h0 hn hb (fun i ys H hi p => by rw [Int.zero_add]; exact hs i ys H hi p) hd
theorem small2000 {n : Nat} (h : n ≤ 3000) : n < sizeLine := Nat.lt_of_le_of_lt h (by decide)
section
variable {X : Cx} {a e : Expr} {ta te : TE} {apos cpos : Pos}
/-- xs.append(e), xs.extend(e) -/
theorem pe_append (ha : PE X a ta) (he : PE X e te) (hbase : attributeBase a "append" X.env (eval a X.env) = eval a X.env := by rfl)
    (hfew : ((backTo cpos (starEach [e] X.env)).all (fun x => !x.1) && (backToKw cpos (keywordEach [] X.env)).all (fun x => x.1.isSome)
      && decide (([e] : List Expr).length + ([] : List Keyword).length + (if ([] : List Keyword).isEmpty then 0 else 1) < 30)) = true := by rfl)
    (hline : (apos.endLine == cpos.line) = true := by rfl) (hs : starEach [e] X.env = (false, eval e X.env) :: starEach [] X.env := by rfl) (hplain : (backTo cpos (starEach [] X.env)).any (·.1) = false := by rfl) :
    PE X (.Call (.Attribute a "append" apos) [e] [] cpos) (tBM X.K "list" rAppend ta (tCons te tNil)) :=
  pe_bm PySem.F.plainAttrs_list PySem.F.slot_list_append PySem.F.type_list_append mt_append ha (pa_cons he pa_nil hs) hbase hfew hline hs hplain
theorem pe_extend (ha : PE X a ta) (he : PE X e te) (hbase : attributeBase a "extend" X.env (eval a X.env) = eval a X.env := by rfl)
    (hfew : ((backTo cpos (starEach [e] X.env)).all (fun x => !x.1) && (backToKw cpos (keywordEach [] X.env)).all (fun x => x.1.isSome)
      && decide (([e] : List Expr).length + ([] : List Keyword).length + (if ([] : List Keyword).isEmpty then 0 else 1) < 30)) = true := by rfl)
    (hline : (apos.endLine == cpos.line) = true := by rfl) (hs : starEach [e] X.env = (false, eval e X.env) :: starEach [] X.env := by rfl) (hplain : (backTo cpos (starEach [] X.env)).any (·.1) = false := by rfl) :
    PE X (.Call (.Attribute a "extend" apos) [e] [] cpos) (tBM X.K "list" rExtend ta (tCons te tNil)) :=
  pe_bm PySem.F.plainAttrs_list PySem.F.slot_list_extend PySem.F.type_list_extend mt_extend ha (pa_cons he pa_nil hs) hbase hfew hline hs hplain
theorem pe_join (ha : PE X a ta) (he : PE X e te) (hbase : attributeBase a "join" X.env (eval a X.env) = eval a X.env := by rfl)
    (hfew : ((backTo cpos (starEach [e] X.env)).all (fun x => !x.1) && (backToKw cpos (keywordEach [] X.env)).all (fun x => x.1.isSome)
      && decide (([e] : List Expr).length + ([] : List Keyword).length + (if ([] : List Keyword).isEmpty then 0 else 1) < 30)) = true := by rfl)
    (hline : (apos.endLine == cpos.line) = true := by rfl) (hs : starEach [e] X.env = (false, eval e X.env) :: starEach [] X.env := by rfl) (hplain : (backTo cpos (starEach [] X.env)).any (·.1) = false := by rfl) :
    PE X (.Call (.Attribute a "join" apos) [e] [] cpos) (tBM X.K "str" (rJoin X.K) ta (tCons te tNil)) :=
  pe_bm PySem.F.plainAttrs_str PySem.F.slot_str_join PySem.F.type_str_join mt_join ha (pa_cons he pa_nil hs) hbase hfew hline hs hplain
theorem pe_split (ha : PE X a ta) (he : PE X e te) (hbase : attributeBase a "split" X.env (eval a X.env) = eval a X.env := by rfl)
    (hfew : ((backTo cpos (starEach [e] X.env)).all (fun x => !x.1) && (backToKw cpos (keywordEach [] X.env)).all (fun x => x.1.isSome)
      && decide (([e] : List Expr).length + ([] : List Keyword).length + (if ([] : List Keyword).isEmpty then 0 else 1) < 30)) = true := by rfl)
    (hline : (apos.endLine == cpos.line) = true := by rfl) (hs : starEach [e] X.env = (false, eval e X.env) :: starEach [] X.env := by rfl) (hplain : (backTo cpos (starEach [] X.env)).any (·.1) = false := by rfl) :
    PE X (.Call (.Attribute a "split" apos) [e] [] cpos) (tBM X.K "str" rSplit ta (tCons te tNil)) :=
  pe_bm PySem.F.plainAttrs_str PySem.F.slot_str_split PySem.F.type_str_split mt_split ha (pa_cons he pa_nil hs) hbase hfew hline hs hplain
theorem pe_clear (ha : PE X a ta) (hbase : attributeBase a "clear" X.env (eval a X.env) = eval a X.env := by rfl) (hline : (apos.endLine == cpos.line) = true := by rfl) :
    PE X (.Call (.Attribute a "clear" apos) [] [] cpos) (tBM0 X.K "list" rClear ta) :=
  pe_bm0 PySem.F.plainAttrs_list PySem.F.slot_list_clear PySem.F.type_list_clear mt_clear ha hbase hline
end
end L2

namespace L2
open PySem PySem.Spec PyProof.Rows
section
variable {X : Cx}
theorem call_rangeR : CallR X (.type "range") (fun xs H Q => ∃ j : Int, xs = [.int j] ∧ ∀ p, H p = none → Q (.ref p) (upd H p (.rng 0 j))) := by
  intro pins s σ H xs us Q I r h
  obtain ⟨j, rfl, q⟩ := h
  obtain ⟨u, rfl, t, rfl⟩ := vals1 r
  refine call_range_1 ⟨.ref s.heap.objs.size, _, I.laid (o := .rng 0 j) (fun b o e => Heap.get?_push_of_some _ e) (Nat.le_refl _) ⟨_, _, _, Heap.get?_push_size _ rfl⟩, rfl, q _ I.fresh⟩
theorem vals_items {F : Nat → Int} : ∀ (l : List Value) (n : Nat), l.length = n → (∀ i v, l[i]? = some v → ∃ t, v = Value.int (F i) t) → Vals ((List.range n).map fun k => V.int (F k)) l := by
  intro l n hl h
  have : ∀ (l : List Value) (k n : Nat), l.length = n → (∀ i v, l[i]? = some v → ∃ t, v = Value.int (F (k + i)) t) → Vals ((List.range' k n).map fun k => V.int (F k)) l := by
    intro l
    induction l with
    | nil => intro k n hl _; subst hl; exact .nil
    | cons a l ih =>
      intro k n hl h
      cases n with
      | zero => cases hl
      | succ n =>
        rw [List.range'_succ, List.map_cons]
        refine .cons ?_ (ih (k + 1) n (by simpa using hl) fun i v e => ?_)
        · exact h 0 a rfl
        · have := h (i + 1) v (by simpa using e)
          rw [Nat.add_assoc, Nat.add_comm 1 i]
          exact this
  rw [List.range_eq_range']
  exact this l 0 n hl fun i v e => by rw [Nat.zero_add]; exact h i v e
theorem call_list_rng (hc : X.calm = true) : CallR X (.type "list") (fun xs H Q => ∃ p hi, xs = [.ref p] ∧ H p = some (.rng 0 hi) ∧ -(2 ^ 62) ≤ hi ∧ hi ≤ 16777216 ∧ ∀ l, H l = none → Q (.ref l) (upd H l (.lst ((List.range hi.toNat).map fun (k : Nat) => V.int (k : Int))))) := by
  intro pins s σ H xs us Q I r h
  obtain ⟨p, hi, rfl, hp, h1, h2, q⟩ := h
  obtain ⟨u, rfl, ru⟩ := vals1 r
  cases ru
  obtain ⟨t, u, v, e⟩ := (show ObjOk X.prog X.w H s.heap p (.rng 0 hi) from I.hok p _ hp)
  have e2 : Builtin.Range.rangeSize 0 hi 1 = ((hi.toNat : Nat) : Int) := by rw [rangeSize_one]; split <;> omega
  refine call_list_range (I.ok.hd hc) e (small_one (by decide) (by decide) h1 (by omega)) e2 (by omega) fun h' tk acc' c' hk hS hacc => ?_
  refine ⟨.ref s.heap.objs.size, _, I.laid (t' := tk) (o := .lst ((List.range hi.toNat).map fun (k : Nat) => V.int (k : Int))) hk (Nat.le_refl _) ⟨?_, acc'.toList, c', ?_, ?_⟩, rfl, q _ I.fresh⟩
  · rw [List.length_map, List.length_range]; show _ ≤ 2 ^ 24; omega
  · refine vals_items (F := fun k => (k : Int)) acc'.toList _ (by simpa using hacc.1) fun i v e => ?_
    obtain ⟨t', rfl⟩ := hacc.2 i v (by simpa using e)
    exact ⟨t', by simp⟩
  · simpa using hS
/-- a list of written ints -/
def intsOf : List Expr → Option (List Int)
  | [] => some []
  | .Constant (.int i) _ _ :: es => (intsOf es).map (i :: ·)
  | _ => none
theorem pa_ints : ∀ {es : List Expr} {ns : List Int}, intsOf es = some ns → PA X es (fun _ H Q => Q (ns.map V.int) H)
  | [], ns, h => by
    cases h
    exact pa_nil
  | e :: es, ns, h => by
    cases e with
    | Constant c k pos =>
      cases c with
      | int i =>
        have h' : (intsOf es).map (i :: ·) = some ns := h
        cases hq : intsOf es with
        | none => rw [hq] at h'; cases h'
        | some ms =>
          rw [hq] at h'
          have e' : i :: ms = ns := Option.some.inj h'
          subst e'
          exact pa_cons (te := tC (.int i)) pe_int (pa_ints hq) rfl
      | _ => cases h
    | _ => cases h
end
end L2

namespace L2
open PySem PySem.Spec PyProof.Rows
section
variable {X : Cx}
theorem vals_bl {bs : List Bool} {us : List Value} (r : Vals (bs.map V.bl) us) {i : Nat} {v : Value} (h : us[i]? = some v) : ∃ b, bs[i]? = some b ∧ v = .bool b := by
  have hl := r.length
  rw [List.length_map] at hl
  have hi : i < bs.length := by have := (List.getElem?_eq_some_iff.mp h).1; omega
  have e : (bs.map V.bl)[i]? = some (V.bl bs[i]) := by simp [hi]
  obtain ⟨u, hu, ru⟩ := r.get e
  rw [h] at hu
  cases hu
  exact ⟨bs[i], by simp [hi], ru⟩
theorem any_range (bs : List Bool) : ((List.range bs.length).any fun i => (bs[i]?).getD false) = bs.any id := by
  rw [Bool.eq_iff_iff, List.any_eq_true, List.any_eq_true]
  constructor
  · rintro ⟨i, hi, e⟩
    have hi' := List.mem_range.mp hi
    rw [List.getElem?_eq_getElem hi'] at e
    exact ⟨_, List.getElem_mem hi', e⟩
  · rintro ⟨b, hb, e⟩
    obtain ⟨i, hi⟩ := List.mem_iff_getElem?.mp hb
    exact ⟨i, List.mem_range.mpr (List.getElem?_eq_some_iff.mp hi).1, by rw [hi]; exact e⟩
theorem call_any (hc : X.calm = true) : CallR X (.builtin "any") (fun xs H Q => ∃ (l : Addr) (bs : List Bool), xs = [.ref l] ∧ SqL X.K H l (bs.map V.bl) ∧ Q (.bl (bs.any id)) H) := by
  intro pins s σ H xs us Q I r h
  obtain ⟨l, bs, rfl, hl, q⟩ := h
  obtain ⟨u, rfl, ru⟩ := vals1 r
  cases ru
  obtain ⟨its, rv, pl, _⟩ := I.list hl
  have hli := pl.isList
  have hlt : l < s.heap.objs.size := by obtain ⟨_, e, _⟩ := hli; exact Heap.lt_size e
  have hlen := rv.length
  rw [List.length_map] at hlen
  refine call_any_walk (wpAny_pyIter_list hli ?_)
  refine ⟨s.heap.objs.size, [s.heap.objs.size, l], [s.heap.objs.size], its.toArray.size, _, _, fun i => (bs[i]?).getD false, rfl, Walks.list (A := X.A.in1) (I.ok.hd hc) _ l (Nat.ne_of_lt hlt) its.toArray,
    ⟨⟨_, Heap.get?_push_size _ rfl, rfl, rfl⟩, hli.push _⟩, fun i v s' Q' E' hP hQ => ?_, fun h' tk hk => ?_⟩
  · obtain ⟨b, e, rfl⟩ := vals_bl rv (i := i) (v := v) (by simpa using hP)
    simp only [e, Option.getD_some] at hQ
    exact wpAny_truthy_bool hQ
  · rw [List.size_toArray, ← hlen, any_range]
    exact ⟨.bl _, H, I.kept (t' := tk) fun b o e => hk b o (fun hm => by rw [List.mem_singleton.mp hm] at e; exact Nat.lt_irrefl _ (Heap.lt_size e)) (Heap.get?_push_of_some _ e), rfl, q⟩
/-- two lists of the very same objects -/
theorem RcD.same {H : Hp} {d : Nat} {l m : Addr} {ps : List Addr} (hl : SqL X.K H l (ps.map V.ref)) (hm : SqL X.K H m (ps.map V.ref)) : RcD X H d (.ref l) (.ref m) true := by
  intro A s pins σ u v I hu ru rv
  cases ru; cases rv
  obtain ⟨its, r1, t1, _⟩ := I.list hl
  obtain ⟨jts, r2, t2, _⟩ := I.list hm
  have he : its = jts := by
    have : ∀ {ps : List Addr} {its jts : List Value}, Vals (ps.map V.ref) its → Vals (ps.map V.ref) jts → its = jts := by
      intro ps
      induction ps with
      | nil => intro its jts a b; cases a; cases b; rfl
      | cons p ps ih =>
        intro its jts a b
        cases a with
        | cons a1 a2 =>
          cases b with
          | cons b1 b2 =>
            cases a1; cases b1
            rw [ih a2 b2]
    exact this r1 r2
  subst he
  have hu1 : A.units < cLine := by omega
  have hE : ∀ j (h1 : j < its.toArray.size) (h2 : j < its.toArray.size), SeqAt.EqAt A.in1 s its.toArray[j] its.toArray[j] ((fun _ => true) j) := fun j h1 h2 => SeqAt.EqAt.same _
  have z1 := SeqAt.RcAt.lists (A := A) (s := s) t1.isList t2.isList rfl hu1 hE
  have z2 := SeqAt.RcNeAt.lists (A := A) (s := s) t1.isList t2.isList rfl hu1 hE
  have hb : (List.range its.toArray.size).all (fun _ => true) = true := by simp
  rw [hb] at z1 z2
  exact ⟨z1, z2⟩
end

/-! ### the same rules where the context is a block's: the written part said -/
section
variable {X : Cx} {K : PySem.W.Frag}
def rIsi (K : PySem.W.Frag) : List V → Hp → VK → Prop := fun xs H Q => ∃ x c t cv b, xs = [x, c] ∧ ClV c cv ∧ TyOf K H x t ∧ PySem.W.kitOne K t cv = some b ∧ Q (.bl b) H
theorem call_isinstK (K : PySem.W.Frag) (hK : X.K = K := by rfl) : CallR X (.builtin "isinstance") (rIsi K) := by subst hK; exact call_isinst
theorem ix_listK (K : PySem.W.Frag) (hK : X.K = K := by rfl) : IxR X (rIxL K) := by subst hK; exact ix_list
theorem ix_tupK (K : PySem.W.Frag) (hK : X.K = K := by rfl) : IxR X (rIxT K) := by subst hK; exact ix_tup
end
end L2

namespace J
/-! moves and states, by plain lists -/
inductive Mv where
  | pour (a b : Nat) | fill (a : Nat) | emp (a : Nat)
  deriving DecidableEq
def at0 (l : List Int) (i : Nat) : Int := l.getD i 0
def much (sz st : List Int) (a b : Nat) : Int := if at0 sz b - at0 st b < at0 st a then at0 sz b - at0 st b else at0 st a
def behind (sz st : List Int) : Mv → List Int
  | .pour a b => (st.set a (at0 st a - much sz st a b)).set b (at0 st b + much sz st a b)
  | .fill a => st.set a (at0 sz a)
  | .emp a => st.set a 0
def pours (n : Nat) : List Mv := (List.range n).flatMap fun a => ((List.range n).filter fun b => b != a).map fun b => Mv.pour a b
def moves (n : Nat) (tap : Bool) : List Mv := pours n ++ if tap = true then (List.range n).map Mv.fill ++ (List.range n).map Mv.emp else []
/-- a move of a house with n jugs -/
def Mv.ok (n : Nat) (tap : Bool) : Mv → Prop
  | .pour a b => a < n ∧ b < n ∧ a ≠ b
  | .fill a => a < n ∧ tap = true
  | .emp a => a < n ∧ tap = true
theorem mem_moves {n : Nat} {tap : Bool} {m : Mv} : m ∈ moves n tap ↔ m.ok n tap := by
  unfold moves pours
  cases tap <;> cases m <;> simp [Mv.ok] <;> (try omega)
  all_goals
    constructor
    · rintro ⟨h1, h2, h3⟩; exact ⟨h1, h2, fun e => h3 e.symm⟩
    · rintro ⟨h1, h2, h3⟩; exact ⟨h1, h2, fun e => h3 e.symm⟩
structure IsSt (sz st : List Int) : Prop where
  len : st.length = sz.length
  bnd : ∀ i, i < sz.length → 0 ≤ at0 st i ∧ at0 st i ≤ at0 sz i
theorem at0_set (l : List Int) (a i : Nat) (v : Int) : at0 (l.set a v) i = if a = i ∧ i < l.length then v else at0 l i := by
  unfold at0
  simp only [List.getD_eq_getElem?_getD, List.getElem?_set]
  by_cases h : a = i
  · subst h
    by_cases hl : a < l.length
    · simp [hl]
    · simp [hl]
  · simp [h]
theorem IsSt.behind {sz st : List Int} {tap : Bool} {m : Mv} (hs : ∀ i, i < sz.length → 0 ≤ at0 sz i) (h : IsSt sz st) (hm : m.ok sz.length tap) : IsSt sz (behind sz st m) := by
  have hl := h.len
  cases m with
  | pour a b =>
    obtain ⟨ha, hb, hab⟩ := hm
    have h1 := h.bnd a ha
    have h2 := h.bnd b hb
    refine ⟨by simp [J.behind, hl], fun i hi => ?_⟩
    have h3 := h.bnd i hi
    simp only [J.behind, at0_set, List.length_set, hl]
    unfold much
    by_cases e1 : b = i
    · subst e1; simp only [hi, and_self, if_true]; split <;> omega
    · simp only [e1, false_and, if_false]
      by_cases e2 : a = i
      · subst e2; simp only [hi, and_self, if_true]; split <;> omega
      · simp only [e2, false_and, if_false]; exact h3
  | fill a =>
    refine ⟨by simp [J.behind, hl], fun i hi => ?_⟩
    have h3 := h.bnd i hi
    have h4 := hs i hi
    simp only [J.behind, at0_set, hl]
    by_cases e2 : a = i
    · subst e2; simp only [hi, and_self, if_true]; omega
    · simp only [e2, false_and, if_false]; exact h3
  | emp a =>
    refine ⟨by simp [J.behind, hl], fun i hi => ?_⟩
    have h3 := h.bnd i hi
    have h4 := hs i hi
    simp only [J.behind, at0_set, hl]
    by_cases e2 : a = i
    · subst e2; simp only [hi, and_self, if_true]; omega
    · simp only [e2, false_and, if_false]; exact h3
/-! all states -/
def more (told : List (List Int)) (size : Int) : List (List Int) := told.flatMap fun st => (List.range (size + 1).toNat).map fun (k : Nat) => st ++ [(k : Int)]
def states (sz : List Int) : List (List Int) := sz.foldl more [[]]
def prod1 (sz : List Int) : Int := sz.foldl (fun m s => m * (s + 1)) 1
theorem mem_fold (sz : List Int) : ∀ (L : List (List Int)) (x : List Int), x ∈ sz.foldl more L ↔ ∃ l ∈ L, ∃ t : List Int, x = l ++ t ∧ IsSt sz t := by
  induction sz with
  | nil =>
    intro L x
    simp only [List.foldl_nil]
    constructor
    · intro h; exact ⟨x, h, [], by simp, ⟨rfl, fun i hi => by simp at hi⟩⟩
    · rintro ⟨l, hl, t, rfl, ht⟩
      have : t = [] := by have := ht.len; simpa using this
      subst this; simpa using hl
  | cons s r ih =>
    intro L x
    rw [List.foldl_cons, ih]
    constructor
    · rintro ⟨l, hl, t, rfl, ht⟩
      unfold more at hl
      simp only [List.mem_flatMap, List.mem_map, List.mem_range] at hl
      obtain ⟨l0, h0, k, hk, rfl⟩ := hl
      refine ⟨l0, h0, (k : Int) :: t, by simp, ⟨by simp [ht.len], fun i hi => ?_⟩⟩
      cases i with
      | zero => simp [at0]; omega
      | succ i => have := ht.bnd i (by simpa using hi); simpa [at0] using this
    · rintro ⟨l, hl, t, rfl, ht⟩
      cases t with
      | nil => have := ht.len; simp at this
      | cons v t =>
        refine ⟨l ++ [v], ?_, t, by simp, ⟨by have := ht.len; simpa using this, fun i hi => ?_⟩⟩
        · unfold more
          simp only [List.mem_flatMap, List.mem_map, List.mem_range]
          have := ht.bnd 0 (by simp)
          simp [at0] at this
          exact ⟨l, hl, v.toNat, by omega, by rw [Int.toNat_of_nonneg this.1]⟩
        · have := ht.bnd (i + 1) (by simpa using hi); simpa [at0] using this
theorem len_more (L : List (List Int)) (s : Int) : (more L s).length = L.length * (s + 1).toNat := by
  unfold more
  induction L with
  | nil => simp
  | cons a L ih => rw [List.flatMap_cons, List.length_append, ih]; simp [Nat.add_mul]; omega
theorem len_fold (sz : List Int) (hs : ∀ s ∈ sz, 0 ≤ s) : ∀ (L : List (List Int)) (p : Int), (L.length : Int) = p → ((sz.foldl more L).length : Int) = sz.foldl (fun m s => m * (s + 1)) p := by
  induction sz with
  | nil => intro L p h; simpa using h
  | cons s r ih =>
    intro L p h
    rw [List.foldl_cons, List.foldl_cons]
    refine ih (fun x hx => hs x (List.mem_cons_of_mem _ hx)) _ _ ?_
    have := hs s List.mem_cons_self
    rw [len_more, Int.natCast_mul, h, Int.toNat_of_nonneg (by omega)]
theorem len_states {sz : List Int} (hs : ∀ s ∈ sz, 0 ≤ s) : ((states sz).length : Int) = prod1 sz := len_fold sz hs _ _ (by simp)
end J

namespace Jug
open PySem L2
def top (i : Nat) : Stmt := PySem.Challenge.pw_jughouse_k01_moves.main.body.getD i (.Pass ⟨0, 0, 0, 0⟩)
abbrev s_is_number : Stmt := top 8
theorem sc_is_number : FnScope ["value", "least", "most"] ["value", "least", "most"] (defScope s_is_number) := ⟨rfl, rfl, rfl, by decide +kernel, rfl, by decide +kernel, by decide +kernel⟩
abbrev s_is_jug : Stmt := top 9
theorem sc_is_jug : FnScope ["value"] ["value"] (defScope s_is_jug) := ⟨rfl, rfl, rfl, by decide +kernel, rfl, by decide +kernel, by decide +kernel⟩
abbrev s_held_in : Stmt := top 10
theorem sc_held_in : FnScope ["house", "state", "held", "sizes", "many", "size"] ["house", "state"] (defScope s_held_in) := ⟨rfl, rfl, rfl, by decide +kernel, rfl, by decide +kernel, by decide +kernel⟩
abbrev s_check_jug : Stmt := top 12
theorem sc_check_jug : FnScope ["jug"] ["jug"] (defScope s_check_jug) := ⟨rfl, rfl, rfl, by decide +kernel, rfl, by decide +kernel, by decide +kernel⟩
abbrev s_check_house_has : Stmt := top 13
theorem sc_check_house_has : FnScope ["house", "jug"] ["house", "jug"] (defScope s_check_house_has) := ⟨rfl, rfl, rfl, by decide +kernel, rfl, by decide +kernel, by decide +kernel⟩
abbrev s_check_house_can_tap : Stmt := top 14
theorem sc_check_house_can_tap : FnScope ["house", "jug"] ["house", "jug"] (defScope s_check_house_can_tap) := ⟨rfl, rfl, rfl, by decide +kernel, rfl, by decide +kernel, by decide +kernel⟩
abbrev s_with_amount : Stmt := top 15
theorem sc_with_amount : FnScope ["held", "jug", "many", "behind"] ["held", "jug", "many"] (defScope s_with_amount) := ⟨rfl, rfl, rfl, by decide +kernel, rfl, by decide +kernel, by decide +kernel⟩
abbrev s_Move_done : Stmt := inClass (top 16) 0
theorem sc_Move_done : FnScope ["self", "house", "state", "held"] ["self", "house", "state"] (defScope s_Move_done) := ⟨rfl, rfl, rfl, by decide +kernel, rfl, by decide +kernel, by decide +kernel⟩
abbrev s_Move_held_behind : Stmt := inClass (top 16) 1
theorem sc_Move_held_behind : FnScope ["self", "house", "held"] ["self", "house", "held"] (defScope s_Move_held_behind) := ⟨rfl, rfl, rfl, by decide +kernel, rfl, by decide +kernel, by decide +kernel⟩
abbrev s_Pour_init : Stmt := inClass (top 17) 0
theorem sc_Pour_init : FnScope ["self", "one", "other"] ["self", "one", "other"] (defScope s_Pour_init) := ⟨rfl, rfl, rfl, by decide +kernel, rfl, by decide +kernel, by decide +kernel⟩
abbrev s_Pour_held_behind : Stmt := inClass (top 17) 1
theorem sc_Pour_held_behind : FnScope ["self", "house", "held", "room", "many", "less"] ["self", "house", "held"] (defScope s_Pour_held_behind) := ⟨rfl, rfl, rfl, by decide +kernel, rfl, by decide +kernel, by decide +kernel⟩
abbrev s_Fill_init : Stmt := inClass (top 18) 0
theorem sc_Fill_init : FnScope ["self", "jug"] ["self", "jug"] (defScope s_Fill_init) := ⟨rfl, rfl, rfl, by decide +kernel, rfl, by decide +kernel, by decide +kernel⟩
abbrev s_Fill_held_behind : Stmt := inClass (top 18) 1
theorem sc_Fill_held_behind : FnScope ["self", "house", "held"] ["self", "house", "held"] (defScope s_Fill_held_behind) := ⟨rfl, rfl, rfl, by decide +kernel, rfl, by decide +kernel, by decide +kernel⟩
abbrev s_Empty_init : Stmt := inClass (top 19) 0
theorem sc_Empty_init : FnScope ["self", "jug"] ["self", "jug"] (defScope s_Empty_init) := ⟨rfl, rfl, rfl, by decide +kernel, rfl, by decide +kernel, by decide +kernel⟩
abbrev s_Empty_held_behind : Stmt := inClass (top 19) 1
theorem sc_Empty_held_behind : FnScope ["self", "house", "held"] ["self", "house", "held"] (defScope s_Empty_held_behind) := ⟨rfl, rfl, rfl, by decide +kernel, rfl, by decide +kernel, by decide +kernel⟩
abbrev s_moves_in : Stmt := top 20
theorem sc_moves_in : FnScope ["moves", "told", "move"] ["moves"] (defScope s_moves_in) := ⟨rfl, rfl, rfl, by decide +kernel, rfl, by decide +kernel, by decide +kernel⟩
abbrev s_done_all : Stmt := top 21
theorem sc_done_all : FnScope ["moves", "house", "state", "told", "behind", "move"] ["moves", "house", "state"] (defScope s_done_all) := ⟨rfl, rfl, rfl, by decide +kernel, rfl, by decide +kernel, by decide +kernel⟩
abbrev s_sizes_in : Stmt := top 24
theorem sc_sizes_in : FnScope ["sizes", "told", "size"] ["sizes"] (defScope s_sizes_in) := ⟨rfl, rfl, rfl, by decide +kernel, rfl, by decide +kernel, by decide +kernel⟩
abbrev s_count_states : Stmt := top 25
theorem sc_count_states : FnScope ["sizes", "many", "size"] ["sizes"] (defScope s_count_states) := ⟨rfl, rfl, rfl, by decide +kernel, rfl, by decide +kernel, by decide +kernel⟩
abbrev s_pours_among : Stmt := top 26
theorem sc_pours_among : FnScope ["many", "pours", "one", "other"] ["many"] (defScope s_pours_among) := ⟨rfl, rfl, rfl, by decide +kernel, rfl, by decide +kernel, by decide +kernel⟩
abbrev s_with_one_more : Stmt := top 27
theorem sc_with_one_more : FnScope ["states", "size", "longer", "state", "many"] ["states", "size"] (defScope s_with_one_more) := ⟨rfl, rfl, rfl, by decide +kernel, rfl, by decide +kernel, by decide +kernel⟩
abbrev s_House_init : Stmt := inClass (top 28) 0
theorem sc_House_init : FnScope ["self", "sizes", "tap"] ["self", "sizes", "tap"] (defScope s_House_init) := ⟨rfl, rfl, rfl, by decide +kernel, rfl, by decide +kernel, by decide +kernel⟩
abbrev s_House_sizes : Stmt := inClass (top 28) 1
theorem sc_House_sizes : FnScope ["self"] ["self"] (defScope s_House_sizes) := ⟨rfl, rfl, rfl, by decide +kernel, rfl, by decide +kernel, by decide +kernel⟩
abbrev s_House_moves : Stmt := inClass (top 28) 2
theorem sc_House_moves : FnScope ["self", "many", "told"] ["self"] (defScope s_House_moves) := ⟨rfl, rfl, rfl, by decide +kernel, rfl, by decide +kernel, by decide +kernel⟩
abbrev s_House_states : Stmt := inClass (top 28) 3
theorem sc_House_states : FnScope ["self", "told", "size"] ["self"] (defScope s_House_states) := ⟨rfl, rfl, rfl, by decide +kernel, rfl, by decide +kernel, by decide +kernel⟩
abbrev s_House_empty : Stmt := inClass (top 28) 4
theorem sc_House_empty : FnScope ["self"] ["self"] (defScope s_House_empty) := ⟨rfl, rfl, rfl, by decide +kernel, rfl, by decide +kernel, by decide +kernel⟩
abbrev s_move_text : Stmt := top 30
theorem sc_move_text : FnScope ["move"] ["move"] (defScope s_move_text) := ⟨rfl, rfl, rfl, by decide +kernel, rfl, by decide +kernel, by decide +kernel⟩
abbrev s_routine_text : Stmt := top 31
theorem sc_routine_text : FnScope ["moves"] ["moves"] (defScope s_routine_text) := ⟨rfl, rfl, rfl, by decide +kernel, rfl, by decide +kernel, by decide +kernel⟩
abbrev s__law_cell_at : Stmt := top 33
theorem sc__law_cell_at : FnScope ["_law_script", "_law_k"] ["_law_script", "_law_k"] (defScope s__law_cell_at) := ⟨rfl, rfl, rfl, by decide +kernel, rfl, by decide +kernel, by decide +kernel⟩
abbrev s__law_draw : Stmt := top 34
theorem sc__law_draw : FnScope ["_law_cell", "_law_k", "_law_many", "_law_primes"] ["_law_cell", "_law_k", "_law_many"] (defScope s__law_draw) := ⟨rfl, rfl, rfl, by decide +kernel, rfl, by decide +kernel, by decide +kernel⟩
abbrev s__law_sizes : Stmt := top 35
theorem sc__law_sizes : FnScope ["_law_cell", "_law_many", "_law_most"] ["_law_cell"] (defScope s__law_sizes) := ⟨rfl, rfl, rfl, by decide +kernel, rfl, by decide +kernel, by decide +kernel⟩
abbrev s__law_state : Stmt := top 36
theorem sc__law_state : FnScope ["_law_cell", "_law_sizes_here", "_law_state_here", "_law_k", "_law_kind"] ["_law_cell", "_law_sizes_here"] (defScope s__law_state) := ⟨rfl, rfl, rfl, by decide +kernel, rfl, by decide +kernel, by decide +kernel⟩
abbrev s__law_all_moves : Stmt := top 37
theorem sc__law_all_moves : FnScope ["_law_sizes_here", "_law_tap", "_law_jugs", "_law_found", "_law_one"] ["_law_sizes_here", "_law_tap"] (defScope s__law_all_moves) := ⟨rfl, rfl, rfl, by decide +kernel, rfl, by decide +kernel, by decide +kernel⟩
abbrev s__law_behind : Stmt := top 38
theorem sc__law_behind : FnScope ["_law_sizes_here", "_law_state_here", "_law_told_here", "_law_sort", "_law_one", "_law_other", "_law_made"] ["_law_sizes_here", "_law_state_here", "_law_told_here"] (defScope s__law_behind) := ⟨rfl, rfl, rfl, by decide +kernel, rfl, by decide +kernel, by decide +kernel⟩
abbrev s__law_told : Stmt := top 39
theorem sc__law_told : FnScope ["_law_move", "_law_words"] ["_law_move"] (defScope s__law_told) := ⟨rfl, rfl, rfl, by decide +kernel, rfl, by decide +kernel, by decide +kernel⟩
abbrev s__law_states : Stmt := top 40
theorem sc__law_states : FnScope ["_law_sizes_here", "_law_found", "_law_size", "_law_more", "_law_state_here"] ["_law_sizes_here"] (defScope s__law_states) := ⟨rfl, rfl, rfl, by decide +kernel, rfl, by decide +kernel, by decide +kernel⟩
abbrev s__law_sorts : Stmt := top 41
theorem sc__law_sorts : FnScope ["_law_move"] ["_law_move"] (defScope s__law_sorts) := ⟨rfl, rfl, rfl, by decide +kernel, rfl, by decide +kernel, by decide +kernel⟩
abbrev s__law_whole : Stmt := top 42
theorem sc__law_whole : FnScope ["_law_state_here"] ["_law_state_here"] (defScope s__law_whole) := ⟨rfl, rfl, rfl, by decide +kernel, rfl, by decide +kernel, by decide +kernel⟩
abbrev s__law_all_right : Stmt := top 43
theorem sc__law_all_right : FnScope ["_law_house", "_law_sizes_here", "_law_state_here", "_law_due", "_law_script", "_law_moves", "_law_now", "_law_k", "_law_at", "_law_kept"] ["_law_house", "_law_sizes_here", "_law_state_here", "_law_due", "_law_script"] (defScope s__law_all_right) := ⟨rfl, rfl, rfl, by decide +kernel, rfl, by decide +kernel, by decide +kernel⟩
abbrev s_law : Stmt := top 44
theorem sc_law : FnScope ["_law_script", "_law_sizes_here", "_law_tap", "_law_handed", "_law_house", "_law_state_here", "_law_lesser", "_law_other", "_law_far", "_law_due", "_law_again", "_law_found", "_law_k", "_law_there"] ["_law_script"] (defScope s_law) := ⟨rfl, rfl, rfl, by decide +kernel, rfl, by decide +kernel, by decide +kernel⟩

/-! ### what the walk asks of the module: the built-in names, the constants -/
structure Bt (mg : Str → Option Value) : Prop where
  isinstance : mg "isinstance" = none
  int : mg "int" = none
  bool : mg "bool" = none
  tuple : mg "tuple" = none
  list : mg "list" = none
  len : mg "len" = none
  zip : mg "zip" = none
  range : mg "range" = none
  min : mg "min" = none
  str : mg "str" = none
  jugs : ∃ t, mg "MOST_JUGS" = some (.int 4 t)
  size : ∃ t, mg "MOST_SIZE" = some (.int 60 t)
theorem bt_isinstance : bootBuiltins "isinstance" = some (.builtin "isinstance") := by decide +kernel
theorem bt_int : bootBuiltins "int" = some (.type "int") := by decide +kernel
theorem bt_bool : bootBuiltins "bool" = some (.type "bool") := by decide +kernel
theorem bt_tuple : bootBuiltins "tuple" = some (.type "tuple") := by decide +kernel
theorem bt_list : bootBuiltins "list" = some (.type "list") := by decide +kernel
theorem bt_min : bootBuiltins "min" = some (.builtin "min") := by decide +kernel
theorem bt_str : bootBuiltins "str" = some (.type "str") := by decide +kernel
section
variable {P : Program} {w : World} {K : PySem.W.Frag} {mg : Str → Option Value} {base : Heap}
theorem kit_ii : PySem.W.kitOne K (.type "int") (.type "int") = some true := by
  unfold PySem.W.kitOne
  rw [if_pos (by simp)]
theorem kit_ib : PySem.W.kitOne K (.type "int") (.type "bool") = some false := by
  unfold PySem.W.kitOne
  rw [if_neg (by decide)]
  with_unfolding_all rfl
theorem kit_tt : PySem.W.kitOne K (.type "tuple") (.type "tuple") = some true := by
  unfold PySem.W.kitOne
  rw [if_pos (by simp)]
theorem kit_ll : PySem.W.kitOne K (.type "list") (.type "list") = some true := by
  unfold PySem.W.kitOne
  rw [if_pos (by simp)]
theorem kit_bb : PySem.W.kitOne K (.type "bool") (.type "bool") = some true := by
  unfold PySem.W.kitOne
  rw [if_pos (by simp)]
def sp_is_number : Sp := fun vs H Q _ => ∃ i lo hi : Int, vs = [.int i, .int lo, .int hi] ∧ Q (.bl (decide (lo ≤ i) && decide (i ≤ hi))) H
theorem ok_is_number {f : Addr} {fd : FuncData} (F : Fun K "is_number" "is_number" s_is_number f fd) (B : Bt mg) : FnOk P w K mg base CX0 1 f fd ["value", "least", "most"] sp_is_number := by
  refine F.ok sc_is_number (fun vs H Q E h => ?_) (fun cdv A outer s H vs Q E hr h => ?_)
  · obtain ⟨i, lo, hi, rfl, _⟩ := h
    rfl
  · obtain ⟨i, lo, hi, rfl, k⟩ := h
    refine ⟨_, pss_one (ps_ret (pe_and (pe_callB call_isinst (by rfl) B.isinstance bt_isinstance (pa_cons (pv 0) (pa_cons (pe_bltn (v := .ty "int") (by rfl) B.int bt_int rfl) pa_nil)))
      (pe_and (pe_not (pe_callB call_isinst (by rfl) B.isinstance bt_isinstance (pa_cons (pv 0) (pa_cons (pe_bltn (v := .ty "bool") (by rfl) B.bool bt_bool rfl) pa_nil))))
      (pe_one (pe_chain op_le op_le (pv 1) (pv 0) (pv 2)))))), ?_⟩
    refine ⟨_, rfl, _, _, _, _, _, rfl, .ty "int", .int i, kit_ii, _, rfl, iteT ?_⟩
    refine ⟨_, rfl, _, _, _, _, _, rfl, .ty "bool", .int i, kit_ib, _, rfl, _, rfl, iteT ?_⟩
    refine ⟨_, rfl, _, rfl, _, _, rfl, rfl, _, rfl, ?_⟩
    by_cases h1 : lo ≤ i
    · rw [decide_eq_true h1]
      refine iteT ⟨_, rfl, _, _, rfl, rfl, ?_⟩
      rw [decide_eq_true h1, Bool.true_and] at k
      exact k
    · rw [decide_eq_false h1]
      refine iteF ?_
      rw [decide_eq_false h1, Bool.false_and] at k
      exact k
def sp_is_jug : Sp := fun vs H Q _ => ∃ i : Int, vs = [.int i] ∧ Q (.bl (decide (0 ≤ i) && decide (i ≤ 3))) H
theorem ok_is_jug {f : Addr} {fd : FuncData} (F : Fun K "is_jug" "is_jug" s_is_jug f fd) (B : Bt mg) (N : FnB P w K mg base 1 "is_number" ["value", "least", "most"] sp_is_number) : FnOk P w K mg base CX0 2 f fd ["value"] sp_is_jug := by
  obtain ⟨t4, e4⟩ := B.jugs
  refine F.ok sc_is_jug (fun vs H Q E h => ?_) (fun cdv A outer s H vs Q E hr h => ?_)
  · obtain ⟨i, rfl, _⟩ := h
    rfl
  · obtain ⟨i, rfl, k⟩ := h
    refine ⟨_, pss_one (ps_ret (pe_fn N hr (pa_cons (pv 0) (pa_cons pe_int (pa_cons (pe_op op_sub (pe_glob (v := .int 4) (by rfl) e4 ⟨_, rfl⟩) pe_int) pa_nil))))), ?_⟩
    exact ⟨_, rfl, _, _, rfl, rfl, i, 0, 3, rfl, k⟩
end

/-! ### data -/
theorem mem_ints {l : List Int} {i : Nat} {x : V} (h : (l.map V.int)[i]? = some x) : ∃ z, l[i]? = some z ∧ x = .int z := by
  rw [List.getElem?_map] at h
  cases e : l[i]? with
  | none => rw [e] at h; cases h
  | some z => rw [e] at h; exact ⟨z, rfl, (Option.some.inj h).symm⟩
theorem at0_of {l : List Int} {i : Nat} {z : Int} (h : l[i]? = some z) : J.at0 l i = z := by
  unfold J.at0
  rw [List.getD_eq_getElem?_getD, h]; rfl
theorem get_of {l : List Int} {i : Nat} (h : i < l.length) : l[i]? = some (J.at0 l i) := by
  unfold J.at0
  rw [List.getD_eq_getElem?_getD, List.getElem?_eq_getElem h]; rfl
theorem getV_of {l : List Int} {i : Nat} (h : i < l.length) : (l.map V.int)[i]? = some (.int (J.at0 l i)) := by
  rw [List.getElem?_map, get_of h]; rfl
theorem st_at {sz st : List Int} {i : Nat} {z y : Int} (h : J.IsSt sz st) (h1 : st[i]? = some z) (h2 : sz[i]? = some y) : 0 ≤ z ∧ z ≤ y := by
  have := h.bnd i (List.getElem?_eq_some_iff.mp h2).1
  rw [at0_of h1, at0_of h2] at this
  exact this
/-- a house: sizes and tap -/
def hF (t : Addr) (tap : Bool) : List (Str × V) := putF "tap" (.bl tap) (putF "jug_sizes" (.ref t) [])
theorem n_tap_js : ¬ (("tap" : Str) = "jug_sizes") := by decide +kernel
theorem hF_js (t : Addr) (tap : Bool) : (hF t tap).lookup ("jug_sizes" : Str) = some (.ref t) := by
  unfold hF
  rw [lookup_putF, if_neg (fun e => n_tap_js e.symm), lookup_putF, if_pos rfl]
theorem hF_tap (t : Addr) (tap : Bool) : (hF t tap).lookup ("tap" : Str) = some (.bl tap) := by
  unfold hF
  rw [lookup_putF, if_pos rfl]
theorem hF_no (t : Addr) (tap : Bool) {m : Str} (h1 : ¬ m = "tap") (h2 : ¬ m = "jug_sizes") : (hF t tap).lookup m = none := by
  unfold hF
  rw [lookup_putF, if_neg h1, lookup_putF, if_neg h2]
  rfl
def House (CH : Addr) (H : Hp) (p : Addr) (sz : List Int) (tap : Bool) : Prop := ∃ dx t, H p = some (.ins CH dx (hF t tap)) ∧ H t = some (.tup (sz.map V.int))
theorem House.mono {CH : Addr} {H H' : Hp} {p : Addr} {sz : List Int} {tap : Bool} (h : House CH H p sz tap) (s : Same H H') : House CH H' p sz tap := by
  obtain ⟨dx, t, h1, h2⟩ := h
  exact ⟨dx, t, s _ _ h1, s _ _ h2⟩
/-- what the class House must have -/
structure CHs (K : PySem.W.Frag) (C : Addr) : Prop where
  cl : Cls K C
  js : NoAttr K C "jug_sizes"
  tap : NoAttr K C "tap"
section
variable {P : Program} {w : World} {K : PySem.W.Frag} {mg : Str → Option Value} {base : Heap} {CH : Addr}
def sp_sizes (CH : Addr) : Sp := fun vs H Q _ => ∃ p sz tap, vs = [.ref p] ∧ House CH H p sz tap ∧ ∀ l, H l = none → Q (.ref l) (upd H l (.lst (sz.map V.int)))
theorem ok_sizes {f : Addr} {fd : FuncData} (F : Fun K "sizes" "House.sizes" s_House_sizes f fd) (B : Bt mg) (C : CHs K CH) : FnOk P w K mg base CX0 1 f fd ["self"] (sp_sizes CH) := by
  refine F.ok sc_House_sizes (fun vs H Q E h => ?_) (fun cdv A outer s H vs Q E hr h => ?_)
  · obtain ⟨p, sz, tap, rfl, _⟩ := h
    rfl
  · obtain ⟨p, sz, tap, rfl, ⟨dx, t, hp, ht⟩, k⟩ := h
    refine ⟨_, pss_one (ps_ret (pe_callTy call_list_of (by rfl) B.list bt_list (pa_cons (pe_fld (pv 0) rfl) pa_nil))), ?_⟩
    exact ⟨_, rfl, p, CH, dx, _, _, rfl, hp, C.cl, C.js, hF_js _ _, t, _, rfl, .inr (SqT.of ht), fun l hl => k l hl⟩
def sp_held_in (CH : Addr) : Sp := fun vs H Q _ => ∃ p sz tap a st, vs = [.ref p, .ref a] ∧ House CH H p sz tap ∧ H a = some (.tup (st.map V.int)) ∧ J.IsSt sz st ∧
  ∀ l H', Same H H' → H l = none → H' l = some (.lst (st.map V.int)) → Q (.ref l) H'
theorem ok_held_in {f : Addr} {fd : FuncData} (F : Fun K "held_in" "held_in" s_held_in f fd) (B : Bt mg) (N : FnB P w K mg base 1 "is_number" ["value", "least", "most"] sp_is_number)
    (S : MeB P w K mg base 1 CH "sizes" ["self"] (sp_sizes CH)) : FnOk P w K mg base CX0 2 f fd ["house", "state"] (sp_held_in CH) := by
  refine F.ok sc_held_in (fun vs H Q E h => ?_) (fun cdv A outer s H vs Q E hr h => ?_)
  · obtain ⟨p, sz, tap, a, st, rfl, _⟩ := h
    rfl
  · obtain ⟨p, sz, tap, a, st, rfl, hh, ha, hst, k⟩ := h
    refine ⟨_, pss_cons (ps_if (pt_not (pt_val (pe_callB call_isinst (by rfl) B.isinstance bt_isinstance (pa_cons (pv 1) (pa_cons (pe_bltn (v := .ty "tuple") (by rfl) B.tuple bt_tuple rfl) pa_nil))))) pss_never pss_nil)
      (pss_cons (ps_set (i := 2) sc_held_in.nd rfl (Or.inl rfl) (pe_callTy call_list_of (by rfl) B.list bt_list (pa_cons (pv 1) pa_nil)))
      (pss_cons (ps_set (i := 3) sc_held_in.nd rfl (Or.inl rfl) (pe_me0 S (pv 0) hr))
      (pss_cons (ps_if (pt_cmpR op_ne (pe_callB call_len_seq (by rfl) B.len PySem.boot_len (pa_cons (pv 2) pa_nil)) (pe_callB call_len_seq (by rfl) B.len PySem.boot_len (pa_cons (pv 3) pa_nil)) (nomark _)) pss_never pss_nil)
      (pss_cons (ps_for PassesOwn.never rfl (pi_zip (by rfl) B.zip (pa_cons (pv 2) (pa_cons (pv 3) pa_nil)))
        (pg_tup rfl (pgs_cons (pg_name (i := 4) sc_held_in.nd rfl (Or.inl rfl)) (pgs_cons (pg_name (i := 5) sc_held_in.nd rfl (Or.inl rfl)) pgs_nil)))
        (pss_one (ps_if (pt_not (pt_val (pe_fn N hr (pa_cons (pv 4) (pa_cons pe_int (pa_cons (pv 5) pa_nil)))))) pss_never pss_nil)))
      (pss_one (ps_ret (pv 2))))))), ?_⟩
    refine ⟨_, rfl, _, _, _, _, _, rfl, .ty "tuple", .tup ha, kit_tt, _, rfl, iteF ?_⟩
    refine ⟨_, rfl, a, _, rfl, .inr (SqT.of ha), fun l hl => ?_⟩
    have s1 : Same H (upd H l (.lst (st.map V.int))) := Same.new hl
    obtain ⟨dx, t, hp, ht⟩ := id hh
    refine ⟨_, rfl, p, dx, _, rfl, s1 _ _ hp, hF_no _ _ (by decide +kernel) (by decide +kernel), p, sz, tap, rfl, hh.mono s1, fun m hm => ?_⟩
    have s2 : Same (upd H l (.lst (st.map V.int))) (upd (upd H l (.lst (st.map V.int))) m (.lst (sz.map V.int))) := Same.new hm
    have e1 := s2 _ _ (upd_same (H := H))
    have hlen : (st.map V.int).length = (sz.map V.int).length := by simp [hst.len]
    refine ⟨_, rfl, l, _, rfl, .inl (SqL.of e1), _, rfl, m, _, rfl, .inl (SqL.of upd_same), rfl, _, rfl, iteNS (by rw [hlen]) ?_⟩
    refine ⟨_, rfl, _, rfl, l, m, _, _, rfl, SqL.of e1, SqL.of upd_same, for_zip (xs := st.map V.int) (ys := sz.map V.int) hlen
      (fun i σ H' => ∃ v4 v5, σ = [some (.ref p), some (.ref a), some (.ref l), some (.ref m), v4, v5] ∧ Same (upd (upd H l (.lst (st.map V.int))) m (.lst (sz.map V.int))) H')
      ⟨none, none, rfl, Same.refl _⟩ (fun i σ H' _ ⟨_, _, _, s3⟩ => ⟨SqL.of (s3 _ _ e1), SqL.of (s3 _ _ upd_same)⟩) ?_ ?_⟩
    · rintro i x y T σ H' hx hy hT ⟨v4, v5, rfl, s3⟩
      obtain ⟨zx, ex, rfl⟩ := mem_ints hx
      obtain ⟨zy, ey, rfl⟩ := mem_ints hy
      have hb := st_at hst ex ey
      refine ⟨T, _, rfl, SqT.of upd_same, rfl, _, _, rfl, _, _, rfl, rfl, ?_⟩
      refine ⟨_, rfl, _, rfl, zx, 0, zy, rfl, _, rfl, ?_⟩
      rw [decide_eq_true hb.1, decide_eq_true hb.2]
      refine iteF ?_
      exact ⟨_, _, rfl, s3.lay hT⟩
    · rintro σ H' ⟨v4, v5, rfl, s3⟩
      exact ⟨_, rfl, k l H' (s1.trans (s2.trans s3)) hl (s3 _ _ e1)⟩
end

/-! ### moves -/
structure Cz where
  P : Addr
  F : Addr
  E : Addr
def pF (a b : Nat) : List (Str × V) := putF "other" (.int b) (putF "one" (.int a) [])
def jF (a : Nat) : List (Str × V) := putF "jug" (.int a) []
theorem n_one_other : ¬ (("one" : Str) = "other") := by decide +kernel
theorem pF_one (a b : Nat) : (pF a b).lookup ("one" : Str) = some (.int a) := by
  unfold pF
  rw [lookup_putF, if_neg n_one_other, lookup_putF, if_pos rfl]
theorem pF_other (a b : Nat) : (pF a b).lookup ("other" : Str) = some (.int b) := by
  unfold pF
  rw [lookup_putF, if_pos rfl]
theorem pF_no (a b : Nat) {m : Str} (h1 : ¬ m = "other") (h2 : ¬ m = "one") : (pF a b).lookup m = none := by
  unfold pF
  rw [lookup_putF, if_neg h1, lookup_putF, if_neg h2]
  rfl
theorem jF_jug (a : Nat) : (jF a).lookup ("jug" : Str) = some (.int a) := by
  unfold jF
  rw [lookup_putF, if_pos rfl]
theorem jF_no (a : Nat) {m : Str} (h1 : ¬ m = "jug") : (jF a).lookup m = none := by
  unfold jF
  rw [lookup_putF, if_neg h1]
  rfl
def Cz.cl (Z : Cz) : J.Mv → Addr
  | .pour _ _ => Z.P
  | .fill _ => Z.F
  | .emp _ => Z.E
def fsOf : J.Mv → List (Str × V)
  | .pour a b => pF a b
  | .fill a => jF a
  | .emp a => jF a
/-- a move stands at p -/
def MvAt (Z : Cz) (H : Hp) (p : Addr) (m : J.Mv) : Prop := ∃ dx, H p = some (.ins (Z.cl m) dx (fsOf m))
theorem MvAt.mono {Z : Cz} {H H' : Hp} {p : Addr} {m : J.Mv} (h : MvAt Z H p m) (s : Same H H') : MvAt Z H' p m := let ⟨dx, e⟩ := h; ⟨dx, s _ _ e⟩
structure CPo (K : PySem.W.Frag) (C : Addr) : Prop where
  cl : Cls K C
  one : NoAttr K C "one"
  other : NoAttr K C "other"
structure CJu (K : PySem.W.Frag) (C : Addr) : Prop where
  cl : Cls K C
  jug : NoAttr K C "jug"
theorem ixN_of {n j : Nat} (h : j < n) : ixN n (j : Int) = some j := by
  unfold ixN
  rw [if_pos (by omega), if_pos (by omega)]; simp
theorem map_set_int (l : List Int) (j : Nat) (v : Int) : (l.map V.int).set j (.int v) = (l.set j v).map V.int := by
  rw [List.map_set]
section
variable {P : Program} {w : World} {K : PySem.W.Frag} {mg : Str → Option Value} {base : Heap} {CH : Addr} {Z : Cz}
def sp_with_amount : Sp := fun vs H Q _ => ∃ (l : Addr) (xs : List Int) (j : Nat) (v : Int), vs = [.ref l, .int j, .int v] ∧ H l = some (.lst (xs.map V.int)) ∧ j < xs.length ∧
  ∀ m H', Same H H' → H' m = some (.lst ((xs.set j v).map V.int)) → Q (.ref m) H'
theorem ok_with_amount {f : Addr} {fd : FuncData} (F : Fun K "with_amount" "with_amount" s_with_amount f fd) (B : Bt mg) : FnOk P w K mg base CX0 1 f fd ["held", "jug", "many"] sp_with_amount := by
  refine F.ok sc_with_amount (fun vs H Q E h => ?_) (fun cdv A outer s H vs Q E hr h => ?_)
  · obtain ⟨l, xs, j, v, rfl, _⟩ := h
    rfl
  · obtain ⟨l, xs, j, v, rfl, hl, hj, k⟩ := h
    refine ⟨_, pss_cons (ps_set (i := 3) sc_with_amount.nd rfl (Or.inl rfl) (pe_callTy call_list_of (by rfl) B.list bt_list (pa_cons (pv 0) pa_nil)))
      (pss_cons (ps_asg (pv 2) (pg_sub (pv 3) (pv 1) set_list)) (pss_one (ps_ret (pv 3)))), ?_⟩
    refine ⟨_, rfl, l, _, rfl, .inl (SqL.of hl), fun m hm => ?_⟩
    refine ⟨_, rfl, _, rfl, _, rfl, m, _, _, j, rfl, rfl, upd_same, ixN_of (by simpa using hj), ?_⟩
    refine ⟨_, rfl, k m _ ((Same.new hm).put hm) ?_⟩
    rw [upd_same, map_set_int]
def sp_check_jug : Sp := fun vs H Q _ => ∃ (j : Nat), vs = [.int j] ∧ j ≤ 3 ∧ Q .non H
theorem ok_check_jug {f : Addr} {fd : FuncData} (F : Fun K "check_jug" "check_jug" s_check_jug f fd) (N : FnB P w K mg base 2 "is_jug" ["value"] sp_is_jug) : FnOk P w K mg base CX0 3 f fd ["jug"] sp_check_jug := by
  refine F.ok sc_check_jug (fun vs H Q E h => ?_) (fun cdv A outer s H vs Q E hr h => ?_)
  · obtain ⟨j, rfl, _⟩ := h
    rfl
  · obtain ⟨j, rfl, hj, k⟩ := h
    refine ⟨_, pss_one (ps_if (pt_not (pt_val (pe_fn N hr (pa_cons (pv 0) pa_nil)))) pss_never pss_nil), ?_⟩
    refine ⟨_, rfl, (j : Int), rfl, _, rfl, ?_⟩
    rw [decide_eq_true (by omega : (0 : Int) ≤ j), decide_eq_true (by omega : (j : Int) ≤ 3)]
    exact iteF k
def sp_check_house_has (CH : Addr) : Sp := fun vs H Q _ => ∃ p sz tap, ∃ (j : Nat), vs = [.ref p, .int j] ∧ House CH H p sz tap ∧ j < sz.length ∧ ∀ H', Same H H' → Q .non H'
theorem ok_check_house_has {f : Addr} {fd : FuncData} (F : Fun K "check_house_has" "check_house_has" s_check_house_has f fd) (B : Bt mg) (S : MeB P w K mg base 1 CH "sizes" ["self"] (sp_sizes CH)) :
    FnOk P w K mg base CX0 2 f fd ["house", "jug"] (sp_check_house_has CH) := by
  refine F.ok sc_check_house_has (fun vs H Q E h => ?_) (fun cdv A outer s H vs Q E hr h => ?_)
  · obtain ⟨p, sz, tap, j, rfl, _⟩ := h
    rfl
  · obtain ⟨p, sz, tap, j, rfl, hh, hj, k⟩ := h
    obtain ⟨dx, t, hp, ht⟩ := id hh
    refine ⟨_, pss_one (ps_if (pt_cmpR op_ge (pv 1) (pe_callB call_len_seq (by rfl) B.len PySem.boot_len (pa_cons (pe_me0 S (pv 0) hr) pa_nil)) (nomark _)) pss_never pss_nil), ?_⟩
    refine ⟨_, rfl, _, rfl, p, dx, _, rfl, hp, hF_no _ _ (by decide +kernel) (by decide +kernel), p, sz, tap, rfl, hh, fun m hm => ?_⟩
    refine ⟨m, _, rfl, .inl (SqL.of upd_same), _, _, rfl, rfl, _, rfl, ?_⟩
    rw [decide_eq_false (by simp; omega)]
    exact iteF (k _ (Same.new hm))
def sp_check_house_can_tap (CH : Addr) : Sp := fun vs H Q _ => ∃ p sz, ∃ (j : Nat), vs = [.ref p, .int j] ∧ House CH H p sz true ∧ j < sz.length ∧ ∀ H', Same H H' → Q .non H'
theorem ok_check_house_can_tap {f : Addr} {fd : FuncData} (F : Fun K "check_house_can_tap" "check_house_can_tap" s_check_house_can_tap f fd) (C : CHs K CH) (N : FnB P w K mg base 2 "check_house_has" ["house", "jug"] (sp_check_house_has CH)) :
    FnOk P w K mg base CX0 3 f fd ["house", "jug"] (sp_check_house_can_tap CH) := by
  refine F.ok sc_check_house_can_tap (fun vs H Q E h => ?_) (fun cdv A outer s H vs Q E hr h => ?_)
  · obtain ⟨p, sz, j, rfl, _⟩ := h
    rfl
  · obtain ⟨p, sz, j, rfl, hh, hj, k⟩ := h
    refine ⟨_, pss_cons (ps_expr (pe_fn N hr (pa_cons (pv 0) (pa_cons (pv 1) pa_nil)))) (pss_one (ps_if (pt_not (pt_val (pe_fld (pv 0) rfl))) pss_never pss_nil)), ?_⟩
    refine ⟨_, rfl, _, rfl, p, sz, true, j, rfl, hh, hj, fun H1 s1 => ?_⟩
    obtain ⟨dx, t, hp, ht⟩ := hh.mono s1
    exact ⟨_, rfl, p, CH, dx, _, _, rfl, hp, C.cl, C.tap, hF_tap _ _, _, rfl, iteF (k _ s1)⟩
def sp_Pour_init (Z : Cz) : Sp := fun vs H Q _ => ∃ (p dx : Addr) (a b : Nat), vs = [.ref p, .int a, .int b] ∧ H p = some (.ins Z.P dx []) ∧ a ≤ 3 ∧ b ≤ 3 ∧ a ≠ b ∧
  ∀ H', (∀ c o, H c = some o → c ≠ p → H' c = some o) → H' p = some (.ins Z.P dx (pF a b)) → Q .non H'
theorem ok_Pour_init {f : Addr} {fd : FuncData} (F : Fun K "__init__" "Pour.__init__" s_Pour_init f fd) (C : CPo K Z.P) (N : FnB P w K mg base 3 "check_jug" ["jug"] sp_check_jug) :
    FnOk P w K mg base CX0 4 f fd ["self", "one", "other"] (sp_Pour_init Z) := by
  refine F.ok sc_Pour_init (fun vs H Q E h => ?_) (fun cdv A outer s H vs Q E hr h => ?_)
  · obtain ⟨p, dx, a, b, rfl, _⟩ := h
    rfl
  · obtain ⟨p, dx, a, b, rfl, hp, ha, hb, hab, k⟩ := h
    refine ⟨_, pss_cons (ps_expr (pe_fn N hr (pa_cons (pv 1) pa_nil))) (pss_cons (ps_expr (pe_fn N hr (pa_cons (pv 2) pa_nil)))
      (pss_cons (ps_if (pt_cmpR op_eq (pv 1) (pv 2) (nomark _)) pss_never pss_nil)
      (pss_cons (ps_fld (pv 0) (pv 1) rfl) (pss_one (ps_fld (pv 0) (pv 2) rfl))))), ?_⟩
    refine ⟨_, rfl, a, rfl, ha, ?_⟩
    refine ⟨_, rfl, b, rfl, hb, ?_⟩
    refine ⟨_, rfl, _, rfl, rfl, _, rfl, ?_⟩
    rw [decide_eq_false (by simp; omega)]
    refine iteF ?_
    refine ⟨_, rfl, _, rfl, p, Z.P, dx, [], rfl, hp, C.cl, C.one, (by show 0 < 1000; decide), ?_⟩
    refine ⟨_, rfl, _, rfl, p, Z.P, dx, _, rfl, upd_same, C.cl, C.other, (by show 1 < 1000; decide), ?_⟩
    exact k _ (fun c o e hc => by rw [upd_ne hc, upd_ne hc]; exact e) upd_same
def sp_jug_init (C : Addr) : Sp := fun vs H Q _ => ∃ (p dx : Addr) (a : Nat), vs = [.ref p, .int a] ∧ H p = some (.ins C dx []) ∧ a ≤ 3 ∧
  ∀ H', (∀ c o, H c = some o → c ≠ p → H' c = some o) → H' p = some (.ins C dx (jF a)) → Q .non H'
theorem ok_Fill_init {f : Addr} {fd : FuncData} (F : Fun K "__init__" "Fill.__init__" s_Fill_init f fd) (C : CJu K Z.F) (N : FnB P w K mg base 3 "check_jug" ["jug"] sp_check_jug) :
    FnOk P w K mg base CX0 4 f fd ["self", "jug"] (sp_jug_init Z.F) := by
  refine F.ok sc_Fill_init (fun vs H Q E h => ?_) (fun cdv A outer s H vs Q E hr h => ?_)
  · obtain ⟨p, dx, a, rfl, _⟩ := h
    rfl
  · obtain ⟨p, dx, a, rfl, hp, ha, k⟩ := h
    refine ⟨_, pss_cons (ps_expr (pe_fn N hr (pa_cons (pv 1) pa_nil))) (pss_one (ps_fld (pv 0) (pv 1) rfl)), ?_⟩
    refine ⟨_, rfl, a, rfl, ha, ?_⟩
    refine ⟨_, rfl, _, rfl, p, Z.F, dx, [], rfl, hp, C.cl, C.jug, (by show 0 < 1000; decide), ?_⟩
    exact k _ (fun c o e hc => by rw [upd_ne hc]; exact e) upd_same
theorem ok_Empty_init {f : Addr} {fd : FuncData} (F : Fun K "__init__" "Empty.__init__" s_Empty_init f fd) (C : CJu K Z.E) (N : FnB P w K mg base 3 "check_jug" ["jug"] sp_check_jug) :
    FnOk P w K mg base CX0 4 f fd ["self", "jug"] (sp_jug_init Z.E) := by
  refine F.ok sc_Empty_init (fun vs H Q E h => ?_) (fun cdv A outer s H vs Q E hr h => ?_)
  · obtain ⟨p, dx, a, rfl, _⟩ := h
    rfl
  · obtain ⟨p, dx, a, rfl, hp, ha, k⟩ := h
    refine ⟨_, pss_cons (ps_expr (pe_fn N hr (pa_cons (pv 1) pa_nil))) (pss_one (ps_fld (pv 0) (pv 1) rfl)), ?_⟩
    refine ⟨_, rfl, a, rfl, ha, ?_⟩
    refine ⟨_, rfl, _, rfl, p, Z.E, dx, [], rfl, hp, C.cl, C.jug, (by show 0 < 1000; decide), ?_⟩
    exact k _ (fun c o e hc => by rw [upd_ne hc]; exact e) upd_same
/-- held_behind of each sort -/
def sp_hb (Z : Cz) (CH : Addr) (ok : J.Mv → Prop) : Sp := fun vs H Q _ => ∃ p h l sz tap st m, vs = [.ref p, .ref h, .ref l] ∧ ok m ∧ MvAt Z H p m ∧ House CH H h sz tap ∧ H l = some (.lst (st.map V.int)) ∧ J.IsSt sz st ∧ m.ok sz.length tap ∧
  ∀ r H', Same H H' → H' r = some (.lst ((J.behind sz st m).map V.int)) → Q (.ref r) H'
def isPour : J.Mv → Prop := fun m => match m with | .pour _ _ => True | _ => False
def isFill : J.Mv → Prop := fun m => match m with | .fill _ => True | _ => False
def isEmp : J.Mv → Prop := fun m => match m with | .emp _ => True | _ => False
theorem ok_Pour_hb {f : Addr} {fd : FuncData} (F : Fun K "held_behind" "Pour.held_behind" s_Pour_held_behind f fd) (B : Bt mg) (C : CPo K Z.P) (N : FnB P w K mg base 2 "check_house_has" ["house", "jug"] (sp_check_house_has CH))
    (S : MeB P w K mg base 1 CH "sizes" ["self"] (sp_sizes CH)) (W : FnB P w K mg base 1 "with_amount" ["held", "jug", "many"] sp_with_amount) :
    FnOk P w K mg base CX0 3 f fd ["self", "house", "held"] (sp_hb Z CH isPour) := by
  refine F.ok sc_Pour_held_behind (fun vs H Q E h => ?_) (fun cdv A outer s H vs Q E hr h => ?_)
  · obtain ⟨p, h', l, sz, tap, st, m, rfl, _⟩ := h
    rfl
  · obtain ⟨p, q, l, sz, tap, st, m, rfl, hm, hmv, hh, hl, hst, hok, k⟩ := h
    cases m with
    | fill a => exact hm.elim
    | emp a => exact hm.elim
    | pour a b =>
      obtain ⟨ha, hb, hab⟩ := hok
      have hr1 : Room 1 _ := hr.mono (by decide)
      have la : a < st.length := by rw [hst.len]; exact ha
      have lb : b < st.length := by rw [hst.len]; exact hb
      refine ⟨_, pss_cons (ps_expr (pe_fn N hr (pa_cons (pv 1) (pa_cons (pe_fld (pv 0) rfl) pa_nil)))) (pss_cons (ps_expr (pe_fn N hr (pa_cons (pv 1) (pa_cons (pe_fld (pv 0) rfl) pa_nil))))
        (pss_cons (ps_set (i := 3) sc_Pour_held_behind.nd rfl (Or.inl rfl) (pe_op op_sub (pe_ix ix_list (pe_me0 S (pv 1) hr1) (pe_fld (pv 0) rfl) (fun _ _ => rfl)) (pe_ix ix_list (pv 2) (pe_fld (pv 0) rfl) (fun _ _ => rfl))))
        (pss_cons (ps_set (i := 4) sc_Pour_held_behind.nd rfl (Or.inl rfl) (pe_callB (call_min2 rfl) (by rfl) B.min bt_min (pa_cons (pe_ix ix_list (pv 2) (pe_fld (pv 0) rfl) (fun _ _ => rfl)) (pa_cons (pv 3) pa_nil))))
        (pss_cons (ps_set (i := 5) sc_Pour_held_behind.nd rfl (Or.inl rfl) (pe_fn W hr1 (pa_cons (pv 2) (pa_cons (pe_fld (pv 0) rfl) (pa_cons (pe_op op_sub (pe_ix ix_list (pv 2) (pe_fld (pv 0) rfl) (fun _ _ => rfl)) (pv 4)) pa_nil)))))
        (pss_one (ps_ret (pe_fn W hr1 (pa_cons (pv 5) (pa_cons (pe_fld (pv 0) rfl) (pa_cons (pe_op op_add (pe_ix ix_list (pv 2) (pe_fld (pv 0) rfl) (fun _ _ => rfl)) (pv 4)) pa_nil)))))))))), ?_⟩
      obtain ⟨dp, hp⟩ := hmv
      have hp : H p = some (.ins Z.P dp (pF a b)) := hp
      refine ⟨_, rfl, _, rfl, p, Z.P, dp, _, _, rfl, hp, C.cl, C.one, pF_one _ _, q, sz, tap, a, rfl, hh, ha, fun H1 s1 => ?_⟩
      refine ⟨_, rfl, _, rfl, p, Z.P, dp, _, _, rfl, s1 _ _ hp, C.cl, C.other, pF_other _ _, q, sz, tap, b, rfl, hh.mono s1, hb, fun H2 s2 => ?_⟩
      have s02 := s1.trans s2
      obtain ⟨dq, t, hq, ht⟩ := hh.mono s02
      refine ⟨_, rfl, q, dq, _, rfl, hq, hF_no _ _ (by decide +kernel) (by decide +kernel), q, sz, tap, rfl, hh.mono s02, fun x hx => ?_⟩
      have s03 : Same H (upd H2 x (.lst (sz.map V.int))) := s02.lay hx
      refine ⟨_, rfl, p, Z.P, dp, _, _, rfl, s03 _ _ hp, C.cl, C.other, pF_other _ _, x, _, _, _, rfl, rfl, SqL.of upd_same, atI_nat (getV_of hb), ?_⟩
      refine ⟨_, rfl, _, rfl, p, Z.P, dp, _, _, rfl, s03 _ _ hp, C.cl, C.other, pF_other _ _, l, _, _, _, rfl, rfl, SqL.of (s03 _ _ hl), atI_nat (getV_of lb), _, _, rfl, rfl, ?_⟩
      refine ⟨_, rfl, _, rfl, p, Z.P, dp, _, _, rfl, s03 _ _ hp, C.cl, C.one, pF_one _ _, l, _, _, _, rfl, rfl, SqL.of (s03 _ _ hl), atI_nat (getV_of la), _, rfl, _, _, rfl, ?_⟩
      refine ⟨_, rfl, _, rfl, p, Z.P, dp, _, _, rfl, s03 _ _ hp, C.cl, C.one, pF_one _ _, _, rfl, _, rfl, p, Z.P, dp, _, _, rfl, s03 _ _ hp, C.cl, C.one, pF_one _ _, l, _, _, _, rfl, rfl, SqL.of (s03 _ _ hl), atI_nat (getV_of la), _, rfl, _, _, rfl, rfl, l, st, a, _, rfl, s03 _ _ hl, la, fun r H4 s4 e4 => ?_⟩
      have s04 := s03.trans s4
      refine ⟨_, rfl, _, rfl, p, Z.P, dp, _, _, rfl, s04 _ _ hp, C.cl, C.other, pF_other _ _, _, rfl, _, rfl, p, Z.P, dp, _, _, rfl, s04 _ _ hp, C.cl, C.other, pF_other _ _, l, _, _, _, rfl, rfl, SqL.of (s04 _ _ hl), atI_nat (getV_of lb), _, rfl, _, _, rfl, rfl, r, _, b, _, rfl, e4, (by simpa using lb), fun r' H5 s5 e5 => ?_⟩
      exact k r' H5 (s04.trans s5) e5
end

/-! ### what stays: all objects but lists and dicts -/
def fx : HO → Bool
  | .lst _ => false
  | .dK _ => false
  | .dT _ => false
  | _ => true
def Fix (H H' : Hp) : Prop := ∀ c o, H c = some o → fx o = true → H' c = some o
theorem Fix.refl (H : Hp) : Fix H H := fun _ _ e _ => e
theorem Fix.of {H H' : Hp} (s : Same H H') : Fix H H' := fun c o e _ => s c o e
theorem Fix.trans {H H1 H2 : Hp} (a : Fix H H1) (b : Fix H1 H2) : Fix H H2 := fun c o e f => b c o (a c o e f) f
theorem Fix.put {H : Hp} {l : Addr} {o o' : HO} (h : H l = some o) (f : fx o = false) : Fix H (upd H l o') := fun c u e g => by
  rw [upd_ne]
  · exact e
  · rintro rfl
    rw [h] at e
    cases e
    rw [f] at g
    cases g
theorem MvAt.fix {Z : Cz} {H H' : Hp} {p : Addr} {m : J.Mv} (h : MvAt Z H p m) (s : Fix H H') : MvAt Z H' p m := let ⟨dx, e⟩ := h; ⟨dx, s _ _ e rfl⟩
theorem House.fix {CH : Addr} {H H' : Hp} {p : Addr} {sz : List Int} {tap : Bool} (h : House CH H p sz tap) (s : Fix H H') : House CH H' p sz tap := by
  obtain ⟨dx, t, h1, h2⟩ := h
  exact ⟨dx, t, s _ _ h1 rfl, s _ _ h2 rfl⟩
/-- a move, a tuple of ints, as values -/
def isM (Z : Cz) (H : Hp) : V → J.Mv → Prop := fun v m => ∃ p, v = .ref p ∧ MvAt Z H p m
def isTI (H : Hp) : V → List Int → Prop := fun v st => ∃ a, v = .ref a ∧ H a = some (.tup (st.map V.int))
theorem isM.fix {Z : Cz} {H H' : Hp} (s : Fix H H') : ∀ v m, isM Z H v m → isM Z H' v m := fun _ _ ⟨p, e, h⟩ => ⟨p, e, h.fix s⟩
theorem isTI.fix {H H' : Hp} (s : Fix H H') : ∀ v m, isTI H v m → isTI H' v m := fun _ _ ⟨p, e, h⟩ => ⟨p, e, s _ _ h rfl⟩
theorem pm_fix {Z : Cz} {H H' : Hp} {vs : List V} {ms : List J.Mv} (h : Paired (isM Z H) vs ms) (s : Fix H H') : Paired (isM Z H') vs ms := Paired.mapP h (isM.fix s)
theorem pt_fix {H H' : Hp} {vs : List V} {ms : List (List Int)} (h : Paired (isTI H) vs ms) (s : Fix H H') : Paired (isTI H') vs ms := Paired.mapP h (isTI.fix s)
structure CTy (K : PySem.W.Frag) (C : Addr) : Prop where
  ha : PySem.W.findIn K (.ref C) "__class__" = some (some (.builtin "object.__class__"))
  hn : PySem.W.specialIn K (.builtin "object.__class__") "__get__" = some (some (.builtin "getset_descriptor.__get__"))
  htk : PySem.W.takesIn K (.builtin "object.__class__") = some true
  hm : PySem.W.mroIn K C (.type "object") = some true
structure MvC (K : PySem.W.Frag) (mg : Str → Option Value) (Z : Cz) : Prop where
  po : CPo K Z.P
  fi : CJu K Z.F
  em : CJu K Z.E
  tP : CTy K Z.P
  tF : CTy K Z.F
  tE : CTy K Z.E
  gP : mg "Pour" = some (.ref Z.P)
  gF : mg "Fill" = some (.ref Z.F)
  gE : mg "Empty" = some (.ref Z.E)
  kFP : PySem.W.kitOne K (.ref Z.F) (.ref Z.P) = some false
  kEP : PySem.W.kitOne K (.ref Z.E) (.ref Z.P) = some false
  kEF : PySem.W.kitOne K (.ref Z.E) (.ref Z.F) = some false
theorem kit_self {K : PySem.W.Frag} (C : Addr) : PySem.W.kitOne K (.ref C) (.ref C) = some true := by
  unfold PySem.W.kitOne
  rw [if_pos (by simp)]
theorem MvC.ty {K : PySem.W.Frag} {mg : Str → Option Value} {Z : Cz} (M : MvC K mg Z) {H : Hp} {p : Addr} {m : J.Mv} (h : MvAt Z H p m) : TyOf K H (.ref p) (.ref (Z.cl m)) := by
  obtain ⟨dx, h⟩ := h
  cases m with
  | pour a b => exact .ins h M.po.cl M.tP.ha M.tP.hn M.tP.htk M.tP.hm
  | fill a => exact .ins h M.fi.cl M.tF.ha M.tF.hn M.tF.htk M.tF.hm
  | emp a => exact .ins h M.em.cl M.tE.ha M.tE.hn M.tE.htk M.tE.hm
theorem MvC.any {K : PySem.W.Frag} {mg : Str → Option Value} {Z : Cz} (M : MvC K mg Z) (m : J.Mv) : PySem.W.kitAny K (.ref (Z.cl m)) [.ref Z.P, .ref Z.F, .ref Z.E] = some true := by
  cases m with
  | pour a b => show (match PySem.W.kitOne K (.ref Z.P) (.ref Z.P) with | some true => some true | some false => _ | none => none) = _; rw [kit_self]
  | fill a =>
    show (match PySem.W.kitOne K (.ref Z.F) (.ref Z.P) with | some true => some true | some false => (match PySem.W.kitOne K (.ref Z.F) (.ref Z.F) with | some true => some true | some false => _ | none => none) | none => none) = _
    rw [M.kFP]; dsimp only; rw [kit_self]
  | emp a =>
    show (match PySem.W.kitOne K (.ref Z.E) (.ref Z.P) with | some true => some true | some false => (match PySem.W.kitOne K (.ref Z.E) (.ref Z.F) with | some true => some true | some false => (match PySem.W.kitOne K (.ref Z.E) (.ref Z.E) with | some true => some true | some false => _ | none => none) | none => none) | none => none) = _
    rw [M.kEP]; dsimp only; rw [M.kEF]; dsimp only; rw [kit_self]
section
variable {P : Program} {w : World} {K : PySem.W.Frag} {mg : Str → Option Value} {base : Heap} {CH : Addr} {Z : Cz}
theorem ok_Fill_hb {f : Addr} {fd : FuncData} (F : Fun K "held_behind" "Fill.held_behind" s_Fill_held_behind f fd) (B : Bt mg) (C : CJu K Z.F) (N : FnB P w K mg base 3 "check_house_can_tap" ["house", "jug"] (sp_check_house_can_tap CH))
    (S : MeB P w K mg base 1 CH "sizes" ["self"] (sp_sizes CH)) (W : FnB P w K mg base 1 "with_amount" ["held", "jug", "many"] sp_with_amount) :
    FnOk P w K mg base CX0 4 f fd ["self", "house", "held"] (sp_hb Z CH isFill) := by
  refine F.ok sc_Fill_held_behind (fun vs H Q E h => ?_) (fun cdv A outer s H vs Q E hr h => ?_)
  · obtain ⟨p, h', l, sz, tap, st, m, rfl, _⟩ := h
    rfl
  · obtain ⟨p, q, l, sz, tap, st, m, rfl, hm, hmv, hh, hl, hst, hok, k⟩ := h
    cases m with
    | pour a b => exact hm.elim
    | emp a => exact hm.elim
    | fill a =>
      obtain ⟨ha, rfl⟩ := hok
      have hr1 : Room 1 _ := hr.mono (by decide)
      have la : a < st.length := by rw [hst.len]; exact ha
      refine ⟨_, pss_cons (ps_expr (pe_fn N hr (pa_cons (pv 1) (pa_cons (pe_fld (pv 0) rfl) pa_nil))))
        (pss_one (ps_ret (pe_fn W hr1 (pa_cons (pv 2) (pa_cons (pe_fld (pv 0) rfl) (pa_cons (pe_ix ix_list (pe_me0 S (pv 1) hr1) (pe_fld (pv 0) rfl) (fun _ _ => rfl)) pa_nil)))))), ?_⟩
      obtain ⟨dp, hp⟩ := hmv
      have hp : H p = some (.ins Z.F dp (jF a)) := hp
      refine ⟨_, rfl, _, rfl, p, Z.F, dp, _, _, rfl, hp, C.cl, C.jug, jF_jug _, q, sz, a, rfl, hh, ha, fun H1 s1 => ?_⟩
      obtain ⟨dq, t, hq, ht⟩ := hh.mono s1
      refine ⟨_, rfl, _, rfl, p, Z.F, dp, _, _, rfl, s1 _ _ hp, C.cl, C.jug, jF_jug _, _, rfl, q, dq, _, rfl, hq, hF_no _ _ (by decide +kernel) (by decide +kernel), q, sz, true, rfl, hh.mono s1, fun x hx => ?_⟩
      have s2 : Same H (upd H1 x (.lst (sz.map V.int))) := s1.lay hx
      refine ⟨_, rfl, p, Z.F, dp, _, _, rfl, s2 _ _ hp, C.cl, C.jug, jF_jug _, x, _, _, _, rfl, rfl, SqL.of upd_same, atI_nat (getV_of ha), l, st, a, _, rfl, s2 _ _ hl, la, fun r H4 s4 e4 => ?_⟩
      exact k r H4 (s2.trans s4) e4
theorem ok_Empty_hb {f : Addr} {fd : FuncData} (F : Fun K "held_behind" "Empty.held_behind" s_Empty_held_behind f fd) (B : Bt mg) (C : CJu K Z.E) (N : FnB P w K mg base 3 "check_house_can_tap" ["house", "jug"] (sp_check_house_can_tap CH))
    (W : FnB P w K mg base 1 "with_amount" ["held", "jug", "many"] sp_with_amount) :
    FnOk P w K mg base CX0 4 f fd ["self", "house", "held"] (sp_hb Z CH isEmp) := by
  refine F.ok sc_Empty_held_behind (fun vs H Q E h => ?_) (fun cdv A outer s H vs Q E hr h => ?_)
  · obtain ⟨p, h', l, sz, tap, st, m, rfl, _⟩ := h
    rfl
  · obtain ⟨p, q, l, sz, tap, st, m, rfl, hm, hmv, hh, hl, hst, hok, k⟩ := h
    cases m with
    | pour a b => exact hm.elim
    | fill a => exact hm.elim
    | emp a =>
      obtain ⟨ha, rfl⟩ := hok
      have hr1 : Room 1 _ := hr.mono (by decide)
      have la : a < st.length := by rw [hst.len]; exact ha
      refine ⟨_, pss_cons (ps_expr (pe_fn N hr (pa_cons (pv 1) (pa_cons (pe_fld (pv 0) rfl) pa_nil))))
        (pss_one (ps_ret (pe_fn W hr1 (pa_cons (pv 2) (pa_cons (pe_fld (pv 0) rfl) (pa_cons pe_int pa_nil)))))), ?_⟩
      obtain ⟨dp, hp⟩ := hmv
      have hp : H p = some (.ins Z.E dp (jF a)) := hp
      refine ⟨_, rfl, _, rfl, p, Z.E, dp, _, _, rfl, hp, C.cl, C.jug, jF_jug _, q, sz, a, rfl, hh, ha, fun H1 s1 => ?_⟩
      refine ⟨_, rfl, _, rfl, p, Z.E, dp, _, _, rfl, s1 _ _ hp, C.cl, C.jug, jF_jug _, l, st, a, _, rfl, s1 _ _ hl, la, fun r H4 s4 e4 => ?_⟩
      exact k r H4 (s1.trans s4) e4
/-- move.done -/
def sp_done (Z : Cz) (CH : Addr) : Sp := fun vs H Q _ => ∃ p h a sz tap st m, vs = [.ref p, .ref h, .ref a] ∧ MvAt Z H p m ∧ House CH H h sz tap ∧ H a = some (.tup (st.map V.int)) ∧ J.IsSt sz st ∧ m.ok sz.length tap ∧
  ∀ r H', Same H H' → H' r = some (.tup ((J.behind sz st m).map V.int)) → Q (.ref r) H'
theorem ok_done {f : Addr} {fd : FuncData} (F : Fun K "done" "Move.done" s_Move_done f fd) (B : Bt mg) (N : FnB P w K mg base 2 "held_in" ["house", "state"] (sp_held_in CH))
    (HP : MeB P w K mg base 4 Z.P "held_behind" ["self", "house", "held"] (sp_hb Z CH isPour)) (HF : MeB P w K mg base 4 Z.F "held_behind" ["self", "house", "held"] (sp_hb Z CH isFill)) (HE : MeB P w K mg base 4 Z.E "held_behind" ["self", "house", "held"] (sp_hb Z CH isEmp)) :
    FnOk P w K mg base CX0 5 f fd ["self", "house", "state"] (sp_done Z CH) := by
  refine F.ok sc_Move_done (fun vs H Q E h => ?_) (fun cdv A outer s H vs Q E hr h => ?_)
  · obtain ⟨p, h', a, sz, tap, st, m, rfl, _⟩ := h
    rfl
  · obtain ⟨p, q, a, sz, tap, st, m, rfl, hmv, hh, ha, hst, hok, k⟩ := h
    have hr2 : Room 2 _ := hr.mono (by decide)
    obtain ⟨dp, hp⟩ := id hmv
    cases m with
    | pour x y =>
      refine ⟨_, pss_cons (ps_set (i := 3) sc_Move_done.nd rfl (Or.inl rfl) (pe_fn N hr2 (pa_cons (pv 1) (pa_cons (pv 2) pa_nil))))
        (pss_one (ps_ret (pe_callTy call_tuple_of (by rfl) B.tuple bt_tuple (pa_cons (pe_me HP (pv 0) hr (pa_cons (pv 1) (pa_cons (pv 3) pa_nil))) pa_nil)))), ?_⟩
      refine ⟨_, rfl, _, rfl, q, sz, tap, a, st, rfl, hh, ha, hst, fun l H1 s1 nl hl => ?_⟩
      refine ⟨_, rfl, p, dp, _, rfl, s1 _ _ hp, pF_no _ _ (by decide +kernel) (by decide +kernel), _, rfl, _, rfl, p, q, l, sz, tap, st, .pour x y, rfl, trivial, hmv.mono s1, hh.mono s1, hl, hst, hok, fun r H2 s2 hr2 => ?_⟩
      exact ⟨r, _, rfl, .inl ⟨SqL.of hr2, fun t nt => k t _ ((s1.trans s2).lay nt) upd_same⟩⟩
    | fill x =>
      refine ⟨_, pss_cons (ps_set (i := 3) sc_Move_done.nd rfl (Or.inl rfl) (pe_fn N hr2 (pa_cons (pv 1) (pa_cons (pv 2) pa_nil))))
        (pss_one (ps_ret (pe_callTy call_tuple_of (by rfl) B.tuple bt_tuple (pa_cons (pe_me HF (pv 0) hr (pa_cons (pv 1) (pa_cons (pv 3) pa_nil))) pa_nil)))), ?_⟩
      refine ⟨_, rfl, _, rfl, q, sz, tap, a, st, rfl, hh, ha, hst, fun l H1 s1 nl hl => ?_⟩
      refine ⟨_, rfl, p, dp, _, rfl, s1 _ _ hp, jF_no _ (by decide +kernel), _, rfl, _, rfl, p, q, l, sz, tap, st, .fill x, rfl, trivial, hmv.mono s1, hh.mono s1, hl, hst, hok, fun r H2 s2 hr2 => ?_⟩
      exact ⟨r, _, rfl, .inl ⟨SqL.of hr2, fun t nt => k t _ ((s1.trans s2).lay nt) upd_same⟩⟩
    | emp x =>
      refine ⟨_, pss_cons (ps_set (i := 3) sc_Move_done.nd rfl (Or.inl rfl) (pe_fn N hr2 (pa_cons (pv 1) (pa_cons (pv 2) pa_nil))))
        (pss_one (ps_ret (pe_callTy call_tuple_of (by rfl) B.tuple bt_tuple (pa_cons (pe_me HE (pv 0) hr (pa_cons (pv 1) (pa_cons (pv 3) pa_nil))) pa_nil)))), ?_⟩
      refine ⟨_, rfl, _, rfl, q, sz, tap, a, st, rfl, hh, ha, hst, fun l H1 s1 nl hl => ?_⟩
      refine ⟨_, rfl, p, dp, _, rfl, s1 _ _ hp, jF_no _ (by decide +kernel), _, rfl, _, rfl, p, q, l, sz, tap, st, .emp x, rfl, trivial, hmv.mono s1, hh.mono s1, hl, hst, hok, fun r H2 s2 hr2 => ?_⟩
      exact ⟨r, _, rfl, .inl ⟨SqL.of hr2, fun t nt => k t _ ((s1.trans s2).lay nt) upd_same⟩⟩
/-- moves_in -/
def sp_moves_in (Z : Cz) : Sp := fun vs H Q _ => ∃ l xs ms, vs = [.ref l] ∧ H l = some (.lst xs) ∧ Paired (isM Z H) xs ms ∧ ∀ r H', Same H H' → H r = none → H' r = some (.lst xs) → Q (.ref r) H'
theorem ok_moves_in {f : Addr} {fd : FuncData} (F : Fun K "moves_in" "moves_in" s_moves_in f fd) (B : Bt mg) (M : MvC K mg Z) : FnOk P w K mg base CX0 1 f fd ["moves"] (sp_moves_in Z) := by
  refine F.ok sc_moves_in (fun vs H Q E h => ?_) (fun cdv A outer s H vs Q E hr h => ?_)
  · obtain ⟨l, xs, ms, rfl, _⟩ := h
    rfl
  · obtain ⟨l, xs, ms, rfl, hl, hp, k⟩ := h
    refine ⟨_, pss_cons (ps_if (pt_not (pt_val (pe_callB call_isinst (by rfl) B.isinstance bt_isinstance (pa_cons (pv 0) (pa_cons (pe_bltn (v := .ty "list") (by rfl) B.list bt_list rfl) pa_nil))))) pss_never pss_nil)
      (pss_cons (ps_set (i := 1) sc_moves_in.nd rfl (Or.inl rfl) (pe_callTy call_list_of (by rfl) B.list bt_list (pa_cons (pv 0) pa_nil)))
      (pss_cons (ps_for PassesOwn.never rfl (pi_list (pv 1)) (pg_name (i := 2) sc_moves_in.nd rfl (Or.inl rfl))
        (pss_one (ps_if (pt_not (pt_val (pe_callB call_isinstT (by rfl) B.isinstance bt_isinstance (pa_cons (pv 2) (pa_cons (pe_tup (pa_cons (pe_glob (v := .ref Z.P) (by rfl) M.gP rfl) (pa_cons (pe_glob (v := .ref Z.F) (by rfl) M.gF rfl) (pa_cons (pe_glob (v := .ref Z.E) (by rfl) M.gE rfl) pa_nil)))) pa_nil))))) pss_never pss_nil)))
      (pss_one (ps_ret (pv 1))))), ?_⟩
    refine ⟨_, rfl, _, _, _, _, _, rfl, .ty "list", .lst hl, kit_ll, _, rfl, iteF ?_⟩
    refine ⟨_, rfl, l, _, rfl, .inl (SqL.of hl), fun r nr => ?_⟩
    have s1 : Same H (upd H r (.lst xs)) := Same.new nr
    refine ⟨_, rfl, r, rfl, ⟨_, SqL.of upd_same⟩, for_list (K := K) (a := r) (xs := xs) (fun i σ H' => ∃ v, σ = [some (.ref l), some (.ref r), v] ∧ Same (upd H r (.lst xs)) H')
      ⟨none, rfl, Same.refl _⟩ (fun i σ H' _ ⟨_, _, s2⟩ => SqL.of (s2 _ _ upd_same)) ?_ ?_⟩
    · rintro i x σ H' hx ⟨v, rfl, s2⟩
      obtain ⟨m, hm, p, rfl, hmv⟩ := L2.Paired.get hp hx
      have hmv' := (hmv.mono s1).mono s2
      refine ⟨_, rfl, (by show 3 ≤ sizeLine; decide), fun tp nt => ?_⟩
      refine ⟨_, tp, _, _, _, _, rfl, upd_same, .cons (.ref _) (.cons (.ref _) (.cons (.ref _) .nil)), M.ty (hmv'.mono (Same.new nt)), M.any m, _, rfl, iteF ?_⟩
      exact ⟨_, rfl, s2.lay nt⟩
    · rintro σ H' ⟨v, rfl, s2⟩
      exact ⟨_, rfl, k r H' (s1.trans s2) nr (s2 _ _ upd_same)⟩
/-- done_all -/
def anyMv (Z : Cz) : Addr → Prop := fun C => C = Z.P ∨ C = Z.F ∨ C = Z.E
theorem anyMv_cl (Z : Cz) (m : J.Mv) : anyMv Z (Z.cl m) := by
  cases m with
  | pour _ _ => exact .inl rfl
  | fill _ => exact .inr (.inl rfl)
  | emp _ => exact .inr (.inr rfl)
theorem fsOf_no (m : J.Mv) {x : Str} (h1 : ¬ x = "other") (h2 : ¬ x = "one") (h3 : ¬ x = "jug") : (fsOf m).lookup x = none := by
  cases m with
  | pour _ _ => exact pF_no _ _ h1 h2
  | fill _ => exact jF_no _ h3
  | emp _ => exact jF_no _ h3
def sp_done_all (Z : Cz) (CH : Addr) : Sp := fun vs H Q _ => ∃ l h a xs sz tap st ms, vs = [.ref l, .ref h, .ref a] ∧ H l = some (.lst xs) ∧ Paired (isM Z H) xs ms ∧ House CH H h sz tap ∧ H a = some (.tup (st.map V.int)) ∧ J.IsSt sz st ∧ (∀ m ∈ ms, m.ok sz.length tap) ∧ (∀ i, i < sz.length → 0 ≤ J.at0 sz i) ∧
  ∀ r H', Same H H' → H' r = some (.tup ((ms.foldl (J.behind sz) st).map V.int)) → Q (.ref r) H'
theorem foldl_st {sz st : List Int} {tap : Bool} (hs : ∀ i, i < sz.length → 0 ≤ J.at0 sz i) (hst : J.IsSt sz st) : ∀ (ms : List J.Mv), (∀ m ∈ ms, m.ok sz.length tap) → J.IsSt sz (ms.foldl (J.behind sz) st) := by
  intro ms
  induction ms generalizing st with
  | nil => intro _; exact hst
  | cons m ms ih => intro h; exact ih (hst.behind hs (h m List.mem_cons_self)) fun x hx => h x (List.mem_cons_of_mem _ hx)
theorem ok_done_all {f : Addr} {fd : FuncData} (F : Fun K "done_all" "done_all" s_done_all f fd) (B : Bt mg) (I : FnB P w K mg base 1 "moves_in" ["moves"] (sp_moves_in Z)) (N : FnB P w K mg base 2 "held_in" ["house", "state"] (sp_held_in CH))
    (D : ∀ C, anyMv Z C → MeB P w K mg base 5 C "done" ["self", "house", "state"] (sp_done Z CH)) : FnOk P w K mg base CX0 6 f fd ["moves", "house", "state"] (sp_done_all Z CH) := by
  refine F.ok sc_done_all (fun vs H Q E h => ?_) (fun cdv A outer s H vs Q E hr h => ?_)
  · obtain ⟨l, q, a, xs, sz, tap, st, ms, rfl, _⟩ := h
    rfl
  · obtain ⟨l, q, a, xs, sz, tap, st, ms, rfl, hl, hp, hh, ha, hst, hok, hs, k⟩ := h
    refine ⟨_, pss_cons (ps_set (i := 3) sc_done_all.nd rfl (Or.inl rfl) (pe_fn I (hr.mono (by decide)) (pa_cons (pv 0) pa_nil)))
      (pss_cons (ps_set (i := 4) sc_done_all.nd rfl (Or.inl rfl) (pe_callTy call_tuple_of (by rfl) B.tuple bt_tuple (pa_cons (pe_fn N (hr.mono (by decide)) (pa_cons (pv 1) (pa_cons (pv 2) pa_nil))) pa_nil)))
      (pss_cons (ps_for PassesOwn.never rfl (pi_list (pv 3)) (pg_name (i := 5) sc_done_all.nd rfl (Or.inl rfl))
        (pss_one (ps_set (i := 4) sc_done_all.nd rfl (Or.inl rfl) (pe_meU D (pv 5) hr (pa_cons (pv 1) (pa_cons (pv 4) pa_nil))))))
      (pss_one (ps_ret (pv 4))))), ?_⟩
    refine ⟨_, rfl, l, xs, ms, rfl, hl, hp, fun r H1 s1 nr er => ?_⟩
    refine ⟨_, rfl, _, rfl, q, sz, tap, a, st, rfl, hh.mono s1, s1 _ _ ha, hst, fun y H2 s2 ny ey => ?_⟩
    refine ⟨y, _, rfl, .inl ⟨SqL.of ey, fun t nt => ?_⟩⟩
    have s3 : Same H (upd H2 t (.tup (st.map V.int))) := (s1.trans s2).lay nt
    have er3 : (upd H2 t (.tup (st.map V.int))) r = some (.lst xs) := (s2.lay nt) _ _ er
    refine ⟨_, rfl, r, rfl, ⟨_, SqL.of er3⟩, for_list (K := K) (a := r) (xs := xs) (fun i σ H' => ∃ b v, σ = [some (.ref l), some (.ref q), some (.ref a), some (.ref r), some (.ref b), v] ∧ Same (upd H2 t (.tup (st.map V.int))) H' ∧ H' b = some (.tup (((ms.take i).foldl (J.behind sz) st).map V.int)))
      ⟨t, none, rfl, Same.refl _, upd_same⟩ (fun i σ H' _ ⟨_, _, _, s4, _⟩ => SqL.of (s4 _ _ er3)) ?_ ?_⟩
    · rintro i x σ H' hx ⟨b, v, rfl, s4, hb⟩
      obtain ⟨m, hm, p, rfl, hmv⟩ := L2.Paired.get hp hx
      have s5 := s3.trans s4
      obtain ⟨dp, hpp⟩ := hmv.mono s5
      refine ⟨_, rfl, Z.cl m, p, dp, _, anyMv_cl Z m, rfl, hpp, fsOf_no m (by decide +kernel) (by decide +kernel) (by decide +kernel), _, rfl, _, rfl, p, q, b, sz, tap, _, m, rfl, hmv.mono s5, hh.mono s5, hb,
        foldl_st hs hst _ (fun z hz => hok z (List.mem_of_mem_take hz)), hok m (List.mem_of_getElem? hm), fun r' H6 s6 e6 => ?_⟩
      refine ⟨r', _, rfl, s4.trans s6, ?_⟩
      rw [List.take_add_one, hm]
      simpa using e6
    · rintro σ H' ⟨b, v, rfl, s4, hb⟩
      rw [hp.length, List.take_length] at hb
      exact ⟨_, rfl, k b H' (s3.trans s4) hb⟩
end

/-! ### houses -/
structure Hz (sz : List Int) : Prop where
  l1 : 1 ≤ sz.length
  l4 : sz.length ≤ 4
  bd : ∀ s ∈ sz, 1 ≤ s ∧ s ≤ 60
  pr : J.prod1 sz ≤ 2000
theorem Hz.nn {sz : List Int} (h : Hz sz) : ∀ i, i < sz.length → 0 ≤ J.at0 sz i := fun i hi => by
  have := h.bd _ (List.mem_of_getElem? (get_of hi))
  omega
theorem prod_pos : ∀ (sz : List Int) (p : Int), (∀ s ∈ sz, 0 ≤ s) → 1 ≤ p → p ≤ sz.foldl (fun m s => m * (s + 1)) p
  | [], p, _, h => Int.le_refl _
  | s :: r, p, hs, h => by
    have h0 := hs s List.mem_cons_self
    have h1 : p ≤ p * (s + 1) := by
      have := Int.mul_le_mul_of_nonneg_left (show (1 : Int) ≤ s + 1 by omega) (show (0 : Int) ≤ p by omega)
      omega
    have := prod_pos r (p * (s + 1)) (fun x hx => hs x (List.mem_cons_of_mem _ hx)) (by omega)
    rw [List.foldl_cons]; omega
theorem take_states_le {sz : List Int} (hs : ∀ s ∈ sz, 0 ≤ s) (i : Nat) : ((sz.take i).foldl J.more [[]]).length ≤ (J.states sz).length := by
  have h1 := J.len_fold (sz.take i) (fun s h => hs s (List.mem_of_mem_take h)) [[]] 1 (by simp)
  have h2 := J.len_fold (sz.drop i) (fun s h => hs s (List.mem_of_mem_drop h)) ((sz.take i).foldl J.more [[]]) _ h1
  have h3 : J.states sz = (sz.drop i).foldl J.more ((sz.take i).foldl J.more [[]]) := by
    unfold J.states
    conv => lhs; rw [← List.take_append_drop i sz, List.foldl_append]
  have h4 := prod_pos (sz.take i) 1 (fun s h => hs s (List.mem_of_mem_take h)) (by omega)
  have h5 := prod_pos (sz.drop i) _ (fun s h => hs s (List.mem_of_mem_drop h)) (by omega : 1 ≤ List.foldl (fun m s => m * (s + 1)) 1 (sz.take i))
  rw [h3]
  omega
theorem Hz.states_le {sz : List Int} (h : Hz sz) : (J.states sz).length ≤ 2000 := by
  have h1 := J.len_states (sz := sz) fun s hs => by have := h.bd s hs; omega
  have h2 := h.pr
  omega
section
variable {P : Program} {w : World} {K : PySem.W.Frag} {mg : Str → Option Value} {base : Heap} {CH : Addr} {Z : Cz}
def sp_count_states : Sp := fun vs H Q _ => ∃ l sz, vs = [.ref l] ∧ H l = some (.lst (sz.map V.int)) ∧ (∀ s ∈ sz, 1 ≤ s ∧ s ≤ 60) ∧ Q (.int (J.prod1 sz)) H
theorem ok_count_states {f : Addr} {fd : FuncData} (F : Fun K "count_states" "count_states" s_count_states f fd) : FnOk P w K mg base CX0 1 f fd ["sizes"] sp_count_states := by
  refine F.ok sc_count_states (fun vs H Q E h => ?_) (fun cdv A outer s H vs Q E hr h => ?_)
  · obtain ⟨l, sz, rfl, _⟩ := h
    rfl
  · obtain ⟨l, sz, rfl, hl, hb, k⟩ := h
    refine ⟨_, pss_cons (ps_set (i := 1) sc_count_states.nd rfl (Or.inl rfl) pe_int)
      (pss_cons (ps_for PassesOwn.never rfl (pi_list (pv 0)) (pg_name (i := 2) sc_count_states.nd rfl (Or.inl rfl))
        (pss_one (ps_set (i := 1) sc_count_states.nd rfl (Or.inl rfl) (pe_op op_mul (pv 1) (pe_op op_add (pv 2) pe_int)))))
      (pss_one (ps_ret (pv 1)))), ?_⟩
    refine ⟨_, rfl, l, rfl, ⟨_, SqL.of hl⟩, for_list (K := K) (a := l) (xs := sz.map V.int) (fun i σ H' => ∃ v, σ = [some (.ref l), some (.int ((sz.take i).foldl (fun m s => m * (s + 1)) 1)), v] ∧ H' = H)
      ⟨none, rfl, rfl⟩ (fun i σ H' _ ⟨_, _, e⟩ => by subst e; exact SqL.of hl) ?_ ?_⟩
    · rintro i x σ H' hx ⟨v, rfl, rfl⟩
      obtain ⟨z, ez, rfl⟩ := mem_ints hx
      have hz := hb z (List.mem_of_getElem? ez)
      refine ⟨_, rfl, _, rfl, _, _, rfl, rfl, _, _, rfl, rfl, .inr ⟨by omega, by omega⟩, ?_⟩
      refine ⟨some (.int z), ?_, rfl⟩
      rw [List.take_add_one, ez, List.foldl_append]
      rfl
    · rintro σ H' ⟨v, rfl, rfl⟩
      refine ⟨_, rfl, ?_⟩
      rw [List.length_map, List.take_length]
      exact k
def sp_sizes_in : Sp := fun vs H Q _ => ∃ l sz, vs = [.ref l] ∧ H l = some (.lst (sz.map V.int)) ∧ Hz sz ∧ ∀ r H', Same H H' → H' r = some (.lst (sz.map V.int)) → Q (.ref r) H'
theorem ok_sizes_in {f : Addr} {fd : FuncData} (F : Fun K "sizes_in" "sizes_in" s_sizes_in f fd) (B : Bt mg) (hst : ∃ t, mg "MOST_STATES" = some (.int 2000 t)) (N : FnB P w K mg base 1 "is_number" ["value", "least", "most"] sp_is_number)
    (C : FnB P w K mg base 1 "count_states" ["sizes"] sp_count_states) : FnOk P w K mg base CX0 2 f fd ["sizes"] sp_sizes_in := by
  obtain ⟨t4, e4⟩ := B.jugs
  obtain ⟨t60, e60⟩ := B.size
  obtain ⟨t2, e2⟩ := hst
  refine F.ok sc_sizes_in (fun vs H Q E h => ?_) (fun cdv A outer s H vs Q E hr h => ?_)
  · obtain ⟨l, sz, rfl, _⟩ := h
    rfl
  · obtain ⟨l, sz, rfl, hl, hz, k⟩ := h
    refine ⟨_, pss_cons (ps_if (pt_not (pt_val (pe_callB call_isinst (by rfl) B.isinstance bt_isinstance (pa_cons (pv 0) (pa_cons (pe_bltn (v := .ty "list") (by rfl) B.list bt_list rfl) pa_nil))))) pss_never pss_nil)
      (pss_cons (ps_set (i := 1) sc_sizes_in.nd rfl (Or.inl rfl) (pe_callTy call_list_of (by rfl) B.list bt_list (pa_cons (pv 0) pa_nil)))
      (pss_cons (ps_if (pt_not (pt_chain op_le op_le pe_int (pe_callB call_len_seq (by rfl) B.len PySem.boot_len (pa_cons (pv 1) pa_nil)) (pe_glob (v := .int 4) (by rfl) e4 ⟨_, rfl⟩))) pss_never pss_nil)
      (pss_cons (ps_for PassesOwn.never rfl (pi_list (pv 1)) (pg_name (i := 2) sc_sizes_in.nd rfl (Or.inl rfl))
        (pss_one (ps_if (pt_not (pt_val (pe_fn N hr (pa_cons (pv 2) (pa_cons pe_int (pa_cons (pe_glob (v := .int 60) (by rfl) e60 ⟨_, rfl⟩) pa_nil)))))) pss_never pss_nil)))
      (pss_cons (ps_if (pt_cmpR op_gt (pe_fn C hr (pa_cons (pv 1) pa_nil)) (pe_glob (v := .int 2000) (by rfl) e2 ⟨_, rfl⟩) (nomark _)) pss_never pss_nil)
      (pss_one (ps_ret (pv 1))))))), ?_⟩
    refine ⟨_, rfl, _, _, _, _, _, rfl, .ty "list", .lst hl, kit_ll, _, rfl, iteF ?_⟩
    refine ⟨_, rfl, l, _, rfl, .inl (SqL.of hl), fun r nr => ?_⟩
    have s1 : Same H (upd H r (.lst (sz.map V.int))) := Same.new nr
    refine ⟨_, rfl, r, _, rfl, .inl (SqL.of upd_same), _, _, rfl, rfl, _, rfl, ?_⟩
    have h1 := hz.l1
    have h4 := hz.l4
    rw [decide_eq_true (by simp; omega)]
    refine iteT ⟨_, _, rfl, rfl, _, rfl, ?_⟩
    rw [decide_eq_true (by simp; omega)]
    refine iteF ?_
    refine ⟨_, rfl, r, rfl, ⟨_, SqL.of upd_same⟩, for_list (K := K) (a := r) (xs := sz.map V.int) (fun i σ H' => ∃ v, σ = [some (.ref l), some (.ref r), v] ∧ H' = upd H r (.lst (sz.map V.int)))
      ⟨none, rfl, rfl⟩ (fun i σ H' _ ⟨_, _, e⟩ => by subst e; exact SqL.of upd_same) ?_ ?_⟩
    · rintro i x σ H' hx ⟨v, rfl, rfl⟩
      obtain ⟨z, ez, rfl⟩ := mem_ints hx
      have hb := hz.bd z (List.mem_of_getElem? ez)
      refine ⟨_, rfl, z, 1, 60, rfl, _, rfl, ?_⟩
      rw [decide_eq_true hb.1, decide_eq_true hb.2]
      exact iteF ⟨_, rfl, rfl⟩
    · rintro σ H' ⟨v, rfl, rfl⟩
      refine ⟨_, rfl, r, sz, rfl, upd_same, hz.bd, _, _, rfl, rfl, _, rfl, ?_⟩
      have := hz.pr
      rw [decide_eq_false (by omega)]
      exact iteF ⟨_, rfl, k r _ s1 upd_same⟩
def sp_House_init (CH : Addr) : Sp := fun vs H Q _ => ∃ (p dx l : Addr) (sz : List Int) (tap : Bool), vs = [.ref p, .ref l, .bl tap] ∧ H p = some (.ins CH dx []) ∧ H l = some (.lst (sz.map V.int)) ∧ Hz sz ∧
  ∀ H', (∀ c o, H c = some o → c ≠ p → H' c = some o) → House CH H' p sz tap → Q .non H'
theorem ok_House_init {f : Addr} {fd : FuncData} (F : Fun K "__init__" "House.__init__" s_House_init f fd) (B : Bt mg) (C : CHs K CH) (N : FnB P w K mg base 2 "sizes_in" ["sizes"] sp_sizes_in) :
    FnOk P w K mg base CX0 3 f fd ["self", "sizes", "tap"] (sp_House_init CH) := by
  refine F.ok sc_House_init (fun vs H Q E h => ?_) (fun cdv A outer s H vs Q E hr h => ?_)
  · obtain ⟨p, dx, l, sz, tap, rfl, _⟩ := h
    rfl
  · obtain ⟨p, dx, l, sz, tap, rfl, hp, hl, hz, k⟩ := h
    refine ⟨_, pss_cons (ps_fld (pv 0) (pe_callTy call_tuple_of (by rfl) B.tuple bt_tuple (pa_cons (pe_fn N hr (pa_cons (pv 1) pa_nil)) pa_nil)) rfl)
      (pss_cons (ps_if (pt_not (pt_val (pe_callB call_isinst (by rfl) B.isinstance bt_isinstance (pa_cons (pv 2) (pa_cons (pe_bltn (v := .ty "bool") (by rfl) B.bool bt_bool rfl) pa_nil))))) pss_never pss_nil)
      (pss_one (ps_fld (pv 0) (pv 2) rfl))), ?_⟩
    refine ⟨_, rfl, l, sz, rfl, hl, hz, fun r H1 s1 hr1 => ?_⟩
    refine ⟨r, _, rfl, .inl ⟨SqL.of hr1, fun t nt => ?_⟩⟩
    have s2 : Same H (upd H1 t (.tup (sz.map V.int))) := s1.lay nt
    have tp : t ≠ p := fun e => by subst e; rw [s1 _ _ hp] at nt; cases nt
    refine ⟨_, rfl, p, CH, dx, [], rfl, s2 _ _ hp, C.cl, C.js, (by show 0 < 1000; decide), ?_⟩
    refine ⟨_, rfl, _, _, _, _, _, rfl, .ty "bool", .bl tap, kit_bb, _, rfl, iteF ?_⟩
    refine ⟨_, rfl, _, rfl, p, CH, dx, _, rfl, upd_same, C.cl, C.tap, (by show 1 < 1000; decide), ?_⟩
    refine k _ (fun c o e hc => by rw [upd_ne hc, upd_ne hc]; exact s2 _ _ e) ⟨dx, t, upd_same, ?_⟩
    rw [upd_ne tp, upd_ne tp, upd_same]
def sp_empty (CH : Addr) : Sp := fun vs H Q _ => ∃ p sz tap, vs = [.ref p] ∧ House CH H p sz tap ∧ Hz sz ∧ ∀ t H', Same H H' → H' t = some (.tup ((List.replicate sz.length (0 : Int)).map V.int)) → Q (.ref t) H'
theorem ok_empty {f : Addr} {fd : FuncData} (F : Fun K "empty" "House.empty" s_House_empty f fd) (B : Bt mg) (C : CHs K CH) : FnOk P w K mg base CX0 1 f fd ["self"] (sp_empty CH) := by
  refine F.ok sc_House_empty (fun vs H Q E h => ?_) (fun cdv A outer s H vs Q E hr h => ?_)
  · obtain ⟨p, sz, tap, rfl, _⟩ := h
    rfl
  · obtain ⟨p, sz, tap, rfl, ⟨dx, t, hp, ht⟩, hz, k⟩ := h
    refine ⟨_, pss_one (ps_ret (pe_callTy call_tuple_of (by rfl) B.tuple bt_tuple (pa_cons (pe_lc sc_House_empty [] (pi_tup (pe_fld (pv 0) rfl)) (fun _ _ _ _ _ _ => ⟨pif_nil, pe_int⟩)) pa_nil))), ?_⟩
    have h4 := hz.l4
    refine ⟨_, rfl, p, CH, dx, _, _, rfl, hp, C.cl, C.js, hF_js _ _, t, rfl, ⟨_, SqT.of ht⟩, lc_tup (xs := sz.map V.int) (fun i ys H' => ys = List.replicate i (.int 0) ∧ H' = H) ⟨rfl, rfl⟩ (by rw [List.length_map]; exact small1000 (by omega)) (fun i ys H' ⟨e, _⟩ => by rw [e]; simp)
      (fun i ys H' _ ⟨_, e⟩ => by subst e; exact SqT.of ht) (fun i x ys H' hx ⟨e1, e2⟩ => ?_) (fun ys H' ⟨e1, e2⟩ => ?_)⟩
    · subst e1 e2
      refine tYes_of ⟨?_, rfl⟩
      rw [List.replicate_succ']
    · subst e1 e2
      intro D nD
      refine ⟨D, _, rfl, .inl ⟨SqL.of upd_same, fun t' nt' => k t' _ ((Same.new nD).lay nt') ?_⟩⟩
      rw [upd_same, List.length_map, List.map_replicate]
end

/-! ### all moves, all states -/
def row (n a : Nat) : List J.Mv := ((List.range n).filter fun b => b != a).map fun b => J.Mv.pour a b
def rowTo (a j : Nat) : List J.Mv := ((List.range j).filter fun b => b != a).map fun b => J.Mv.pour a b
theorem rowTo_len (a j : Nat) : (rowTo a j).length ≤ j := by
  unfold rowTo
  rw [List.length_map]
  exact Nat.le_trans (List.length_filter_le _ _) (by simp)
theorem rowTo_eq (a j : Nat) : rowTo a (j + 1) = rowTo a j ++ (if j = a then [] else [J.Mv.pour a j]) := by
  unfold rowTo
  rw [List.range_succ, List.filter_append, List.map_append]
  congr 1
  by_cases h : j = a
  · simp [h]
  · simp [h]
theorem rows_len (n : Nat) : ∀ i, ((List.range i).flatMap (row n)).length ≤ i * n
  | 0 => by simp
  | i + 1 => by
    rw [List.range_succ, List.flatMap_append, List.length_append]
    have := rows_len n i
    have h2 := rowTo_len i n
    simp only [List.flatMap_cons, List.flatMap_nil, List.append_nil]
    have h3 : (row n i).length = (rowTo i n).length := rfl
    rw [Nat.succ_mul]
    omega
theorem Paired.snocP {α β : Type} {F : α → β → Prop} {a : α} {b : β} {l₁ : List α} {l₂ : List β} (h : Paired F l₁ l₂) (h' : F a b) : Paired F (l₁ ++ [a]) (l₂ ++ [b]) := PySem.Paired.snoc h h'
theorem Paired.appP {α β : Type} {F : α → β → Prop} : ∀ {l₁ m₁ : List α} {l₂ m₂ : List β}, Paired F l₁ l₂ → Paired F m₁ m₂ → Paired F (l₁ ++ m₁) (l₂ ++ m₂)
  | _, _, _, _, .nil, h => h
  | _, _, _, _, .cons r t, h => .cons r (Paired.appP t h)
section
variable {P : Program} {w : World} {K : PySem.W.Frag} {mg : Str → Option Value} {base : Heap} {CH : Addr} {Z : Cz}
def sp_pours_among (Z : Cz) : Sp := fun vs H Q _ => ∃ n : Nat, vs = [.int n] ∧ n ≤ 4 ∧ ∀ r H' xs, Same H H' → H r = none → H' r = some (.lst xs) → Paired (isM Z H') xs (J.pours n) → Q (.ref r) H'
theorem ok_pours_among {f : Addr} {fd : FuncData} (F : Fun K "pours_among" "pours_among" s_pours_among f fd) (B : Bt mg) (M : MkB P w K mg base 4 "Pour" Z.P ["self", "one", "other"] (sp_Pour_init Z)) :
    FnOk P w K mg base CX0 6 f fd ["many"] (sp_pours_among Z) := by
  refine F.ok sc_pours_among (fun vs H Q E h => ?_) (fun cdv A outer s H vs Q E hr h => ?_)
  · obtain ⟨n, rfl, _⟩ := h
    rfl
  · obtain ⟨n, rfl, hn, k⟩ := h
    refine ⟨_, pss_cons (ps_set (i := 1) sc_pours_among.nd rfl (Or.inl rfl) (pe_lst pa_nil))
      (pss_cons (ps_for PassesOwn.never rfl (pi_range1 (by rfl) B.range (pa_cons (pv 0) pa_nil)) (pg_name (i := 2) sc_pours_among.nd rfl (Or.inl rfl))
        (pss_one (ps_for PassesOwn.never rfl (pi_range1 (by rfl) B.range (pa_cons (pv 0) pa_nil)) (pg_name (i := 3) sc_pours_among.nd rfl (Or.inl rfl))
          (pss_one (ps_if (pt_cmpR op_ne (pv 2) (pv 3) (nomark _)) (pss_one (ps_expr (pe_append (pv 1) (pe_mk M hr (pa_cons (pv 2) (pa_cons (pv 3) pa_nil)))))) pss_nil)))))
      (pss_one (ps_ret (pv 1)))), ?_⟩
    refine ⟨(by show 0 ≤ sizeLine; decide), fun r nr => ?_⟩
    have s1 : Same H (upd H r (.lst [])) := Same.new nr
    refine ⟨_, rfl, (n : Int), rfl, by omega, by omega, for_rangeN (n := n) (fun i σ H' => ∃ xs v2 v3, σ = [some (.int n), some (.ref r), v2, v3] ∧ Same H H' ∧ H' r = some (.lst xs) ∧ Paired (isM Z H') xs ((List.range i).flatMap (row n)))
      ⟨[], none, none, rfl, s1, upd_same, .nil⟩ ?_ ?_⟩
    · rintro i σ H1 hi ⟨xs, v2, v3, rfl, s2, e2, p2⟩
      refine ⟨_, rfl, (n : Int), rfl, by omega, by omega, for_rangeN (n := n) (fun j σ H' => ∃ xs v3, σ = [some (.int n), some (.ref r), some (.int i), v3] ∧ Same H H' ∧ H' r = some (.lst xs) ∧ Paired (isM Z H') xs ((List.range i).flatMap (row n) ++ rowTo i j))
        ⟨xs, v3, rfl, s2, e2, by simpa [rowTo] using p2⟩ ?_ ?_⟩
      · rintro j σ H2 hj ⟨ys, v3, rfl, s3, e3, p3⟩
        refine ⟨_, rfl, _, rfl, rfl, _, rfl, ?_⟩
        by_cases hij : i = j
        · subst hij
          rw [decide_eq_true rfl]
          refine iteF ⟨ys, _, rfl, s3, e3, ?_⟩
          rw [rowTo_eq, if_pos rfl, List.append_nil]
          exact p3
        · rw [decide_eq_false (by simp; omega)]
          refine iteT ?_
          refine ⟨_, rfl, .inl ⟨rfl, _, SqL.of e3⟩, _, rfl, _, rfl, fun x dx nx ndx nex => ?_⟩
          refine ⟨x, dx, i, j, rfl, upd_same, by omega, by omega, hij, fun H4 kp hx => ⟨rfl, ?_⟩⟩
          have s4 : Same H2 H4 := fun c o e => kp c o (by rw [upd_ne (ne_of_none e nx), upd_ne (ne_of_none e ndx)]; exact e) (ne_of_none e nx)
          have hlen : ys.length ≤ 20 := by
            have h1 := p3.length
            have h2 := rows_len n i
            have h3 := rowTo_len i j
            rw [List.length_append] at h1
            have h4 : i * n ≤ 3 * 4 := Nat.mul_le_mul (by omega) hn
            omega
          refine ⟨r, _, _, rfl, rfl, s4 _ _ e3, small1000 (by omega), ?_⟩
          have fx1 : Fix H4 (upd H4 r (.lst (ys ++ [.ref x]))) := Fix.put (s4 _ _ e3) rfl
          refine ⟨_, _, rfl, (s3.trans s4).put nr, upd_same, ?_⟩
          rw [rowTo_eq, if_neg (fun e => hij e.symm), ← List.append_assoc]
          exact Paired.snocP (pm_fix p3 ((Fix.of s4).trans fx1)) ⟨x, rfl, dx, fx1 _ _ hx rfl⟩
      · rintro σ H2 ⟨ys, v3, rfl, s3, e3, p3⟩
        refine ⟨ys, _, _, rfl, s3, e3, ?_⟩
        rw [List.range_succ, List.flatMap_append]
        have e : (List.flatMap (row n) [i]) = rowTo i n := by simp [row, rowTo]
        rw [e]; exact p3
    · rintro σ H1 ⟨xs, v2, v3, rfl, s2, e2, p2⟩
      exact ⟨_, rfl, k r H1 xs s2 nr e2 p2⟩
def sp_with_one_more : Sp := fun vs H Q _ => ∃ (l : Addr) (s : Int) (xs : List V) (sts : List (List Int)), vs = [.ref l, .int s] ∧ H l = some (.lst xs) ∧ Paired (isTI H) xs sts ∧ 0 ≤ s ∧ s ≤ 60 ∧ sts.length * (s + 1).toNat ≤ 2000 ∧ (∀ st ∈ sts, st.length ≤ 10) ∧
  ∀ r H' ys, Same H H' → H r = none → H' r = some (.lst ys) → Paired (isTI H') ys (J.more sts s) → Q (.ref r) H'
theorem more_snoc (sts : List (List Int)) (st : List Int) (s : Int) : J.more (sts ++ [st]) s = J.more sts s ++ (List.range (s + 1).toNat).map fun (k : Nat) => st ++ [(k : Int)] := by
  unfold J.more
  rw [List.flatMap_append]
  simp
theorem ok_with_one_more {f : Addr} {fd : FuncData} (F : Fun K "with_one_more" "with_one_more" s_with_one_more f fd) (B : Bt mg) : FnOk P w K mg base CX0 1 f fd ["states", "size"] sp_with_one_more := by
  refine F.ok sc_with_one_more (fun vs H Q E h => ?_) (fun cdv A outer s H vs Q E hr h => ?_)
  · obtain ⟨l, s, xs, sts, rfl, _⟩ := h
    rfl
  · obtain ⟨l, z, xs, sts, rfl, hl, hp, h0, h60, hbig, hlen, k⟩ := h
    refine ⟨_, pss_cons (ps_set (i := 2) sc_with_one_more.nd rfl (Or.inl rfl) (pe_lst pa_nil))
      (pss_cons (ps_for PassesOwn.never rfl (pi_list (pv 0)) (pg_name (i := 3) sc_with_one_more.nd rfl (Or.inl rfl))
        (pss_one (ps_for PassesOwn.never rfl (pi_range1 (by rfl) B.range (pa_cons (pe_op op_add (pv 1) pe_int) pa_nil)) (pg_name (i := 4) sc_with_one_more.nd rfl (Or.inl rfl))
          (pss_one (ps_expr (pe_append (pv 2) (pe_op op_catU (pv 3) (pe_tup (pa_cons (pv 4) pa_nil)))))))))
      (pss_one (ps_ret (pv 2)))), ?_⟩
    refine ⟨(by show 0 ≤ sizeLine; decide), fun r nr => ?_⟩
    have s1 : Same H (upd H r (.lst [])) := Same.new nr
    refine ⟨_, rfl, l, rfl, ⟨_, SqL.of (s1 _ _ hl)⟩, for_list (K := K) (a := l) (xs := xs) (fun i σ H' => ∃ ys v3 v4, σ = [some (.ref l), some (.int z), some (.ref r), v3, v4] ∧ Same H H' ∧ H' r = some (.lst ys) ∧ Paired (isTI H') ys (J.more (sts.take i) z))
      ⟨[], none, none, rfl, s1, upd_same, by simp [J.more]; exact .nil⟩ (fun i σ H' _ ⟨_, _, _, _, s2, _⟩ => SqL.of (s2 _ _ hl)) ?_ ?_⟩
    · rintro i x σ H1 hx ⟨ys, v3, v4, rfl, s2, e2, p2⟩
      obtain ⟨st, hst, a, rfl, ha⟩ := L2.Paired.get hp hx
      have hi : i < sts.length := (List.getElem?_eq_some_iff.mp hst).1
      have hst4 := hlen st (List.mem_of_getElem? hst)
      refine ⟨_, rfl, _, _, rfl, rfl, z + 1, rfl, by omega, by omega, for_rangeN (n := (z + 1).toNat) (fun j σ H' => ∃ ys v4, σ = [some (.ref l), some (.int z), some (.ref r), some (.ref a), v4] ∧ Same H H' ∧ H' r = some (.lst ys) ∧ Paired (isTI H') ys (J.more (sts.take i) z ++ (List.range j).map fun (k : Nat) => st ++ [(k : Int)]))
        ⟨ys, v4, rfl, s2, e2, by simpa using p2⟩ ?_ ?_⟩
      · rintro j σ H2 hj ⟨ws, v4, rfl, s3, e3, p3⟩
        refine ⟨_, rfl, .inl ⟨rfl, _, SqL.of e3⟩, _, rfl, _, rfl, (by show 1 ≤ sizeLine; decide), fun t nt => ?_⟩
        have s4 : Same H2 (upd H2 t (.tup [.int j])) := Same.new nt
        refine ⟨a, t, _, _, rfl, rfl, s4 _ _ (s3 _ _ ha), upd_same, (by simp; exact Nat.le_of_lt (small1000 (by omega))), fun p H5 s5 e5 => ?_⟩
        have hl5 := s5 _ _ (s4 _ _ e3)
        have hw : ws.length < 2000 := by
          have h1 := p3.length
          rw [List.length_append, J.len_more, List.length_map, List.length_range, List.length_take, Nat.min_eq_left (Nat.le_of_lt hi)] at h1
          have h2 : i * (z + 1).toNat + (z + 1).toNat ≤ sts.length * (z + 1).toNat := by
            rw [← Nat.succ_mul]; exact Nat.mul_le_mul_right _ hi
          omega
        refine ⟨r, _, _, rfl, rfl, hl5, small2000 (by omega), ?_⟩
        have fx1 : Fix H5 (upd H5 r (.lst (ws ++ [.ref p]))) := Fix.put hl5 rfl
        refine ⟨_, _, rfl, ((s3.trans s4).trans s5).put nr, upd_same, ?_⟩
        rw [List.range_succ, List.map_append, ← List.append_assoc]
        refine Paired.snocP (pt_fix p3 ((Fix.of (s4.trans s5)).trans fx1)) ⟨p, rfl, fx1 _ _ ?_ rfl⟩
        rw [e5, List.map_append]
        rfl
      · rintro σ H2 ⟨ws, v4, rfl, s3, e3, p3⟩
        refine ⟨ws, _, _, rfl, s3, e3, ?_⟩
        rw [List.take_add_one, hst]
        show Paired _ _ (J.more (List.take i sts ++ [st]) z)
        rw [more_snoc]
        exact p3
    · rintro σ H1 ⟨ys, v3, v4, rfl, s2, e2, p2⟩
      rw [hp.length, List.take_length] at p2
      exact ⟨_, rfl, k r H1 ys s2 nr e2 p2⟩
def sp_states (CH : Addr) : Sp := fun vs H Q _ => ∃ p sz tap, vs = [.ref p] ∧ House CH H p sz tap ∧ Hz sz ∧ ∀ r H' ys, Same H H' → H r = none → H' r = some (.lst ys) → Paired (isTI H') ys (J.states sz) → Q (.ref r) H'
theorem fold_len (sz : List Int) : ∀ (L : List (List Int)) (n : Nat), (∀ l ∈ L, l.length ≤ n) → ∀ x ∈ sz.foldl J.more L, x.length ≤ n + sz.length := by
  intro L n h x hx
  obtain ⟨l, hl, t, rfl, ht⟩ := (J.mem_fold sz L x).mp hx
  rw [List.length_append, ht.len]
  have := h l hl
  omega
theorem ok_states {f : Addr} {fd : FuncData} (F : Fun K "states" "House.states" s_House_states f fd) (C : CHs K CH) (W : FnB P w K mg base 1 "with_one_more" ["states", "size"] sp_with_one_more) : FnOk P w K mg base CX0 2 f fd ["self"] (sp_states CH) := by
  refine F.ok sc_House_states (fun vs H Q E h => ?_) (fun cdv A outer s H vs Q E hr h => ?_)
  · obtain ⟨p, sz, tap, rfl, _⟩ := h
    rfl
  · obtain ⟨p, sz, tap, rfl, ⟨dx, t, hp, ht⟩, hz, k⟩ := h
    refine ⟨_, pss_cons (ps_set (i := 1) sc_House_states.nd rfl (Or.inl rfl) (pe_lst (pa_cons (pe_tup pa_nil) pa_nil)))
      (pss_cons (ps_for PassesOwn.never rfl (pi_tup (pe_fld (pv 0) rfl)) (pg_name (i := 2) sc_House_states.nd rfl (Or.inl rfl))
        (pss_one (ps_set (i := 1) sc_House_states.nd rfl (Or.inl rfl) (pe_fn W hr (pa_cons (pv 1) (pa_cons (pv 2) pa_nil))))))
      (pss_one (ps_ret (pv 1)))), ?_⟩
    refine ⟨(by show 0 ≤ sizeLine; decide), fun u nu => ⟨(by show 1 ≤ sizeLine; decide), fun r nr => ?_⟩⟩
    have s1 : Same H (upd (upd H u (.tup [])) r (.lst [.ref u])) := (Same.new nu).lay nr
    have nr0 : H r = none := (Same.new nu).free nr
    have ur : u ≠ r := fun e => by subst e; rw [upd_same] at nr; cases nr
    have hnn : ∀ s ∈ sz, 0 ≤ s := fun s hs => by have := hz.bd s hs; omega
    refine ⟨_, rfl, p, CH, dx, _, _, rfl, s1 _ _ hp, C.cl, C.js, hF_js _ _, t, rfl, ⟨_, SqT.of (s1 _ _ ht)⟩, for_tup (K := K) (a := t) (xs := sz.map V.int) (fun i σ H' => ∃ b ys v2, σ = [some (.ref p), some (.ref b), v2] ∧ Same H H' ∧ H b = none ∧ H' b = some (.lst ys) ∧ Paired (isTI H') ys ((sz.take i).foldl J.more [[]]))
      ⟨r, _, none, rfl, s1, nr0, upd_same, .cons ⟨u, rfl, by rw [upd_ne ur, upd_same]; rfl⟩ .nil⟩ (fun i σ H' _ ⟨_, _, _, _, s2, _⟩ => SqT.of (s2 _ _ ht)) ?_ ?_⟩
    · rintro i x σ H1 hx ⟨b, ys, v2, rfl, s2, nb, e2, p2⟩
      obtain ⟨z, ez, rfl⟩ := mem_ints hx
      have hb := hz.bd z (List.mem_of_getElem? ez)
      have e3 : (sz.take (i + 1)).foldl J.more [[]] = J.more ((sz.take i).foldl J.more [[]]) z := by
        rw [List.take_add_one, ez, List.foldl_append]
        rfl
      have h1 := take_states_le hnn (i + 1)
      have h2 := hz.states_le
      rw [e3, J.len_more] at h1
      refine ⟨_, rfl, _, rfl, b, z, ys, _, rfl, e2, p2, by omega, by omega, by omega, fun st hst => ?_, fun r' H2 zs s3 nr' e4 p4 => ?_⟩
      · have h3 := fold_len (sz.take i) [[]] 0 (by simp) st hst
        have h4 := hz.l4
        rw [List.length_take] at h3
        omega
      · refine ⟨r', zs, _, rfl, s2.trans s3, s2.free nr', e4, ?_⟩
        rw [e3]; exact p4
    · rintro σ H1 ⟨b, ys, v2, rfl, s2, nb, e2, p2⟩
      rw [List.length_map, List.take_length] at p2
      exact ⟨_, rfl, k b H1 ys s2 nb e2 p2⟩
def sp_moves (Z : Cz) (CH : Addr) : Sp := fun vs H Q _ => ∃ p sz tap, vs = [.ref p] ∧ House CH H p sz tap ∧ Hz sz ∧ ∀ r H' ys, Same H H' → H r = none → H' r = some (.lst ys) → Paired (isM Z H') ys (J.moves sz.length tap) → Q (.ref r) H'
theorem ok_moves {f : Addr} {fd : FuncData} (F : Fun K "moves" "House.moves" s_House_moves f fd) (B : Bt mg) (C : CHs K CH) (W : FnB P w K mg base 6 "pours_among" ["many"] (sp_pours_among Z))
    (MF : MkB P w K mg base 4 "Fill" Z.F ["self", "jug"] (sp_jug_init Z.F)) (ME : MkB P w K mg base 4 "Empty" Z.E ["self", "jug"] (sp_jug_init Z.E)) : FnOk P w K mg base CX0 7 f fd ["self"] (sp_moves Z CH) := by
  refine F.ok sc_House_moves (fun vs H Q E h => ?_) (fun cdv A outer s H vs Q E hr h => ?_)
  · obtain ⟨p, sz, tap, rfl, _⟩ := h
    rfl
  · obtain ⟨p, sz, tap, rfl, ⟨dx, t, hp, ht⟩, hz, k⟩ := h
    have hr5 : Room 5 _ := hr.mono (by decide)
    refine ⟨_, pss_cons (ps_set (i := 1) sc_House_moves.nd rfl (Or.inl rfl) (pe_callB call_len_seq (by rfl) B.len PySem.boot_len (pa_cons (pe_fld (pv 0) rfl) pa_nil)))
      (pss_cons (ps_set (i := 2) sc_House_moves.nd rfl (Or.inl rfl) (pe_fn W hr (pa_cons (pv 1) pa_nil)))
      (pss_cons (ps_if (pt_val (pe_fld (pv 0) rfl))
        (pss_cons (ps_expr (pe_extend (pv 2) (pe_lc sc_House_moves [] (pi_range1 (by rfl) B.range (pa_cons (pv 1) pa_nil)) (fun _ _ _ _ _ _ => ⟨pif_nil, pe_mk MF hr5 (pa_cons (pv 0) pa_nil)⟩))))
        (pss_one (ps_expr (pe_extend (pv 2) (pe_lc sc_House_moves [] (pi_range1 (by rfl) B.range (pa_cons (pv 1) pa_nil)) (fun _ _ _ _ _ _ => ⟨pif_nil, pe_mk ME hr5 (pa_cons (pv 0) pa_nil)⟩)))))) pss_nil)
      (pss_one (ps_ret (pv 2))))), ?_⟩
    have h4 := hz.l4
    refine ⟨_, rfl, p, CH, dx, _, _, rfl, hp, C.cl, C.js, hF_js _ _, t, _, rfl, .inr (SqT.of ht), ?_⟩
    rw [List.length_map]
    refine ⟨_, rfl, sz.length, rfl, h4, fun r H1 xs s1 nr e1 p1 => ?_⟩
    refine ⟨_, rfl, p, CH, dx, _, _, rfl, s1 _ _ hp, C.cl, C.tap, hF_tap _ _, _, rfl, ?_⟩
    have hlp : (J.pours sz.length).length ≤ 16 := by
      have h5 := rows_len sz.length sz.length
      have h6 : sz.length * sz.length ≤ 4 * 4 := Nat.mul_le_mul h4 h4
      exact Nat.le_trans h5 h6
    cases tap with
    | false =>
      refine iteF ⟨_, rfl, k r H1 xs s1 nr e1 ?_⟩
      simpa [J.moves] using p1
    | true =>
      refine iteT ?_
      -- told.extend([Fill(jug) ..])
      refine ⟨_, rfl, .inl ⟨rfl, _, SqL.of e1⟩, _, rfl, _, rfl, by omega, by omega, ?_⟩
      rw [Int.toNat_natCast]
      refine lc_rangeN (n := sz.length) (fun i ys H' => Same H1 H' ∧ Paired (isM Z H') ys ((List.range i).map J.Mv.fill)) ⟨Same.refl _, .nil⟩ (small1000 (by omega)) (fun i ys H' ⟨_, q⟩ => by rw [q.length]; simp) ?_ ?_
      · rintro i ys H2 hi ⟨s2, p2⟩
        refine tYes_of ⟨_, rfl, fun x dx' nx ndx nex => ⟨x, dx', i, rfl, upd_same, by omega, fun H4 kp hx => ⟨rfl, ?_⟩⟩⟩
        have s4 : Same H2 H4 := fun c o e => kp c o (by rw [upd_ne (ne_of_none e nx), upd_ne (ne_of_none e ndx)]; exact e) (ne_of_none e nx)
        refine ⟨s2.trans s4, ?_⟩
        rw [List.range_succ, List.map_append]
        exact Paired.snocP (pm_fix p2 (Fix.of s4)) ⟨x, rfl, dx', hx⟩
      · rintro ys H2 ⟨s2, p2⟩ D nD
        have s3 : Same H2 (upd H2 D (.lst ys)) := Same.new nD
        have e3 := s3 _ _ (s2 _ _ e1)
        have l1 := p1.length
        have l2 := p2.length
        rw [List.length_map, List.length_range] at l2
        refine ⟨r, D, xs, ys, rfl, rfl, e3, upd_same, Nat.le_of_lt (small1000 (by omega)), ?_⟩
        have f3 : Fix (upd H2 D (.lst ys)) (upd (upd H2 D (.lst ys)) r (.lst (xs ++ ys))) := Fix.put e3 rfl
        have s4 : Same H (upd (upd H2 D (.lst ys)) r (.lst (xs ++ ys))) := ((s1.trans s2).trans s3).put nr
        have p3 : Paired (isM Z (upd (upd H2 D (.lst ys)) r (.lst (xs ++ ys)))) (xs ++ ys) (J.pours sz.length ++ (List.range sz.length).map J.Mv.fill) :=
          Paired.appP (pm_fix p1 ((Fix.of (s2.trans s3)).trans f3)) (pm_fix p2 ((Fix.of s3).trans f3))
        refine ⟨_, rfl, .inl ⟨rfl, _, SqL.of upd_same⟩, _, rfl, _, rfl, by omega, by omega, ?_⟩
        rw [Int.toNat_natCast]
        refine lc_rangeN (n := sz.length) (fun i zs H' => Same (upd (upd H2 D (.lst ys)) r (.lst (xs ++ ys))) H' ∧ Paired (isM Z H') zs ((List.range i).map J.Mv.emp)) ⟨Same.refl _, .nil⟩ (small1000 (by omega)) (fun i ys H' ⟨_, q⟩ => by rw [q.length]; simp) ?_ ?_
        · rintro i zs H5 hi ⟨s5, p5⟩
          refine tYes_of ⟨_, rfl, fun x dx' nx ndx nex => ⟨x, dx', i, rfl, upd_same, by omega, fun H6 kp hx => ⟨rfl, ?_⟩⟩⟩
          have s6 : Same H5 H6 := fun c o e => kp c o (by rw [upd_ne (ne_of_none e nx), upd_ne (ne_of_none e ndx)]; exact e) (ne_of_none e nx)
          refine ⟨s5.trans s6, ?_⟩
          rw [List.range_succ, List.map_append]
          exact Paired.snocP (pm_fix p5 (Fix.of s6)) ⟨x, rfl, dx', hx⟩
        · rintro zs H5 ⟨s5, p5⟩ D2 nD2
          have s6 : Same H5 (upd H5 D2 (.lst zs)) := Same.new nD2
          have e6 := s6 _ _ (s5 _ _ upd_same)
          have l5 := p5.length
          rw [List.length_map, List.length_range] at l5
          refine ⟨r, D2, _, zs, rfl, rfl, e6, upd_same, Nat.le_of_lt (small1000 (by rw [List.length_append]; omega)), ?_⟩
          have f6 : Fix (upd H5 D2 (.lst zs)) (upd (upd H5 D2 (.lst zs)) r (.lst ((xs ++ ys) ++ zs))) := Fix.put e6 rfl
          refine ⟨_, rfl, k r _ _ (((s4.trans s5).trans s6).put nr) nr upd_same ?_⟩
          have e7 : J.moves sz.length true = (J.pours sz.length ++ (List.range sz.length).map J.Mv.fill) ++ (List.range sz.length).map J.Mv.emp := by simp [J.moves]
          rw [e7]
          exact Paired.appP (pm_fix p3 ((Fix.of (s5.trans s6)).trans f6)) (pm_fix p5 ((Fix.of s6).trans f6))
end

/-! ### texts of moves -/
def numT (a : Nat) : Str := Str.ofString (toString (a : Int))
def mvText : J.Mv → Str
  | .pour a b => Txt.join " " ["pour", numT a, numT b]
  | .fill a => Txt.join " " ["fill", numT a]
  | .emp a => Txt.join " " ["empty", numT a]
/-- jugs below 4 -/
def Sm : J.Mv → Prop
  | .pour a b => a < 4 ∧ b < 4
  | .fill a => a < 4
  | .emp a => a < 4
theorem sm_of {m : J.Mv} {n : Nat} {tap : Bool} (h : m.ok n tap) (hn : n ≤ 4) : Sm m := by
  cases m with
  | pour a b => exact ⟨Nat.lt_of_lt_of_le h.1 hn, Nat.lt_of_lt_of_le h.2.1 hn⟩
  | fill a => exact Nat.lt_of_lt_of_le h.1 hn
  | emp a => exact Nat.lt_of_lt_of_le h.1 hn
theorem numT_len : ∀ a : Nat, a < 4 → (numT a).length = 1 := by decide +kernel
theorem log_small {a : Nat} (h : a < 4) : ((a : Int)).natAbs.log2 < 1920 := by
  have e : (a : Int).natAbs = a := Int.natAbs_natCast a
  rw [e]
  exact Nat.lt_of_le_of_lt (Nat.log2_le_self a) (by omega)
theorem mvText_len {m : J.Mv} (h : Sm m) : (mvText m).length ≤ 20 := by
  have h1 : ∀ a : Nat, a < 4 → ∀ b : Nat, b < 4 → (mvText (.pour a b)).length ≤ 20 := by decide +kernel
  have h2 : ∀ a : Nat, a < 4 → (mvText (.fill a)).length ≤ 20 := by decide +kernel
  have h3 : ∀ a : Nat, a < 4 → (mvText (.emp a)).length ≤ 20 := by decide +kernel
  cases m with
  | pour a b => exact h1 a h.1 b h.2
  | fill a => exact h2 a h
  | emp a => exact h3 a h
section
variable {P : Program} {w : World} {K : PySem.W.Frag} {mg : Str → Option Value} {base : Heap} {CH : Addr} {Z : Cz}
def sp_move_text (Z : Cz) : Sp := fun vs H Q _ => ∃ p m, vs = [.ref p] ∧ MvAt Z H p m ∧ Sm m ∧ ∀ H', Same H H' → Q (.str (mvText m)) H'
theorem ok_move_text {f : Addr} {fd : FuncData} (F : Fun K "move_text" "move_text" s_move_text f fd) (B : Bt mg) (M : MvC K mg Z) : FnOk P w K mg base CX0 1 f fd ["move"] (sp_move_text Z) := by
  refine F.ok sc_move_text (fun vs H Q E h => ?_) (fun cdv A outer s H vs Q E hr h => ?_)
  · obtain ⟨p, m, rfl, _⟩ := h
    rfl
  · obtain ⟨p, m, rfl, hmv, hsm, k⟩ := h
    refine ⟨_, pss_cons (ps_if (pt_val (pe_callB call_isinst (by rfl) B.isinstance bt_isinstance (pa_cons (pv 0) (pa_cons (pe_glob (v := .ref Z.P) (by rfl) M.gP rfl) pa_nil))))
        (pss_one (ps_ret (pe_join pe_str (pe_lst (pa_cons pe_str (pa_cons (pe_callTy call_str_int (by rfl) B.str bt_str (pa_cons (pe_fld (pv 0) rfl) pa_nil)) (pa_cons (pe_callTy call_str_int (by rfl) B.str bt_str (pa_cons (pe_fld (pv 0) rfl) pa_nil)) pa_nil))))))) pss_nil)
      (pss_cons (ps_if (pt_val (pe_callB call_isinst (by rfl) B.isinstance bt_isinstance (pa_cons (pv 0) (pa_cons (pe_glob (v := .ref Z.F) (by rfl) M.gF rfl) pa_nil))))
        (pss_one (ps_ret (pe_join pe_str (pe_lst (pa_cons pe_str (pa_cons (pe_callTy call_str_int (by rfl) B.str bt_str (pa_cons (pe_fld (pv 0) rfl) pa_nil)) pa_nil)))))) pss_nil)
      (pss_one (ps_ret (pe_join pe_str (pe_lst (pa_cons pe_str (pa_cons (pe_callTy call_str_int (by rfl) B.str bt_str (pa_cons (pe_fld (pv 0) rfl) pa_nil)) pa_nil))))))), ?_⟩
    have ty := M.ty hmv
    obtain ⟨dx, hp⟩ := id hmv
    cases m with
    | pour a b =>
      have hp : H p = some (.ins Z.P dx (pF a b)) := hp
      have l1 := numT_len a hsm.1
      have l2 := numT_len b hsm.2
      refine ⟨_, rfl, _, _, _, _, _, rfl, .ref _, ty, kit_self _, _, rfl, iteT ?_⟩
      refine ⟨rfl, _, rfl, p, Z.P, dx, _, _, rfl, hp, M.po.cl, M.po.one, pF_one _ _, _, rfl, log_small hsm.1, _, rfl, p, Z.P, dx, _, _, rfl, hp, M.po.cl, M.po.other, pF_other _ _, _, rfl, log_small hsm.2, ?_⟩
      refine ⟨(by show 3 ≤ sizeLine; decide), fun l nl => ⟨" ", l, ["pour", numT a, numT b], rfl, rfl, SqL.of upd_same, ?_, k _ (Same.new nl)⟩⟩
      have l0 : ("pour" : Str).length = 4 := by decide +kernel
      have l3 : (" " : Str).length = 1 := by decide +kernel
      simp only [List.map_cons, List.map_nil, List.sum_cons, List.sum_nil, List.length_cons, List.length_nil, l0, l1, l2, l3]
      omega
    | fill a =>
      have hp : H p = some (.ins Z.F dx (jF a)) := hp
      have l1 := numT_len a hsm
      refine ⟨_, rfl, _, _, _, _, _, rfl, .ref _, ty, M.kFP, _, rfl, iteF ?_⟩
      refine ⟨_, rfl, _, _, _, _, _, rfl, .ref _, ty, kit_self _, _, rfl, iteT ?_⟩
      refine ⟨rfl, _, rfl, p, Z.F, dx, _, _, rfl, hp, M.fi.cl, M.fi.jug, jF_jug _, _, rfl, log_small hsm, ?_⟩
      refine ⟨(by show 2 ≤ sizeLine; decide), fun l nl => ⟨" ", l, ["fill", numT a], rfl, rfl, SqL.of upd_same, ?_, k _ (Same.new nl)⟩⟩
      have l0 : ("fill" : Str).length = 4 := by decide +kernel
      have l3 : (" " : Str).length = 1 := by decide +kernel
      simp only [List.map_cons, List.map_nil, List.sum_cons, List.sum_nil, List.length_cons, List.length_nil, l0, l1, l3]
      omega
    | emp a =>
      have hp : H p = some (.ins Z.E dx (jF a)) := hp
      have l1 := numT_len a hsm
      refine ⟨_, rfl, _, _, _, _, _, rfl, .ref _, ty, M.kEP, _, rfl, iteF ?_⟩
      refine ⟨_, rfl, _, _, _, _, _, rfl, .ref _, ty, M.kEF, _, rfl, iteF ?_⟩
      refine ⟨rfl, _, rfl, p, Z.E, dx, _, _, rfl, hp, M.em.cl, M.em.jug, jF_jug _, _, rfl, log_small hsm, ?_⟩
      refine ⟨(by show 2 ≤ sizeLine; decide), fun l nl => ⟨" ", l, ["empty", numT a], rfl, rfl, SqL.of upd_same, ?_, k _ (Same.new nl)⟩⟩
      have l0 : ("empty" : Str).length = 5 := by decide +kernel
      have l3 : (" " : Str).length = 1 := by decide +kernel
      simp only [List.map_cons, List.map_nil, List.sum_cons, List.sum_nil, List.length_cons, List.length_nil, l0, l1, l3]
      omega
def sp_routine_text (Z : Cz) : Sp := fun vs H Q _ => ∃ l xs ms, vs = [.ref l] ∧ H l = some (.lst xs) ∧ Paired (isM Z H) xs ms ∧ (∀ m ∈ ms, Sm m) ∧ ms.length ≤ 1000 ∧ ∀ H', Same H H' → Q (.str (Txt.join "; " (ms.map mvText))) H'
theorem sum_le {α : Type} (f : α → Nat) (n : Nat) : ∀ l : List α, (∀ x ∈ l, f x ≤ n) → (l.map f).sum ≤ l.length * n
  | [], _ => by simp
  | x :: l, h => by
    have h1 := h x List.mem_cons_self
    have h2 := sum_le f n l fun y hy => h y (List.mem_cons_of_mem _ hy)
    simp only [List.map_cons, List.sum_cons, List.length_cons, Nat.succ_mul]
    omega
theorem ok_routine_text {f : Addr} {fd : FuncData} (F : Fun K "routine_text" "routine_text" s_routine_text f fd) (I : FnB P w K mg base 1 "moves_in" ["moves"] (sp_moves_in Z)) (T : FnB P w K mg base 1 "move_text" ["move"] (sp_move_text Z)) :
    FnOk P w K mg base CX0 2 f fd ["moves"] (sp_routine_text Z) := by
  refine F.ok sc_routine_text (fun vs H Q E h => ?_) (fun cdv A outer s H vs Q E hr h => ?_)
  · obtain ⟨l, xs, ms, rfl, _⟩ := h
    rfl
  · obtain ⟨l, xs, ms, rfl, hl, hp, hsm, hlen, k⟩ := h
    refine ⟨_, pss_one (ps_ret (pe_join pe_str (pe_lc sc_routine_text [] (pi_list (pe_fn I hr (pa_cons (pv 0) pa_nil))) (fun _ _ _ _ _ _ => ⟨pif_nil, pe_fn T hr (pa_cons (pv 0) pa_nil)⟩)))), ?_⟩
    have hxl : xs.length = ms.length := hp.length
    refine ⟨rfl, _, rfl, l, xs, ms, rfl, hl, hp, fun r H1 s1 nr e1 => ⟨r, rfl, ⟨_, SqL.of e1⟩, lc_list (xs := xs) (fun i ys H' => Same H1 H' ∧ ys = ((ms.take i).map mvText).map V.str) ⟨Same.refl _, rfl⟩ (small1000 (by omega)) (fun i ys H' ⟨_, e⟩ => by rw [e]; simp; omega)
      (fun i ys H' _ ⟨s2, _⟩ => SqL.of (s2 _ _ e1)) ?_ ?_⟩⟩
    · rintro i x ys H2 hx ⟨s2, rfl⟩
      obtain ⟨m, hm, p, rfl, hmv⟩ := L2.Paired.get hp hx
      refine tYes_of ⟨_, rfl, p, m, rfl, (hmv.mono s1).mono s2, hsm m (List.mem_of_getElem? hm), fun H3 s3 => ⟨s2.trans s3, ?_⟩⟩
      rw [List.take_add_one, hm]
      simp
    · rintro ys H2 ⟨s2, rfl⟩ D nD
      rw [hxl, List.take_length] at *
      refine ⟨"; ", D, ms.map mvText, rfl, rfl, SqL.of upd_same, ?_, k _ ((s1.trans s2).lay nD)⟩
      have h1 := sum_le (fun m => (mvText m).length) 20 ms fun m hm => mvText_len (hsm m hm)
      have l3 : ("; " : Str).length = 2 := by decide +kernel
      rw [List.map_map, List.length_map, l3]
      have e : ((fun x => x.length) ∘ mvText) = fun m => (mvText m).length := rfl
      rw [e]
      omega
end

/-! ### what the laws draw -/
theorem bt_range : bootBuiltins "range" = some (.type "range") := by decide +kernel
def prm : List Int := [1000003, 1000033, 1000037, 1000039, 1000081, 1000099, 1000117, 1000121, 1000133, 1000151, 1000159, 1000171, 1000183, 1000187, 1000193, 1000199]
theorem prm_pos : ∀ j : Nat, j < 16 → 0 < J.at0 prm j := by decide
def mos : List Int := [60, 11, 4, 2]
/-- sizes as a law draws them -/
structure LSz (sz : List Int) : Prop where
  l1 : 1 ≤ sz.length
  l4 : sz.length ≤ 4
  bd : ∀ s ∈ sz, 1 ≤ s ∧ s ≤ J.at0 mos (sz.length - 1)
theorem LSz.hz {sz : List Int} (h : LSz sz) : Hz sz := by
  have h1 := h.l1
  have h4 := h.l4
  have hb := h.bd
  refine ⟨h1, h4, fun s hs => ?_, ?_⟩
  · have := hb s hs
    have h2 : ∀ j : Nat, j < 4 → J.at0 mos j ≤ 60 := by decide
    have := h2 (sz.length - 1) (by omega)
    omega
  · match sz, h1, h4, hb with
    | [a], _, _, hb =>
      have := hb a (by simp)
      have e : J.at0 mos ([a].length - 1) = 60 := rfl
      rw [e] at this
      simp only [J.prod1, List.foldl_cons, List.foldl_nil]
      omega
    | [a, b], _, _, hb =>
      have h1 := hb a (by simp)
      have h2 := hb b (by simp)
      have e : J.at0 mos ([a, b].length - 1) = 11 := rfl
      rw [e] at h1 h2
      simp only [J.prod1, List.foldl_cons, List.foldl_nil]
      have : (a + 1) * (b + 1) ≤ 12 * 12 := Int.mul_le_mul (by omega) (by omega) (by omega) (by omega)
      rw [Int.one_mul]; omega
    | [a, b, c], _, _, hb =>
      have h1 := hb a (by simp)
      have h2 := hb b (by simp)
      have h3 := hb c (by simp)
      have e : J.at0 mos ([a, b, c].length - 1) = 4 := rfl
      rw [e] at h1 h2 h3
      simp only [J.prod1, List.foldl_cons, List.foldl_nil]
      have m1 : (a + 1) * (b + 1) ≤ 5 * 5 := Int.mul_le_mul (by omega) (by omega) (by omega) (by omega)
      have m2 : (a + 1) * (b + 1) * (c + 1) ≤ 25 * 5 := Int.mul_le_mul m1 (by omega) (by omega) (by omega)
      rw [Int.one_mul]; omega
    | [a, b, c, d], _, _, hb =>
      have h1 := hb a (by simp)
      have h2 := hb b (by simp)
      have h3 := hb c (by simp)
      have h4 := hb d (by simp)
      have e : J.at0 mos ([a, b, c, d].length - 1) = 2 := rfl
      rw [e] at h1 h2 h3 h4
      simp only [J.prod1, List.foldl_cons, List.foldl_nil]
      have m1 : (a + 1) * (b + 1) ≤ 3 * 3 := Int.mul_le_mul (by omega) (by omega) (by omega) (by omega)
      have m2 : (a + 1) * (b + 1) * (c + 1) ≤ 9 * 3 := Int.mul_le_mul m1 (by omega) (by omega) (by omega)
      have m3 : (a + 1) * (b + 1) * (c + 1) * (d + 1) ≤ 27 * 3 := Int.mul_le_mul m2 (by omega) (by omega) (by omega)
      rw [Int.one_mul]; omega
def mvT : J.Mv → List Int
  | .pour a b => [0, a, b]
  | .fill a => [1, a, 0]
  | .emp a => [2, a, 0]
section
variable {P : Program} {w : World} {K : PySem.W.Frag} {mg : Str → Option Value} {base : Heap} {CH : Addr} {Z : Cz}
def sp_cell_at (K : PySem.W.Frag) : Sp := fun vs H Q _ => ∃ (a : Addr) (ns : List Int) (k : Int), vs = [.ref a, .int k] ∧ SqL K H a (ns.map V.int) ∧ 0 ≤ k ∧ ∀ c : Int, Q (.int c) H
theorem ok_cell_at {f : Addr} {fd : FuncData} (F : Fun K "_law_cell_at" "_law_cell_at" s__law_cell_at f fd) (B : Bt mg) : FnOk P w K mg base CX0 1 f fd ["_law_script", "_law_k"] (sp_cell_at K) := by
  refine F.ok sc__law_cell_at (fun vs H Q E h => ?_) (fun cdv A outer s H vs Q E hr h => ?_)
  · obtain ⟨a, ns, k, rfl, _⟩ := h
    rfl
  · obtain ⟨a, ns, k, rfl, ha, hk, q⟩ := h
    refine ⟨_, pss_cons (ps_if (pt_cmpR op_lt (pv 1) (pe_callB call_len_seq (by rfl) B.len PySem.boot_len (pa_cons (pv 0) pa_nil)) (nomark _)) (pss_one (ps_ret (pe_ix ix_list (pv 0) (pv 1) (fun _ _ => rfl)))) pss_nil) (pss_one (ps_ret pe_int)), ?_⟩
    refine ⟨_, rfl, _, rfl, a, _, rfl, .inl ha, _, _, rfl, rfl, _, rfl, ite2 (fun hlt => ?_) (fun _ => q 0)⟩
    have hlt : k < ((ns.map V.int).length : Int) := of_decide_eq_true hlt
    rw [List.length_map] at hlt
    refine ⟨_, rfl, _, rfl, a, _, _, .int (J.at0 ns k.toNat), rfl, rfl, ha, ?_, q _⟩
    have e : ((k.toNat : Nat) : Int) = k := Int.toNat_of_nonneg hk
    rw [← e]
    exact atI_nat (getV_of (by omega))
def sp_draw : Sp := fun vs H Q _ => ∃ c k m : Int, vs = [.int c, .int k, .int m] ∧ 0 ≤ k ∧ 0 < m ∧ ∀ r H', 0 ≤ r → r < m → Same H H' → Q (.int r) H'
theorem ok_draw {f : Addr} {fd : FuncData} (F : Fun K "_law_draw" "_law_draw" s__law_draw f fd) : FnOk P w K mg base CX0 1 f fd ["_law_cell", "_law_k", "_law_many"] sp_draw := by
  refine F.ok sc__law_draw (fun vs H Q E h => ?_) (fun cdv A outer s H vs Q E hr h => ?_)
  · obtain ⟨c, k, m, rfl, _⟩ := h
    rfl
  · obtain ⟨c, k, m, rfl, hk, hm, q⟩ := h
    refine ⟨_, @pss_cons _ _ _ _ _ (@ps_set _ _ 3 "_law_primes" _ _ _ sc__law_draw.nd rfl (Or.inl rfl) (@pe_tup _ _ _ _ _ (@pa_ints _ _ prm (by decide +kernel))) rfl (.inl rfl))
      (pss_one (ps_ret (pe_op op_mod (pe_op op_mod (pe_op op_add (pe_op op_mul (pv 0) pe_int) (pe_op op_mul (pv 1) pe_int)) (pe_ix ix_tup (pv 3) (pe_op op_mod (pv 1) pe_int) (fun _ _ => rfl))) (pv 2)))), ?_⟩
    refine ⟨(by show 16 ≤ sizeLine; decide), fun t nt => ?_⟩
    have e : (((k % 16).toNat : Nat) : Int) = k % 16 := Int.toNat_of_nonneg (by omega)
    have hlt : (k % 16).toNat < 16 := by omega
    refine ⟨_, rfl, _, _, rfl, rfl, .inr ⟨by decide, by decide⟩, _, rfl, _, _, rfl, rfl, .inr ⟨by decide, by decide⟩, _, _, rfl, rfl, _, rfl, _, rfl, _, _, rfl, rfl, (by show (0 : Int) < 16; decide), t, _, _, .int (J.at0 prm (k % 16).toNat), rfl, rfl, SqT.of upd_same,
      by show atI (prm.map V.int) (k % 16) = _; rw [← e]; exact atI_nat (getV_of hlt), _, _, rfl, rfl, prm_pos _ hlt, _, rfl, _, _, rfl, rfl, hm, ?_⟩
    exact q _ _ (Int.emod_nonneg _ (by omega)) (Int.emod_lt_of_pos _ hm) (Same.new nt)
def sp_law_sizes : Sp := fun vs H Q _ => ∃ c : Int, vs = [.int c] ∧ ∀ l H' sz, Same H H' → H l = none → H' l = some (.lst (sz.map V.int)) → LSz sz → Q (.ref l) H'
theorem ok_law_sizes {f : Addr} {fd : FuncData} (F : Fun K "_law_sizes" "_law_sizes" s__law_sizes f fd) (B : Bt mg) (D : FnB P w K mg base 1 "_law_draw" ["_law_cell", "_law_k", "_law_many"] sp_draw) : FnOk P w K mg base CX0 2 f fd ["_law_cell"] sp_law_sizes := by
  refine F.ok sc__law_sizes (fun vs H Q E h => ?_) (fun cdv A outer s H vs Q E hr h => ?_)
  · obtain ⟨c, rfl, _⟩ := h
    rfl
  · obtain ⟨c, rfl, k⟩ := h
    refine ⟨_, pss_cons (ps_set (i := 1) sc__law_sizes.nd rfl (Or.inl rfl) (pe_op op_add pe_int (pe_fn D hr (pa_cons (pv 0) (pa_cons pe_int (pa_cons pe_int pa_nil))))))
      (pss_cons (ps_set (i := 2) sc__law_sizes.nd rfl (Or.inr rfl) (pe_ix ix_tup (pe_tup (pa_ints (ns := mos) (by decide +kernel))) (pe_op op_sub (pv 1) pe_int) (fun _ _ => rfl)))
      (pss_one (ps_ret (pe_lc sc__law_sizes [0, 2] (pi_range1 (by rfl) B.range (pa_cons (pv 1) pa_nil)) (fun _ _ _ _ _ _ => ⟨pif_nil, pe_op op_add pe_int (pe_fn D hr (pa_cons (pe_op op_add (pv 1) (pe_op op_mul pe_int (pv 0))) (pa_cons (pe_op op_add pe_int (pv 0)) (pa_cons (pv 2) pa_nil))))⟩))))), ?_⟩
    refine ⟨_, rfl, c, 0, 4, rfl, by decide, by decide, fun r H1 r0 r4 s1 => ?_⟩
    obtain ⟨n, rfl⟩ : ∃ n : Nat, r = (n : Int) := ⟨r.toNat, (Int.toNat_of_nonneg r0).symm⟩
    have hn : n < 4 := by omega
    refine ⟨_, _, rfl, rfl, (by show 4 ≤ sizeLine; decide), fun t nt => ?_⟩
    have em : (1 + (n : Int)) - 1 = (n : Int) := by omega
    refine ⟨_, rfl, _, _, rfl, rfl, t, _, _, .int (J.at0 mos n), rfl, rfl, SqT.of upd_same, by show atI (mos.map V.int) ((1 + (n : Int)) - 1) = _; rw [em]; exact atI_nat (getV_of hn), ?_⟩
    have s2 : Same H (upd H1 t (.tup (mos.map V.int))) := s1.lay nt
    have hmo : ∀ j : Nat, j < 4 → 0 < J.at0 mos j := by decide
    refine ⟨_, rfl, 1 + (n : Int), rfl, by omega, by omega, ?_⟩
    have en : (1 + (n : Int)).toNat = n + 1 := by omega
    rw [en]
    refine lc_rangeN (n := n + 1) (fun i ys H' => Same (upd H1 t (.tup (mos.map V.int))) H' ∧ ∃ sz : List Int, ys = sz.map V.int ∧ sz.length = i ∧ ∀ s ∈ sz, 1 ≤ s ∧ s ≤ J.at0 mos n) ⟨Same.refl _, [], rfl, rfl, by simp⟩ (small1000 (by omega))
      (fun i ys H' ⟨_, sz, e, l, _⟩ => by rw [e, List.length_map, l]; exact Nat.le_refl _) ?_ ?_
    · rintro i ys H2 hi ⟨s3, sz, rfl, hl, hb⟩
      refine tYes_of ⟨_, rfl, _, rfl, _, _, rfl, rfl, .inl ⟨by decide, by decide⟩, _, _, rfl, rfl, _, rfl, _, _, rfl, rfl, _, rfl, _, _, _, rfl, by omega, hmo n hn, fun r' H3 r0' r4' s4 => ?_⟩
      refine ⟨_, _, rfl, rfl, s3.trans s4, sz ++ [1 + r'], ?_, ?_, ?_⟩
      · rw [List.map_append]; rfl
      · simp [hl]
      · intro s hs
        rcases List.mem_append.mp hs with h | h
        · exact hb s h
        · have e : s = 1 + r' := by simpa using h
          omega
    · rintro ys H2 ⟨s3, sz, rfl, hl, hb⟩ D nD
      refine k D _ sz ((s2.trans s3).lay nD) ((s2.trans s3).free nD) upd_same ⟨by omega, by omega, fun s hs => ?_⟩
      rw [hl]; exact hb s hs
def sp_law_state : Sp := fun vs H Q _ => ∃ (c : Int) (l : Addr) (sz : List Int), vs = [.int c, .ref l] ∧ H l = some (.lst (sz.map V.int)) ∧ sz.length ≤ 4 ∧ (∀ s ∈ sz, 0 ≤ s) ∧ ∀ t H' st, Same H H' → H' t = some (.tup (st.map V.int)) → J.IsSt sz st → Q (.ref t) H'
theorem at0_snoc (l : List Int) (v : Int) (j : Nat) : J.at0 (l ++ [v]) j = if j = l.length then v else J.at0 l j := by
  unfold J.at0
  rw [List.getD_eq_getElem?_getD, List.getD_eq_getElem?_getD, List.getElem?_append]
  by_cases h : j < l.length
  · rw [if_pos h, if_neg (by omega)]
  · rw [if_neg h]
    by_cases h2 : j = l.length
    · rw [if_pos h2, h2]; simp
    · rw [if_neg h2, List.getElem?_eq_none_iff.mpr (by simp; omega), List.getElem?_eq_none_iff.mpr (by omega)]
theorem ok_law_state {f : Addr} {fd : FuncData} (F : Fun K "_law_state" "_law_state" s__law_state f fd) (B : Bt mg) (D : FnB P w K mg base 1 "_law_draw" ["_law_cell", "_law_k", "_law_many"] sp_draw) : FnOk P w K mg base CX0 2 f fd ["_law_cell", "_law_sizes_here"] sp_law_state := by
  refine F.ok sc__law_state (fun vs H Q E h => ?_) (fun cdv A outer s H vs Q E hr h => ?_)
  · obtain ⟨c, l, sz, rfl, _⟩ := h
    rfl
  · obtain ⟨c, l, sz, rfl, hl, h4, hnn, k⟩ := h
    refine ⟨_, pss_cons (ps_set (i := 2) sc__law_state.nd rfl (Or.inl rfl) (pe_lst pa_nil))
      (pss_cons (ps_for PassesOwn.never rfl (pi_range1 (by rfl) B.range (pa_cons (pe_callB call_len_seq (by rfl) B.len PySem.boot_len (pa_cons (pv 1) pa_nil)) pa_nil)) (pg_name (i := 3) sc__law_state.nd rfl (Or.inl rfl))
        (pss_cons (ps_set (i := 4) sc__law_state.nd rfl (Or.inl rfl) (pe_fn D hr (pa_cons (pe_op op_add (pv 0) (pe_op op_mul pe_int (pv 3))) (pa_cons (pe_op op_add pe_int (pv 3)) (pa_cons pe_int pa_nil)))))
        (pss_one (ps_expr (pe_append (pv 2) (pe_ix ix_tup (pe_tup (pa_cons pe_int (pa_cons (pe_ix ix_list (pv 1) (pv 3) (fun _ _ => rfl)) (pa_cons (pe_fn D hr (pa_cons (pv 0) (pa_cons (pe_op op_add pe_int (pv 3)) (pa_cons (pe_op op_add (pe_ix ix_list (pv 1) (pv 3) (fun _ _ => rfl)) pe_int) pa_nil)))) (pa_cons pe_int pa_nil))))) (pv 4) (fun _ _ => rfl)))))))
      (pss_one (ps_ret (pe_callTy call_tuple_of (by rfl) B.tuple bt_tuple (pa_cons (pv 2) pa_nil))))), ?_⟩
    refine ⟨(by show 0 ≤ sizeLine; decide), fun r nr => ?_⟩
    have s1 : Same H (upd H r (.lst [])) := Same.new nr
    refine ⟨_, rfl, l, _, rfl, .inl (SqL.of (s1 _ _ hl)), ((sz.length : Nat) : Int), (by rw [List.length_map]), by omega, by omega, for_rangeN (n := sz.length) (fun i σ H' => ∃ st v3 v4, σ = [some (.int c), some (.ref l), some (.ref r), v3, v4] ∧ Same H H' ∧ H' r = some (.lst (st.map V.int)) ∧ st.length = i ∧ ∀ j, j < i → 0 ≤ J.at0 st j ∧ J.at0 st j ≤ J.at0 sz j)
      ⟨[], none, none, rfl, s1, upd_same, rfl, fun j hj => absurd hj (Nat.not_lt_zero _)⟩ ?_ ?_⟩
    · rintro i σ H1 hi ⟨st, v3, v4, rfl, s2, e2, hst, hb⟩
      refine ⟨_, rfl, _, rfl, _, _, rfl, rfl, .inl ⟨by decide, by decide⟩, _, _, rfl, rfl, _, rfl, _, _, rfl, rfl, _, _, _, rfl, by omega, by decide, fun kd H2 k0 k4 s3 => ?_⟩
      have hli := s3 _ _ (s2 _ _ hl)
      have hz := hnn _ (List.mem_of_getElem? (get_of hi))
      refine ⟨_, rfl, .inl ⟨rfl, _, SqL.of (s3 _ _ e2)⟩, _, rfl, _, rfl, l, _, _, _, rfl, rfl, SqL.of hli, atI_nat (getV_of hi), ?_⟩
      refine ⟨_, rfl, _, rfl, _, _, rfl, rfl, _, rfl, _, rfl, l, _, _, _, rfl, rfl, SqL.of hli, atI_nat (getV_of hi), _, _, rfl, rfl, _, _, _, rfl, by omega, by omega, fun d H3 d0 d4 s4 => ?_⟩
      refine ⟨(by show 4 ≤ sizeLine; decide), fun t nt => ?_⟩
      obtain ⟨n, rfl⟩ : ∃ n : Nat, kd = (n : Int) := ⟨kd.toNat, (Int.toNat_of_nonneg k0).symm⟩
      have hn : n < 4 := by omega
      refine ⟨_, rfl, t, _, _, .int (J.at0 [0, J.at0 sz i, d, 0] n), rfl, rfl, SqT.of upd_same, atI_nat (getV_of (l := [0, J.at0 sz i, d, 0]) hn), ?_⟩
      have s5 : Same H2 (upd H3 t (.tup ([0, J.at0 sz i, d, 0].map V.int))) := s4.lay nt
      refine ⟨r, _, _, rfl, rfl, s5 _ _ (s3 _ _ e2), small1000 (by rw [List.length_map]; omega), ?_⟩
      refine ⟨st ++ [J.at0 [0, J.at0 sz i, d, 0] n], _, _, rfl, ((s2.trans s3).trans s5).put nr, ?_, by simp [hst], fun j hj => ?_⟩
      · rw [upd_same, List.map_append]; rfl
      · rw [at0_snoc]
        by_cases hj' : j = st.length
        · rw [if_pos hj', hj', hst]
          match n, hn with
          | 0, _ => exact ⟨Int.le_refl 0, hz⟩
          | 1, _ => exact ⟨hz, Int.le_refl _⟩
          | 2, _ => exact ⟨d0, Int.lt_add_one_iff.mp d4⟩
          | 3, _ => exact ⟨Int.le_refl 0, hz⟩
        · rw [if_neg hj']
          exact hb j (by omega)
    · rintro σ H1 ⟨st, v3, v4, rfl, s2, e2, hst, hb⟩
      refine ⟨_, rfl, r, _, rfl, .inl ⟨SqL.of e2, fun t nt => k t _ st (s2.lay nt) upd_same ⟨hst, hb⟩⟩⟩
end

section
variable {P : Program} {w : World} {K : PySem.W.Frag} {mg : Str → Option Value} {base : Heap} {CH : Addr} {Z : Cz}
def sp_all_moves : Sp := fun vs H Q _ => ∃ (l : Addr) (sz : List Int) (tap : Bool), vs = [.ref l, .bl tap] ∧ H l = some (.lst (sz.map V.int)) ∧ sz.length ≤ 4 ∧ ∀ r H' xs, Same H H' → H r = none → H' r = some (.lst xs) → Paired (isTI H') xs ((J.moves sz.length tap).map mvT) → Q (.ref r) H'
theorem pmap {α β γ : Type} {F : α → γ → Prop} {g : β → γ} {xs : List α} {ms : List β} (h : Paired (fun x m => F x (g m)) xs ms) : Paired F xs (ms.map g) := by
  induction h with
  | nil => exact .nil
  | cons a _ ih => exact .cons a ih
/-- one comprehension of all jugs -/
theorem ok_all_moves {f : Addr} {fd : FuncData} (F : Fun K "_law_all_moves" "_law_all_moves" s__law_all_moves f fd) (B : Bt mg) : FnOk P w K mg base CX0 1 f fd ["_law_sizes_here", "_law_tap"] sp_all_moves := by
  refine F.ok sc__law_all_moves (fun vs H Q E h => ?_) (fun cdv A outer s H vs Q E hr h => ?_)
  · obtain ⟨l, sz, tap, rfl, _⟩ := h
    rfl
  · obtain ⟨l, sz, tap, rfl, hl, h4, k⟩ := h
    refine ⟨_, pss_cons (ps_set (i := 2) sc__law_all_moves.nd rfl (Or.inl rfl) (pe_callTy (call_list_rng rfl) (by rfl) B.list bt_list (pa_cons (pe_callTy call_rangeR (by rfl) B.range bt_range (pa_cons (pe_callB call_len_seq (by rfl) B.len PySem.boot_len (pa_cons (pv 0) pa_nil)) pa_nil)) pa_nil)))
      (pss_cons (ps_set (i := 3) sc__law_all_moves.nd rfl (Or.inl rfl) (pe_lst pa_nil))
      (pss_cons (ps_for PassesOwn.never rfl (pi_list (pv 2)) (pg_name (i := 4) sc__law_all_moves.nd rfl (Or.inr rfl))
        (pss_one (ps_set (i := 3) sc__law_all_moves.nd rfl (Or.inl rfl) (pe_op op_cat (pv 3) (pe_lc sc__law_all_moves [4] (pi_list (pv 2)) (fun _ _ _ _ _ _ => ⟨pif_one (pt_cmpR op_ne (pv 0) (pv 1) (nomark _)), pe_tup (pa_cons pe_int (pa_cons (pv 1) (pa_cons (pv 0) pa_nil)))⟩))))))
      (pss_cons (ps_if (pt_val (pv 1)) (pss_one (ps_set (i := 3) sc__law_all_moves.nd rfl (Or.inl rfl) (pe_op op_cat (pe_op op_cat (pv 3) (pe_lc sc__law_all_moves [] (pi_list (pv 2)) (fun _ _ _ _ _ _ => ⟨pif_nil, pe_tup (pa_cons pe_int (pa_cons (pv 0) (pa_cons pe_int pa_nil)))⟩)))
          (pe_lc sc__law_all_moves [] (pi_list (pv 2)) (fun _ _ _ _ _ _ => ⟨pif_nil, pe_tup (pa_cons pe_int (pa_cons (pv 0) (pa_cons pe_int pa_nil)))⟩))))) pss_nil)
      (pss_one (ps_ret (pv 3)))))), ?_⟩
    have hjl : ∀ n : Nat, ((List.range n).map fun (k : Nat) => V.int (k : Int)).length = n := fun n => by simp
    have hjg : ∀ (n i : Nat) (x : V), ((List.range n).map fun (k : Nat) => V.int (k : Int))[i]? = some x → i < n ∧ x = .int (i : Int) := fun n i x e => by
      rw [List.getElem?_map] at e
      by_cases hi : i < n
      · rw [List.getElem?_range hi] at e
        exact ⟨hi, (Option.some.inj e).symm⟩
      · rw [List.getElem?_eq_none_iff.mpr (by simp; omega)] at e
        cases e
    refine ⟨_, rfl, l, _, rfl, .inl (SqL.of hl), _, rfl, fun g ng => ?_⟩
    rw [List.length_map]
    refine ⟨g, _, rfl, upd_same, by omega, by omega, fun j nj => ?_⟩
    rw [Int.toNat_natCast]
    have s1 : Same H (upd (upd H g (.rng 0 sz.length)) j (.lst ((List.range sz.length).map fun (k : Nat) => V.int (k : Int)))) := (Same.new ng).lay nj
    refine ⟨(by show 0 ≤ sizeLine; decide), fun r nr => ?_⟩
    have s2 := s1.lay (o := .lst []) nr
    have ej : (upd (upd (upd H g (.rng 0 sz.length)) j (.lst ((List.range sz.length).map fun (k : Nat) => V.int (k : Int)))) r (.lst [])) j = some (.lst ((List.range sz.length).map fun (k : Nat) => V.int (k : Int))) := (Same.new nr) _ _ upd_same
    generalize hH0 : upd (upd (upd H g (.rng 0 sz.length)) j (.lst ((List.range sz.length).map fun (k : Nat) => V.int (k : Int)))) r (.lst []) = H0 at s2 ej ⊢
    have er : H0 r = some (.lst []) := by rw [← hH0]; exact upd_same
    refine ⟨_, rfl, j, rfl, ⟨_, SqL.of ej⟩, for_list (K := K) (a := j) (xs := (List.range sz.length).map fun (k : Nat) => V.int (k : Int)) (fun i σ H' => ∃ b xs v4, σ = [some (.ref l), some (.bl tap), some (.ref j), some (.ref b), v4] ∧ Same H0 H' ∧ H b = none ∧ H' b = some (.lst xs) ∧ Paired (isTI H') xs (((List.range i).flatMap (row sz.length)).map mvT))
      ⟨r, [], none, rfl, Same.refl _, s1.free nr, er, .nil⟩ (fun i σ H' _ ⟨_, _, _, _, s3, _⟩ => SqL.of (s3 _ _ ej)) ?_ ?_⟩
    · rintro i x σ H1 hx ⟨b, xs, v4, rfl, s3, nb, eb, pb⟩
      obtain ⟨hi, rfl⟩ := hjg _ _ _ hx
      refine ⟨_, rfl, _, rfl, j, rfl, ⟨_, SqL.of (s3 _ _ ej)⟩, lc_list (xs := (List.range sz.length).map fun (k : Nat) => V.int (k : Int)) (fun m ys H' => Same H1 H' ∧ ys.length ≤ m ∧ Paired (isTI H') ys ((rowTo i m).map mvT)) ⟨Same.refl _, Nat.le_refl _, .nil⟩ (small1000 (by rw [hjl]; omega)) (fun m ys H' ⟨_, q, _⟩ => q)
        (fun m ys H' _ ⟨s4, _⟩ => SqL.of (s4 _ _ (s3 _ _ ej))) ?_ ?_⟩
      · rintro m y ys H2 hy ⟨s4, l4, p4⟩
        obtain ⟨hm, rfl⟩ := hjg _ _ _ hy
        refine ⟨_, rfl, _, rfl, rfl, _, rfl, ?_⟩
        by_cases hmi : m = i
        · subst hmi
          rw [decide_eq_true rfl]
          refine iteF ⟨s4, by omega, ?_⟩
          rw [rowTo_eq, if_pos rfl, List.append_nil]
          exact p4
        · rw [decide_eq_false (by simp; omega)]
          refine iteT ⟨_, rfl, _, rfl, (by show 3 ≤ sizeLine; decide), fun t nt => ⟨s4.lay nt, by simp; omega, ?_⟩⟩
          rw [rowTo_eq, if_neg hmi, List.map_append]
          exact Paired.snocP (pt_fix p4 (Fix.of (Same.new nt))) ⟨t, rfl, upd_same⟩
      · rintro ys H2 ⟨s4, l4, p4⟩ D nD
        have s5 : Same H2 (upd H2 D (.lst ys)) := Same.new nD
        have lx : xs.length ≤ 16 := by
          rw [pb.length, List.length_map]
          have h1 := rows_len sz.length i
          have h2 : i * sz.length ≤ 4 * 4 := Nat.mul_le_mul (by omega) h4
          omega
        rw [hjl] at l4
        refine ⟨b, D, xs, ys, rfl, rfl, s5 _ _ (s4 _ _ eb), upd_same, Nat.le_of_lt (small1000 (by omega)), fun p np => ?_⟩
        have s6 : Same (upd H2 D (.lst ys)) (upd (upd H2 D (.lst ys)) p (.lst (xs ++ ys))) := Same.new np
        have s7 := (s3.trans s4).trans (s5.trans s6)
        refine ⟨p, _, _, rfl, s7, (s2.trans ((s3.trans s4).trans s5)).free np, upd_same, ?_⟩
        rw [List.range_succ, List.flatMap_append, List.map_append]
        have e : (List.flatMap (row sz.length) [i]) = rowTo i sz.length := by simp [row, rowTo]
        rw [e]
        rw [hjl] at p4
        exact Paired.appP (pt_fix pb (Fix.of (s4.trans (s5.trans s6)))) (pt_fix p4 (Fix.of (s5.trans s6)))
    · rintro σ H1 ⟨b, xs, v4, rfl, s3, nb, eb, pb⟩
      rw [hjl] at pb
      refine ⟨_, rfl, _, rfl, ?_⟩
      have lx : xs.length ≤ 16 := by
        rw [pb.length, List.length_map]
        have h1 := rows_len sz.length sz.length
        have h2 : sz.length * sz.length ≤ 4 * 4 := Nat.mul_le_mul h4 h4
        omega
      cases tap with
      | false =>
        refine iteF ⟨_, rfl, k b H1 xs (s2.trans s3) nb eb ?_⟩
        have e : J.moves sz.length false = J.pours sz.length := by simp [J.moves]
        rw [e]; exact pb
      | true =>
        refine iteT ?_
        refine ⟨_, rfl, _, rfl, j, rfl, ⟨_, SqL.of (s3 _ _ ej)⟩, lc_list (xs := (List.range sz.length).map fun (k : Nat) => V.int (k : Int)) (fun m ys H' => Same H1 H' ∧ ys.length ≤ m ∧ Paired (isTI H') ys (((List.range m).map J.Mv.fill).map mvT)) ⟨Same.refl _, Nat.le_refl _, .nil⟩ (small1000 (by rw [hjl]; omega)) (fun m ys H' ⟨_, q, _⟩ => q)
          (fun m ys H' _ ⟨s4, _⟩ => SqL.of (s4 _ _ (s3 _ _ ej))) ?_ ?_⟩
        · rintro m y ys H2 hy ⟨s4, l4, p4⟩
          obtain ⟨hm, rfl⟩ := hjg _ _ _ hy
          refine tYes_of ⟨_, rfl, (by show 3 ≤ sizeLine; decide), fun t nt => ⟨s4.lay nt, by simp; omega, ?_⟩⟩
          rw [List.range_succ, List.map_append, List.map_append]
          exact Paired.snocP (pt_fix p4 (Fix.of (Same.new nt))) ⟨t, rfl, upd_same⟩
        · rintro ys H2 ⟨s4, l4, p4⟩ D nD
          rw [hjl] at l4 p4
          have s5 : Same H2 (upd H2 D (.lst ys)) := Same.new nD
          refine ⟨b, D, xs, ys, rfl, rfl, s5 _ _ (s4 _ _ eb), upd_same, Nat.le_of_lt (small1000 (by omega)), fun p np => ?_⟩
          have s6 : Same (upd H2 D (.lst ys)) (upd (upd H2 D (.lst ys)) p (.lst (xs ++ ys))) := Same.new np
          have s7 : Same H1 (upd (upd H2 D (.lst ys)) p (.lst (xs ++ ys))) := s4.trans (s5.trans s6)
          have p7 : Paired (isTI (upd (upd H2 D (.lst ys)) p (.lst (xs ++ ys)))) (xs ++ ys) ((J.pours sz.length ++ (List.range sz.length).map J.Mv.fill).map mvT) := by
            rw [List.map_append]
            exact Paired.appP (pt_fix pb (Fix.of s7)) (pt_fix p4 (Fix.of (s5.trans s6)))
          have e7 : (upd (upd H2 D (.lst ys)) p (.lst (xs ++ ys))) p = some (.lst (xs ++ ys)) := upd_same
          generalize hH7 : upd (upd H2 D (.lst ys)) p (.lst (xs ++ ys)) = H7 at s7 p7 e7 ⊢
          refine ⟨_, rfl, j, rfl, ⟨_, SqL.of (s7 _ _ (s3 _ _ ej))⟩, lc_list (xs := (List.range sz.length).map fun (k : Nat) => V.int (k : Int)) (fun m zs H' => Same H7 H' ∧ zs.length ≤ m ∧ Paired (isTI H') zs (((List.range m).map J.Mv.emp).map mvT)) ⟨Same.refl _, Nat.le_refl _, .nil⟩ (small1000 (by rw [hjl]; omega)) (fun m ys H' ⟨_, q, _⟩ => q)
            (fun m ys H' _ ⟨s8, _⟩ => SqL.of (s8 _ _ (s7 _ _ (s3 _ _ ej)))) ?_ ?_⟩
          · rintro m y zs H8 hy ⟨s8, l8, p8⟩
            obtain ⟨hm, rfl⟩ := hjg _ _ _ hy
            refine tYes_of ⟨_, rfl, (by show 3 ≤ sizeLine; decide), fun t nt => ⟨s8.lay nt, by simp; omega, ?_⟩⟩
            rw [List.range_succ, List.map_append, List.map_append]
            exact Paired.snocP (pt_fix p8 (Fix.of (Same.new nt))) ⟨t, rfl, upd_same⟩
          · rintro zs H8 ⟨s8, l8, p8⟩ D2 nD2
            rw [hjl] at l8 p8
            have s9 : Same H8 (upd H8 D2 (.lst zs)) := Same.new nD2
            refine ⟨p, D2, _, zs, rfl, rfl, s9 _ _ (s8 _ _ e7), upd_same, Nat.le_of_lt (small1000 (by rw [List.length_append]; omega)), fun p' np' => ?_⟩
            have s10 : Same (upd H8 D2 (.lst zs)) (upd (upd H8 D2 (.lst zs)) p' (.lst ((xs ++ ys) ++ zs))) := Same.new np'
            have sA := (s2.trans s3).trans (s7.trans (s8.trans s9))
            refine ⟨_, rfl, k p' _ _ (sA.trans s10) (sA.free np') upd_same ?_⟩
            have e : J.moves sz.length true = (J.pours sz.length ++ (List.range sz.length).map J.Mv.fill) ++ (List.range sz.length).map J.Mv.emp := by simp [J.moves]
            rw [e, List.map_append]
            exact Paired.appP (pt_fix p7 (Fix.of (s8.trans (s9.trans s10)))) (pt_fix p8 (Fix.of (s9.trans s10)))
end

/-! ### law 1: water by ones -/
def mix (st : List Int) (a b : Nat) (t : Int) : List Int := (st.set a (J.at0 st a - t)).set b (J.at0 st b + t)
theorem mix_a {st : List Int} {a b : Nat} (t : Int) (ha : a < st.length) (hab : a ≠ b) : J.at0 (mix st a b t) a = J.at0 st a - t := by
  unfold mix
  rw [J.at0_set, if_neg (fun h => hab h.1.symm), J.at0_set, if_pos ⟨rfl, ha⟩]
theorem mix_b {st : List Int} {a b : Nat} (t : Int) (hb : b < st.length) : J.at0 (mix st a b t) b = J.at0 st b + t := by
  unfold mix
  rw [J.at0_set, if_pos ⟨rfl, by simpa using hb⟩]
theorem mix_len (st : List Int) (a b : Nat) (t : Int) : (mix st a b t).length = st.length := by simp [mix]
theorem mix_next {st : List Int} {a b : Nat} (t : Int) (ha : a < st.length) (hb : b < st.length) (hab : a ≠ b) :
    ((mix st a b t).set a (J.at0 st a - t - 1)).set b (J.at0 st b + t + 1) = mix st a b (t + 1) := by
  unfold mix
  apply List.ext_getElem?
  intro i
  simp only [List.getElem?_set, List.length_set]
  by_cases h1 : b = i
  · subst h1
    simp [hb]
    omega
  · by_cases h2 : a = i
    · subst h2
      simp [h1, ha]
      omega
    · simp [h1, h2]
theorem at0_get {l : List Int} {i : Nat} (h : i < l.length) : J.at0 l i = l[i] := by
  have := get_of h
  rw [List.getElem?_eq_getElem h] at this
  exact (Option.some.inj this).symm
theorem mix_zero {st : List Int} {a b : Nat} (ha : a < st.length) (hb : b < st.length) (hab : a ≠ b) : mix st a b 0 = st := by
  unfold mix
  apply List.ext_getElem?
  intro i
  simp only [List.getElem?_set, List.length_set]
  by_cases h1 : b = i
  · subst h1
    simp [hb, at0_get]
  · by_cases h2 : a = i
    · subst h2
      simp [h1, ha, at0_get]
    · simp [h1, h2]
section
variable {P : Program} {w : World} {K : PySem.W.Frag} {mg : Str → Option Value} {base : Heap} {CH : Addr} {Z : Cz}
def sp_behind : Sp := fun vs H Q _ => ∃ (l a t : Addr) (sz st : List Int) (m : J.Mv) (tap : Bool), vs = [.ref l, .ref a, .ref t] ∧ H l = some (.lst (sz.map V.int)) ∧ H a = some (.tup (st.map V.int)) ∧ H t = some (.tup ((mvT m).map V.int)) ∧ J.IsSt sz st ∧ m.ok sz.length tap ∧
  ∀ r H', Same H H' → H' r = some (.tup ((J.behind sz st m).map V.int)) → Q (.ref r) H'
theorem ok_behind1 {f : Addr} {fd : FuncData} (F : Fun K "_law_behind" "_law_behind" s__law_behind f fd) (B : Bt mg) : FnOk P w K mg base CX0 1 f fd ["_law_sizes_here", "_law_state_here", "_law_told_here"] sp_behind := by
  refine F.ok sc__law_behind (fun vs H Q E h => ?_) (fun cdv A outer s H vs Q E hr h => ?_)
  · obtain ⟨l, a, t, sz, st, m, tap, rfl, _⟩ := h
    rfl
  · obtain ⟨l, q, t, sz, st, m, tap, rfl, hl, hq, ht, hst, hok, k⟩ := h
    refine ⟨_, pss_cons (ps_asg (pv 2) (pg_tup rfl (pgs_cons (pg_name (i := 3) sc__law_behind.nd rfl (Or.inl rfl)) (pgs_cons (pg_name (i := 4) sc__law_behind.nd rfl (Or.inl rfl)) (pgs_cons (pg_name (i := 5) sc__law_behind.nd rfl (Or.inl rfl)) pgs_nil)))))
      (pss_cons (ps_set (i := 6) sc__law_behind.nd rfl (Or.inl rfl) (pe_callTy call_list_of (by rfl) B.list bt_list (pa_cons (pv 1) pa_nil)))
      (pss_cons (ps_if (pt_cmpR op_eq (pv 3) pe_int (nomark _))
        (pss_one (ps_asg (pe_ix ix_list (pv 0) (pv 4) (fun _ _ => rfl)) (pg_sub (pv 6) (pv 4) set_list)))
        (pss_one (ps_if (pt_cmpR op_eq (pv 3) pe_int (nomark _))
          (pss_one (ps_asg pe_int (pg_sub (pv 6) (pv 4) set_list)))
          (pss_one (ps_while PassesOwn.never (pw_and (pt_cmpR op_gt (pe_ix ix_list (pv 6) (pv 4) (fun _ _ => rfl)) pe_int (nomark _)) (pw_and1 (pt_cmpR op_lt (pe_ix ix_list (pv 6) (pv 5) (fun _ _ => rfl)) (pe_ix ix_list (pv 0) (pv 5) (fun _ _ => rfl)) (nomark _)))).pt
            (pss_cons (ps_asg (pe_op op_sub (pe_ix ix_list (pv 6) (pv 4) (fun _ _ => rfl)) pe_int) (pg_sub (pv 6) (pv 4) set_list))
            (pss_one (ps_asg (pe_op op_add (pe_ix ix_list (pv 6) (pv 5) (fun _ _ => rfl)) pe_int) (pg_sub (pv 6) (pv 5) set_list)))))))))
      (pss_one (ps_ret (pe_callTy call_tuple_of (by rfl) B.tuple bt_tuple (pa_cons (pv 6) pa_nil)))))), ?_⟩
    cases m with
    | fill a =>
      have ha : a < st.length := by rw [hst.len]; exact hok.1
      refine ⟨_, rfl, t, _, rfl, SqT.of ht, rfl, _, _, rfl, _, _, rfl, _, _, rfl, rfl, ?_⟩
      refine ⟨_, rfl, q, _, rfl, .inr (SqT.of hq), fun r nr => ?_⟩
      have s1 : Same H (upd H r (.lst (st.map V.int))) := Same.new nr
      refine ⟨_, rfl, rfl, _, rfl, ?_⟩
      rw [decide_eq_true rfl]
      refine iteT ?_
      refine ⟨_, rfl, _, rfl, l, _, _, _, rfl, rfl, SqL.of (s1 _ _ hl), atI_nat (getV_of hok.1), _, rfl, _, rfl, r, _, _, a, rfl, rfl, upd_same, ixN_of (by simpa using ha), ?_⟩
      refine ⟨_, rfl, r, _, rfl, .inl ⟨SqL.of upd_same, fun x nx => k x _ ((s1.put nr).lay nx) ?_⟩⟩
      rw [upd_same, map_set_int]
      rfl
    | emp a =>
      have ha : a < st.length := by rw [hst.len]; exact hok.1
      refine ⟨_, rfl, t, _, rfl, SqT.of ht, rfl, _, _, rfl, _, _, rfl, _, _, rfl, rfl, ?_⟩
      refine ⟨_, rfl, q, _, rfl, .inr (SqT.of hq), fun r nr => ?_⟩
      have s1 : Same H (upd H r (.lst (st.map V.int))) := Same.new nr
      refine ⟨_, rfl, rfl, _, rfl, ?_⟩
      rw [decide_eq_false (by simp)]
      refine iteF ?_
      refine ⟨_, rfl, rfl, _, rfl, ?_⟩
      rw [decide_eq_true rfl]
      refine iteT ?_
      refine ⟨_, rfl, _, rfl, r, _, _, a, rfl, rfl, upd_same, ixN_of (by simpa using ha), ?_⟩
      refine ⟨_, rfl, r, _, rfl, .inl ⟨SqL.of upd_same, fun x nx => k x _ ((s1.put nr).lay nx) ?_⟩⟩
      rw [upd_same, map_set_int]
      rfl
    | pour a b =>
      obtain ⟨ha', hb', hab⟩ := hok
      have ha : a < st.length := by rw [hst.len]; exact ha'
      have hb : b < st.length := by rw [hst.len]; exact hb'
      have b1 := hst.bnd a ha'
      have b2 := hst.bnd b hb'
      refine ⟨_, rfl, t, _, rfl, SqT.of ht, rfl, _, _, rfl, _, _, rfl, _, _, rfl, rfl, ?_⟩
      refine ⟨_, rfl, q, _, rfl, .inr (SqT.of hq), fun r nr => ?_⟩
      have s1 : Same H (upd H r (.lst (st.map V.int))) := Same.new nr
      refine ⟨_, rfl, rfl, _, rfl, ?_⟩
      rw [decide_eq_false (by simp)]
      refine iteF ?_
      refine ⟨_, rfl, rfl, _, rfl, ?_⟩
      rw [decide_eq_false (by simp)]
      refine iteF ?_
      have hmu : J.much sz st a b = if J.at0 sz b - J.at0 st b < J.at0 st a then J.at0 sz b - J.at0 st b else J.at0 st a := rfl
      have hm0 : 0 ≤ J.much sz st a b := by rw [hmu]; split <;> omega
      refine ⟨fun n σ H' => ∃ x : Int, σ = [some (.ref l), some (.ref q), some (.ref t), some (.int 0), some (.int a), some (.int b), some (.ref r)] ∧ Same H H' ∧ H' r = some (.lst ((mix st a b x).map V.int)) ∧ 0 ≤ x ∧ x ≤ J.much sz st a b ∧ n = (J.much sz st a b - x).toNat,
        ⟨_, 0, rfl, s1, by rw [upd_same, mix_zero ha hb hab], Int.le_refl _, hm0, rfl⟩, ?_⟩
      rintro n σ H1 ⟨x, rfl, s2, e2, x0, xm, rfl⟩
      have la : a < (mix st a b x).length := by rw [mix_len]; exact ha
      have lb : b < (mix st a b x).length := by rw [mix_len]; exact hb
      have done : x = J.much sz st a b → tRet (tCB (fun xs H Q => ∃ p ys, xs = [.ref p] ∧ ((SqL K H p ys ∧ ∀ l, H l = none → Q (.ref l) (upd H l (.tup ys))) ∨ (SqT K H p ys ∧ Q (.ref p) H))) (tCons (tVar 6) tNil)) { nx := fun _ H' => Q .non H', rt := Q } [some (.ref l), some (.ref q), some (.ref t), some (.int 0), some (.int a), some (.int b), some (.ref r)] H1 := fun e => by
        subst e
        exact ⟨_, rfl, r, _, rfl, .inl ⟨SqL.of e2, fun y ny => k y _ (s2.lay ny) upd_same⟩⟩
      refine ⟨_, rfl, _, rfl, r, _, _, _, rfl, rfl, SqL.of e2, atI_nat (getV_of la), _, _, rfl, rfl, _, rfl, ?_⟩
      rw [mix_a x ha hab]
      by_cases c1 : 0 < J.at0 st a - x
      · rw [decide_eq_true c1]
        refine iteT ?_
        refine ⟨_, rfl, _, rfl, r, _, _, _, rfl, rfl, SqL.of e2, atI_nat (getV_of lb), _, rfl, _, rfl, l, _, _, _, rfl, rfl, SqL.of (s2 _ _ hl), atI_nat (getV_of hb'), _, _, rfl, rfl, _, rfl, ?_⟩
        rw [mix_b x hb]
        by_cases c2 : J.at0 st b + x < J.at0 sz b
        · rw [decide_eq_true c2]
          refine iteT ⟨fun σ H' => σ = [some (.ref l), some (.ref q), some (.ref t), some (.int 0), some (.int a), some (.int b), some (.ref r)] ∧ Same H H' ∧ H' r = some (.lst ((mix st a b (x + 1)).map V.int)), fun σ' H' ⟨e1, e2, e3⟩ => ⟨(J.much sz st a b - (x + 1)).toNat, ?_, x + 1, e1, e2, e3, by omega, ?_, rfl⟩, ?_⟩
          · rw [hmu] at *; split at * <;> omega
          · rw [hmu]; split <;> omega
          · refine ⟨_, rfl, _, rfl, r, _, _, _, rfl, rfl, SqL.of e2, atI_nat (getV_of la), _, _, rfl, rfl, _, rfl, _, rfl, r, _, _, a, rfl, rfl, e2, ixN_of (by simpa using la), ?_⟩
            rw [mix_a x ha hab, map_set_int]
            have lb2 : b < ((mix st a b x).set a (J.at0 st a - x - 1)).length := by simpa using lb
            refine ⟨_, rfl, _, rfl, r, _, _, _, rfl, rfl, SqL.of upd_same, atI_nat (getV_of lb2), _, _, rfl, rfl, _, rfl, _, rfl, r, _, _, b, rfl, rfl, upd_same, ixN_of (by simpa using lb), ?_⟩
            refine ⟨rfl, (s2.put nr).put nr, ?_⟩
            rw [upd_same, map_set_int, J.at0_set, if_neg (fun h => hab h.1), mix_b x hb, mix_next x ha hb hab]
        · rw [decide_eq_false c2]
          refine iteF (done ?_)
          rw [hmu] at *; split at * <;> omega
      · rw [decide_eq_false c1]
        refine iteF (iteF (done ?_))
        rw [hmu] at *; split at * <;> omega
/-- a move told by its text -/
def wordsM : J.Mv → List Str
  | .pour a b => ["pour", numT a, numT b]
  | .fill a => ["fill", numT a]
  | .emp a => ["empty", numT a]
theorem words_eq {m : J.Mv} (h : Sm m) : Txt.split (Txt.join "; " [mvText m]) " " = wordsM m := by
  have h1 : ∀ a : Nat, a < 4 → ∀ b : Nat, b < 4 → Txt.split (Txt.join "; " [mvText (.pour a b)]) " " = wordsM (.pour a b) := by decide +kernel
  have h2 : ∀ a : Nat, a < 4 → Txt.split (Txt.join "; " [mvText (.fill a)]) " " = wordsM (.fill a) := by decide +kernel
  have h3 : ∀ a : Nat, a < 4 → Txt.split (Txt.join "; " [mvText (.emp a)]) " " = wordsM (.emp a) := by decide +kernel
  cases m with
  | pour a b => exact h1 a h.1 b h.2
  | fill a => exact h2 a h
  | emp a => exact h3 a h
theorem text1_len {m : J.Mv} (h : Sm m) : (Txt.join "; " [mvText m]).length ≤ 20 := by
  have h1 : ∀ a : Nat, a < 4 → ∀ b : Nat, b < 4 → (Txt.join "; " [mvText (.pour a b)]).length ≤ 20 := by decide +kernel
  have h2 : ∀ a : Nat, a < 4 → (Txt.join "; " [mvText (.fill a)]).length ≤ 20 := by decide +kernel
  have h3 : ∀ a : Nat, a < 4 → (Txt.join "; " [mvText (.emp a)]).length ≤ 20 := by decide +kernel
  cases m with
  | pour a b => exact h1 a h.1 b h.2
  | fill a => exact h2 a h
  | emp a => exact h3 a h
theorem int_num : ∀ a : Nat, a < 4 → PySem.intText? (numT a) = some (a : Int) := by decide +kernel
def sp_told (Z : Cz) : Sp := fun vs H Q _ => ∃ p m, vs = [.ref p] ∧ MvAt Z H p m ∧ Sm m ∧ ∀ t H', Same H H' → H' t = some (.tup ((mvT m).map V.int)) → Q (.ref t) H'
theorem ok_told {f : Addr} {fd : FuncData} (F : Fun K "_law_told" "_law_told" s__law_told f fd) (B : Bt mg) (R : FnB P w K mg base 2 "routine_text" ["moves"] (sp_routine_text Z)) : FnOk P w K mg base CX0 3 f fd ["_law_move"] (sp_told Z) := by
  refine F.ok sc__law_told (fun vs H Q E h => ?_) (fun cdv A outer s H vs Q E hr h => ?_)
  · obtain ⟨p, m, rfl, _⟩ := h
    rfl
  · obtain ⟨p, m, rfl, hmv, hsm, k⟩ := h
    refine ⟨_, pss_cons (ps_set (i := 1) sc__law_told.nd rfl (Or.inl rfl) (pe_split (pe_fn R hr (pa_cons (pe_lst (pa_cons (pv 0) pa_nil)) pa_nil)) pe_str))
      (pss_cons (ps_if (pt_cmpR op_eq (pe_ix ix_list (pv 1) pe_int (fun _ _ => rfl)) pe_str (nomark _))
        (pss_one (ps_ret (pe_tup (pa_cons pe_int (pa_cons (pe_callTy call_int_str (by rfl) B.int bt_int (pa_cons (pe_ix ix_list (pv 1) pe_int (fun _ _ => rfl)) pa_nil)) (pa_cons (pe_callTy call_int_str (by rfl) B.int bt_int (pa_cons (pe_ix ix_list (pv 1) pe_int (fun _ _ => rfl)) pa_nil)) pa_nil)))))) pss_nil)
      (pss_one (ps_ret (pe_tup (pa_cons (pe_ifExp (pt_cmpR op_eq (pe_ix ix_list (pv 1) pe_int (fun _ _ => rfl)) pe_str (nomark _)) pe_int pe_int) (pa_cons (pe_callTy call_int_str (by rfl) B.int bt_int (pa_cons (pe_ix ix_list (pv 1) pe_int (fun _ _ => rfl)) pa_nil)) (pa_cons pe_int pa_nil))))))), ?_⟩
    refine ⟨_, rfl, (by show 1 ≤ sizeLine; decide), fun q nq => ?_⟩
    have s1 : Same H (upd H q (.lst [.ref p])) := Same.new nq
    refine ⟨q, _, [m], rfl, upd_same, .cons ⟨p, rfl, hmv.mono s1⟩ .nil, fun x hx => ?_, by simp, fun H1 s2 => ?_⟩
    · have e : x = m := by simpa using hx
      subst e; exact hsm
    have hlen := text1_len hsm
    refine ⟨rfl, Txt.join "; " [mvText m], " ", rfl, rfl, by decide +kernel, Nat.le_of_lt (small1000 (by omega)), ?_, fun l nl => ?_⟩
    · rw [words_eq hsm]
      exact Nat.le_of_lt (small1000 (by cases m <;> simp [wordsM]))
    rw [words_eq hsm]
    have s3 : Same H (upd H1 l (.lst ((wordsM m).map V.str))) := (s1.trans s2).lay nl
    have n1 : ¬ (V.str "fill" = V.str "pour") := by intro e; exact absurd (V.str.inj e) (by decide +kernel)
    have n2 : ¬ (V.str "empty" = V.str "pour") := by intro e; exact absurd (V.str.inj e) (by decide +kernel)
    have n3 : ¬ (V.str "empty" = V.str "fill") := by intro e; exact absurd (V.str.inj e) (by decide +kernel)
    cases m with
    | pour a b =>
      have l1 := numT_len a hsm.1
      have l2 := numT_len b hsm.2
      refine ⟨_, rfl, l, _, _, .str "pour", rfl, rfl, SqL.of upd_same, atI_nat (j := 0) rfl, rfl, _, rfl, ?_⟩
      rw [decide_eq_true rfl]
      refine iteT ?_
      refine ⟨_, rfl, l, _, _, .str (numT a), rfl, rfl, SqL.of upd_same, atI_nat (j := 1) rfl, numT a, a, rfl, int_num a hsm.1, by omega, _, rfl, l, _, _, .str (numT b), rfl, rfl, SqL.of upd_same, atI_nat (j := 2) rfl, numT b, b, rfl, int_num b hsm.2, by omega, (by show 3 ≤ sizeLine; decide), fun t nt => ?_⟩
      exact k t _ (s3.lay nt) upd_same
    | fill a =>
      have l1 := numT_len a hsm
      refine ⟨_, rfl, l, _, _, .str "fill", rfl, rfl, SqL.of upd_same, atI_nat (j := 0) rfl, rfl, _, rfl, ?_⟩
      rw [decide_eq_false n1]
      refine iteF ?_
      refine ⟨_, rfl, l, _, _, .str "fill", rfl, rfl, SqL.of upd_same, atI_nat (j := 0) rfl, rfl, _, rfl, ?_⟩
      rw [decide_eq_true rfl]
      refine iteT ?_
      refine ⟨_, rfl, l, _, _, .str (numT a), rfl, rfl, SqL.of upd_same, atI_nat (j := 1) rfl, numT a, a, rfl, int_num a hsm, by omega, (by show 3 ≤ sizeLine; decide), fun t nt => ?_⟩
      exact k t _ (s3.lay nt) upd_same
    | emp a =>
      have l1 := numT_len a hsm
      refine ⟨_, rfl, l, _, _, .str "empty", rfl, rfl, SqL.of upd_same, atI_nat (j := 0) rfl, rfl, _, rfl, ?_⟩
      rw [decide_eq_false n2]
      refine iteF ?_
      refine ⟨_, rfl, l, _, _, .str "empty", rfl, rfl, SqL.of upd_same, atI_nat (j := 0) rfl, rfl, _, rfl, ?_⟩
      rw [decide_eq_false n3]
      refine iteF ?_
      refine ⟨_, rfl, l, _, _, .str (numT a), rfl, rfl, SqL.of upd_same, atI_nat (j := 1) rfl, numT a, a, rfl, int_num a hsm, by omega, (by show 3 ≤ sizeLine; decide), fun t nt => ?_⟩
      exact k t _ (s3.lay nt) upd_same
end

theorem pI : ∀ st : List Int, Paired isI (st.map V.int) st
  | [] => .nil
  | _ :: st => .cons rfl (pI st)
theorem toT {K : PySem.W.Frag} {H : Hp} {v : V} {st : List Int} (h : isTI H v st) : isT K H isI v st := by
  obtain ⟨a, rfl, e⟩ := h
  exact ⟨a, _, rfl, SqT.of e, pI st⟩
theorem toTs {K : PySem.W.Frag} {H : Hp} {vs : List V} {sts : List (List Int)} (h : Paired (isTI H) vs sts) : Paired (isT K H isI) vs sts := Paired.mapP h fun _ _ => toT
/-- == of tuples of ints, lists of ints, lists of tuples of ints, lists of bools -/
theorem rcT {X : Cx} {H : Hp} {a b : Addr} {s t : List Int} (ha : H a = some (.tup (s.map V.int))) (hb : H b = some (.tup (t.map V.int))) : RcD X H 20 (.ref a) (.ref b) (decide (s = t)) :=
  (EqR.tup (d := 19) EqR.int).rc _ _ s t ⟨a, _, rfl, SqT.of ha, pI s⟩ ⟨b, _, rfl, SqT.of hb, pI t⟩
theorem rcL {X : Cx} {H : Hp} {a b : Addr} {s t : List Int} (ha : H a = some (.lst (s.map V.int))) (hb : H b = some (.lst (t.map V.int))) : RcD X H 20 (.ref a) (.ref b) (decide (s = t)) :=
  (EqR.lst (d := 19) EqR.int).rc _ _ s t ⟨a, _, rfl, SqL.of ha, pI s⟩ ⟨b, _, rfl, SqL.of hb, pI t⟩
theorem rcLT {X : Cx} {H : Hp} {a b : Addr} {xs ys : List V} {s t : List (List Int)} (ha : H a = some (.lst xs)) (px : Paired (isTI H) xs s) (hb : H b = some (.lst ys)) (py : Paired (isTI H) ys t) : RcD X H 20 (.ref a) (.ref b) (decide (s = t)) :=
  (EqR.lst (d := 19) (EqR.tup (d := 18) EqR.int)).rc _ _ s t ⟨a, _, rfl, SqL.of ha, toTs px⟩ ⟨b, _, rfl, SqL.of hb, toTs py⟩
theorem pB : ∀ st : List Bool, Paired isB (st.map V.bl) st
  | [] => .nil
  | _ :: st => .cons rfl (pB st)
theorem rcB {X : Cx} {H : Hp} {a b : Addr} {s t : List Bool} (ha : H a = some (.lst (s.map V.bl))) (hb : H b = some (.lst (t.map V.bl))) : RcD X H 20 (.ref a) (.ref b) (decide (s = t)) :=
  (EqR.lst (d := 19) EqR.bl).rc _ _ s t ⟨a, _, rfl, SqL.of ha, pB s⟩ ⟨b, _, rfl, SqL.of hb, pB t⟩
structure MvK (K : PySem.W.Frag) (mg : Str → Option Value) (Z : Cz) (CM : Addr) : Prop where
  gM : mg "Move" = some (.ref CM)
  kPF : PySem.W.kitOne K (.ref Z.P) (.ref Z.F) = some false
  kPE : PySem.W.kitOne K (.ref Z.P) (.ref Z.E) = some false
  kFE : PySem.W.kitOne K (.ref Z.F) (.ref Z.E) = some false
  kPM : PySem.W.kitOne K (.ref Z.P) (.ref CM) = some true
  kFM : PySem.W.kitOne K (.ref Z.F) (.ref CM) = some true
  kEM : PySem.W.kitOne K (.ref Z.E) (.ref CM) = some true
theorem MvK.mv {K : PySem.W.Frag} {mg : Str → Option Value} {Z : Cz} {CM : Addr} (M : MvK K mg Z CM) (m : J.Mv) : PySem.W.kitOne K (.ref (Z.cl m)) (.ref CM) = some true := by
  cases m with
  | pour _ _ => exact M.kPM
  | fill _ => exact M.kFM
  | emp _ => exact M.kEM
def sorts : J.Mv → List Bool
  | .pour _ _ => [true, false, false]
  | .fill _ => [false, true, false]
  | .emp _ => [false, false, true]
theorem bt_any : bootBuiltins "any" = some (.builtin "any") := by decide +kernel
section
variable {P : Program} {w : World} {K : PySem.W.Frag} {mg : Str → Option Value} {base : Heap} {CH CM : Addr} {Z : Cz}
def sp_law_states : Sp := fun vs H Q _ => ∃ (l : Addr) (sz : List Int), vs = [.ref l] ∧ H l = some (.lst (sz.map V.int)) ∧ Hz sz ∧ ∀ r H' ys, Same H H' → H r = none → H' r = some (.lst ys) → Paired (isTI H') ys (J.states sz) → Q (.ref r) H'
theorem ok_law_states {f : Addr} {fd : FuncData} (F : Fun K "_law_states" "_law_states" s__law_states f fd) (B : Bt mg) : FnOk P w K mg base CX0 1 f fd ["_law_sizes_here"] sp_law_states := by
  refine F.ok sc__law_states (fun vs H Q E h => ?_) (fun cdv A outer s H vs Q E hr h => ?_)
  · obtain ⟨l, sz, rfl, _⟩ := h
    rfl
  · obtain ⟨l, sz, rfl, hl, hz, k⟩ := h
    refine ⟨_, pss_cons (ps_set (i := 1) sc__law_states.nd rfl (Or.inl rfl) (pe_lst (pa_cons (pe_tup pa_nil) pa_nil)))
      (pss_cons (ps_for PassesOwn.never rfl (pi_list (pv 0)) (pg_name (i := 2) sc__law_states.nd rfl (Or.inl rfl))
        (pss_cons (ps_set (i := 3) sc__law_states.nd rfl (Or.inl rfl) (pe_lst pa_nil))
        (pss_cons (ps_for PassesOwn.never rfl (pi_list (pv 1)) (pg_name (i := 4) sc__law_states.nd rfl (Or.inr rfl))
          (pss_one (ps_set (i := 3) sc__law_states.nd rfl (Or.inl rfl) (pe_op op_cat (pv 3) (pe_lc sc__law_states [4] (pi_range1 (by rfl) B.range (pa_cons (pe_op op_add (pv 2) pe_int) pa_nil)) (fun _ _ _ _ _ _ => ⟨pif_nil, pe_op op_catU (pv 1) (pe_tup (pa_cons (pv 0) pa_nil))⟩))))))
        (pss_one (ps_set (i := 1) sc__law_states.nd rfl (Or.inl rfl) (pv 3))))))
      (pss_one (ps_ret (pv 1)))), ?_⟩
    refine ⟨(by show 0 ≤ sizeLine; decide), fun u nu => ⟨(by show 1 ≤ sizeLine; decide), fun r nr => ?_⟩⟩
    have s1 : Same H (upd (upd H u (.tup [])) r (.lst [.ref u])) := (Same.new nu).lay nr
    have nr0 : H r = none := (Same.new nu).free nr
    have ur : u ≠ r := fun e => by subst e; rw [upd_same] at nr; cases nr
    have hnn : ∀ s ∈ sz, 0 ≤ s := fun s hs => by have := hz.bd s hs; omega
    refine ⟨_, rfl, l, rfl, ⟨_, SqL.of (s1 _ _ hl)⟩, for_list (K := K) (a := l) (xs := sz.map V.int) (fun i σ H' => ∃ b ys v2 v3 v4, σ = [some (.ref l), some (.ref b), v2, v3, v4] ∧ Same H H' ∧ H b = none ∧ H' b = some (.lst ys) ∧ Paired (isTI H') ys ((sz.take i).foldl J.more [[]]))
      ⟨r, _, none, none, none, rfl, s1, nr0, upd_same, .cons ⟨u, rfl, by rw [upd_ne ur, upd_same]; rfl⟩ .nil⟩ (fun i σ H' _ ⟨_, _, _, _, _, _, s2, _⟩ => SqL.of (s2 _ _ hl)) ?_ ?_⟩
    · rintro i x σ H1 hx ⟨b, ys, v2, v3, v4, rfl, s2, nb, e2, p2⟩
      obtain ⟨z, ez, rfl⟩ := mem_ints hx
      have hb := hz.bd z (List.mem_of_getElem? ez)
      have e3 : (sz.take (i + 1)).foldl J.more [[]] = J.more ((sz.take i).foldl J.more [[]]) z := by
        rw [List.take_add_one, ez, List.foldl_append]
        rfl
      have h1 := take_states_le hnn (i + 1)
      have h2 := hz.states_le
      rw [e3, J.len_more] at h1
      generalize hst : (sz.take i).foldl J.more [[]] = sts at p2 e3 h1
      have hlen : ∀ st ∈ sts, st.length ≤ 4 := fun st hs => by
        rw [← hst] at hs
        have h3 := fold_len (sz.take i) [[]] 0 (by simp) st hs
        have h4 := hz.l4
        rw [List.length_take] at h3
        omega
      refine ⟨(by show 0 ≤ sizeLine; decide), fun q nq => ?_⟩
      have s3 : Same H1 (upd H1 q (.lst [])) := Same.new nq
      refine ⟨_, rfl, b, rfl, ⟨_, SqL.of (s3 _ _ e2)⟩, for_list (K := K) (a := b) (xs := ys) (fun j σ H' => ∃ c zs v4, σ = [some (.ref l), some (.ref b), some (.int z), some (.ref c), v4] ∧ Same H1 H' ∧ H c = none ∧ H' c = some (.lst zs) ∧ Paired (isTI H') zs (J.more (sts.take j) z))
        ⟨q, [], v4, rfl, s3, s2.free nq, upd_same, by simp [J.more]; exact .nil⟩ (fun j σ H' _ ⟨_, _, _, _, s4, _⟩ => SqL.of (s4 _ _ e2)) ?_ ?_⟩
      · rintro j y σ H2 hy ⟨c, zs, v4, rfl, s4, nc, e4, p4⟩
        obtain ⟨st, hstj, a, rfl, ha⟩ := L2.Paired.get p2 hy
        have hj : j < sts.length := (List.getElem?_eq_some_iff.mp hstj).1
        have hl4 := hlen st (List.mem_of_getElem? hstj)
        have ha2 := s4 _ _ ha
        have hzl : zs.length + (z + 1).toNat ≤ 2000 := by
          rw [p4.length, J.len_more, List.length_take, Nat.min_eq_left (Nat.le_of_lt hj)]
          have h3 : j * (z + 1).toNat + (z + 1).toNat ≤ sts.length * (z + 1).toNat := by
            rw [← Nat.succ_mul]; exact Nat.mul_le_mul_right _ hj
          omega
        refine ⟨_, rfl, _, rfl, _, _, rfl, rfl, z + 1, rfl, by omega, by omega, lc_rangeN (n := (z + 1).toNat) (fun m ws H' => Same H2 H' ∧ Paired (isTI H') ws ((List.range m).map fun (k : Nat) => st ++ [(k : Int)])) ⟨Same.refl _, .nil⟩ (small1000 (by omega)) (fun m ws H' ⟨_, q⟩ => by rw [q.length]; simp) ?_ ?_⟩
        · rintro m ws H3 hm ⟨s5, p5⟩
          refine tYes_of ⟨_, rfl, _, rfl, (by show 1 ≤ sizeLine; decide), fun t nt => ?_⟩
          have s6 : Same H3 (upd H3 t (.tup [.int m])) := Same.new nt
          refine ⟨a, t, _, _, rfl, rfl, s6 _ _ (s5 _ _ ha2), upd_same, (by simp; exact Nat.le_of_lt (small1000 (by omega))), fun p H5 s7 e7 => ⟨(s5.trans s6).trans s7, ?_⟩⟩
          rw [List.range_succ, List.map_append]
          refine Paired.snocP (pt_fix p5 (Fix.of (s6.trans s7))) ⟨p, rfl, ?_⟩
          rw [e7, List.map_append]
          rfl
        · rintro ws H3 ⟨s5, p5⟩ D nD
          have s6 : Same H3 (upd H3 D (.lst ws)) := Same.new nD
          have lw := p5.length
          rw [List.length_map, List.length_range] at lw
          refine ⟨c, D, zs, ws, rfl, rfl, s6 _ _ (s5 _ _ e4), upd_same, Nat.le_of_lt (small2000 (by omega)), fun p np => ?_⟩
          have s7 : Same (upd H3 D (.lst ws)) (upd (upd H3 D (.lst ws)) p (.lst (zs ++ ws))) := Same.new np
          refine ⟨p, _, _, rfl, (s4.trans s5).trans (s6.trans s7), (s2.trans ((s4.trans s5).trans s6)).free np, upd_same, ?_⟩
          rw [List.take_add_one, hstj]
          show Paired _ _ (J.more (List.take j sts ++ [st]) z)
          rw [more_snoc]
          exact Paired.appP (pt_fix p4 (Fix.of (s5.trans (s6.trans s7)))) (pt_fix p5 (Fix.of (s6.trans s7)))
      · rintro σ H2 ⟨c, zs, v4, rfl, s4, nc, e4, p4⟩
        rw [p2.length, List.take_length] at p4
        refine ⟨_, rfl, c, zs, _, _, _, rfl, s2.trans s4, nc, e4, ?_⟩
        rw [e3]; exact p4
    · rintro σ H1 ⟨b, ys, v2, v3, v4, rfl, s2, nb, e2, p2⟩
      rw [List.length_map, List.take_length] at p2
      exact ⟨_, rfl, k b H1 ys s2 nb e2 p2⟩
def sp_sorts (Z : Cz) : Sp := fun vs H Q _ => ∃ p m, vs = [.ref p] ∧ MvAt Z H p m ∧ ∀ l, H l = none → Q (.ref l) (upd H l (.lst ((sorts m).map V.bl)))
theorem ok_sorts {f : Addr} {fd : FuncData} (F : Fun K "_law_sorts" "_law_sorts" s__law_sorts f fd) (B : Bt mg) (M : MvC K mg Z) (N : MvK K mg Z CM) : FnOk P w K mg base CX0 1 f fd ["_law_move"] (sp_sorts Z) := by
  refine F.ok sc__law_sorts (fun vs H Q E h => ?_) (fun cdv A outer s H vs Q E hr h => ?_)
  · obtain ⟨p, m, rfl, _⟩ := h
    rfl
  · obtain ⟨p, m, rfl, hmv, k⟩ := h
    refine ⟨_, pss_one (ps_ret (pe_lst (pa_cons (pe_callB call_isinst (by rfl) B.isinstance bt_isinstance (pa_cons (pv 0) (pa_cons (pe_glob (v := .ref Z.P) (by rfl) M.gP rfl) pa_nil)))
      (pa_cons (pe_callB call_isinst (by rfl) B.isinstance bt_isinstance (pa_cons (pv 0) (pa_cons (pe_glob (v := .ref Z.F) (by rfl) M.gF rfl) pa_nil)))
      (pa_cons (pe_callB call_isinst (by rfl) B.isinstance bt_isinstance (pa_cons (pv 0) (pa_cons (pe_glob (v := .ref Z.E) (by rfl) M.gE rfl) pa_nil))) pa_nil))))), ?_⟩
    have ty := M.ty hmv
    cases m with
    | pour a b => exact ⟨_, rfl, _, _, _, _, _, rfl, .ref _, ty, kit_self _, _, rfl, _, _, _, _, _, rfl, .ref _, ty, N.kPF, _, rfl, _, _, _, _, _, rfl, .ref _, ty, N.kPE, (by show 3 ≤ sizeLine; decide), fun l nl => k l nl⟩
    | fill a => exact ⟨_, rfl, _, _, _, _, _, rfl, .ref _, ty, M.kFP, _, rfl, _, _, _, _, _, rfl, .ref _, ty, kit_self _, _, rfl, _, _, _, _, _, rfl, .ref _, ty, N.kFE, (by show 3 ≤ sizeLine; decide), fun l nl => k l nl⟩
    | emp a => exact ⟨_, rfl, _, _, _, _, _, rfl, .ref _, ty, M.kEP, _, rfl, _, _, _, _, _, rfl, .ref _, ty, M.kEF, _, rfl, _, _, _, _, _, rfl, .ref _, ty, kit_self _, (by show 3 ≤ sizeLine; decide), fun l nl => k l nl⟩
def sp_whole : Sp := fun vs H Q _ => ∃ (a : Addr) (st : List Int), vs = [.ref a] ∧ H a = some (.tup (st.map V.int)) ∧ st.length ≤ 4 ∧ ∀ H', Same H H' → Q (.bl true) H'
theorem ok_whole {f : Addr} {fd : FuncData} (F : Fun K "_law_whole" "_law_whole" s__law_whole f fd) (B : Bt mg) (ha : mg "any" = none) : FnOk P w K mg base CX0 1 f fd ["_law_state_here"] sp_whole := by
  refine F.ok sc__law_whole (fun vs H Q E h => ?_) (fun cdv A outer s H vs Q E hr h => ?_)
  · obtain ⟨a, st, rfl, _⟩ := h
    rfl
  · obtain ⟨a, st, rfl, hst, h4, k⟩ := h
    refine ⟨_, pss_one (ps_ret (pe_and (pe_callB call_isinst (by rfl) B.isinstance bt_isinstance (pa_cons (pv 0) (pa_cons (pe_bltn (v := .ty "tuple") (by rfl) B.tuple bt_tuple rfl) pa_nil)))
      (pe_one (pe_not (pe_callB (call_any rfl) (by rfl) ha bt_any (pa_cons (pe_lc sc__law_whole [] (pi_tup (pv 0)) (fun _ _ _ _ _ _ => ⟨pif_nil, pe_or (pe_callB (call_isinstK K) (by rfl) B.isinstance bt_isinstance (pa_cons (pv 0) (pa_cons (pe_bltn (v := .ty "bool") (by rfl) B.bool bt_bool rfl) pa_nil)))
        (pe_one (pe_not (pe_callB (call_isinstK K) (by rfl) B.isinstance bt_isinstance (pa_cons (pv 0) (pa_cons (pe_bltn (v := .ty "int") (by rfl) B.int bt_int rfl) pa_nil)))))⟩)) pa_nil)))))), ?_⟩
    refine ⟨_, rfl, _, _, _, _, _, rfl, .ty "tuple", .tup hst, kit_tt, _, rfl, iteT ?_⟩
    refine ⟨_, rfl, a, rfl, ⟨_, SqT.of hst⟩, lc_tup (xs := st.map V.int) (fun i ys H' => ys = (List.replicate i false).map V.bl ∧ H' = H) ⟨rfl, rfl⟩ (by rw [List.length_map]; exact small1000 (by omega)) (fun i ys H' ⟨e, _⟩ => by rw [e]; simp)
      (fun i ys H' _ ⟨_, e⟩ => by subst e; exact SqT.of hst) (fun i x ys H' hx ⟨e1, e2⟩ => ?_) (fun ys H' ⟨e1, e2⟩ => ?_)⟩
    · obtain ⟨z, ez, rfl⟩ := mem_ints hx
      subst e1 e2
      refine tYes_of ⟨_, rfl, _, _, _, _, _, rfl, .ty "bool", .int z, kit_ib, _, rfl, iteF ?_⟩
      refine ⟨_, rfl, _, _, _, _, _, rfl, .ty "int", .int z, kit_ii, _, rfl, ?_, rfl⟩
      rw [List.replicate_succ', List.map_append]
      rfl
    · subst e1 e2
      intro D nD
      refine ⟨D, List.replicate (st.map V.int).length false, rfl, SqL.of upd_same, _, rfl, ?_⟩
      have e : (List.replicate (st.map V.int).length false).any id = false := by
        rw [List.any_eq_false]
        intro x hx
        rw [(List.mem_replicate.mp hx).2]; simp
      rw [e]
      exact k _ (Same.new nD)
end

theorem refsOf {Z : Cz} {H : Hp} : ∀ {xs : List V} {ms : List J.Mv}, Paired (isM Z H) xs ms → ∃ ps : List Addr, xs = ps.map V.ref
  | _, _, .nil => ⟨[], rfl⟩
  | _, _, .cons ⟨p, e, _⟩ t => by
    obtain ⟨ps, rfl⟩ := refsOf t
    exact ⟨p :: ps, by rw [e]; rfl⟩
section
variable {P : Program} {w : World} {K : PySem.W.Frag} {mg : Str → Option Value} {base : Heap} {CH CM : Addr} {Z : Cz}
def sp_all_right (K : PySem.W.Frag) (Z : Cz) (CH : Addr) : Sp := fun vs H Q _ => ∃ (h l a d c : Addr) (sz st : List Int) (tap : Bool) (ds : List V) (ns : List Int), vs = [.ref h, .ref l, .ref a, .ref d, .ref c] ∧ House CH H h sz tap ∧ H l = some (.lst (sz.map V.int)) ∧ H a = some (.tup (st.map V.int)) ∧ J.IsSt sz st ∧
  H d = some (.lst ds) ∧ Paired (isTI H) ds ((J.moves sz.length tap).map mvT) ∧ SqL K H c (ns.map V.int) ∧ Hz sz ∧ ∀ H', Same H H' → Q (.bl true) H'
theorem ok_all_right {f : Addr} {fd : FuncData} (F : Fun K "_law_all_right" "_law_all_right" s__law_all_right f fd) (B : Bt mg) (D : FnB P w K mg base 1 "_law_draw" ["_law_cell", "_law_k", "_law_many"] sp_draw) (CA : FnB P w K mg base 1 "_law_cell_at" ["_law_script", "_law_k"] (sp_cell_at K))
    (BH : FnB P w K mg base 1 "_law_behind" ["_law_sizes_here", "_law_state_here", "_law_told_here"] sp_behind) (MV : MeB P w K mg base 7 CH "moves" ["self"] (sp_moves Z CH)) (DA : FnB P w K mg base 6 "done_all" ["moves", "house", "state"] (sp_done_all Z CH)) :
    FnOk P w K mg base CX0 8 f fd ["_law_house", "_law_sizes_here", "_law_state_here", "_law_due", "_law_script"] (sp_all_right K Z CH) := by
  refine F.ok sc__law_all_right (fun vs H Q E h => ?_) (fun cdv A outer s H vs Q E hr h => ?_)
  · obtain ⟨h, l, a, d, c, sz, st, tap, ds, ns, rfl, _⟩ := h
    rfl
  · obtain ⟨h, l, a, d, c, sz, st, tap, ds, ns, rfl, hh, hl, ha, hst, hd, pd, hc, hz, k⟩ := h
    have hr1 : Room 1 _ := hr.mono (by decide)
    have hr6 : Room 6 _ := hr.mono (by decide)
    have nd := sc__law_all_right.nd
    refine ⟨_, pss_cons (ps_par (i := 5) (j := 6) rfl nd rfl rfl (by decide) rfl rfl (pa_cons (pe_lst pa_nil) (pa_cons (pv 2) pa_nil)) rfl)
      (pss_cons (ps_if (pt_cmpR (op_neD hr.u20) (pv 3) (pe_lst pa_nil) (nomark _))
        (pss_one (ps_for PassesOwn.never rfl (pi_range1 (by rfl) B.range (pa_cons (pe_fn D hr1 (pa_cons (pe_fn CA hr1 (pa_cons (pv 4) (pa_cons pe_int pa_nil))) (pa_cons pe_int (pa_cons pe_int pa_nil)))) pa_nil)) (pg_name (i := 7) nd rfl (Or.inl rfl))
          (pss_cons (ps_set (i := 8) nd rfl (Or.inl rfl) (pe_fn D hr1 (pa_cons (pe_fn CA hr1 (pa_cons (pv 4) (pa_cons (pe_op op_add pe_int (pv 7)) pa_nil))) (pa_cons pe_int (pa_cons (pe_callB call_len_seq (by rfl) B.len PySem.boot_len (pa_cons (pv 3) pa_nil)) pa_nil)))))
          (pss_cons (ps_expr (pe_append (pv 5) (pe_ix ix_list (pe_me0 MV (pv 0) hr) (pv 8) (fun _ _ => rfl))))
          (pss_one (ps_set (i := 6) nd rfl (Or.inl rfl) (pe_fn BH hr1 (pa_cons (pv 1) (pa_cons (pv 6) (pa_cons (pe_ix ix_list (pv 3) (pv 8) (fun _ _ => rfl)) pa_nil)))))))))) pss_nil)
      (pss_cons (ps_set (i := 9) nd rfl (Or.inl rfl) (pe_callTy call_list_of (by rfl) B.list bt_list (pa_cons (pv 5) pa_nil)))
      (pss_one (ps_ret (pe_and (pe_cmpR (op_eqD hr.u20) (pe_fn DA hr6 (pa_cons (pv 5) (pa_cons (pv 0) (pa_cons (pv 2) pa_nil)))) (pv 6) (nomark _))
        (pe_and (pe_cmpR (op_eqD hr.u20) (pv 5) (pv 9) (nomark _))
        (pe_one (pe_cmpR (op_eqD hr.u20) (pe_fn DA hr6 (pa_cons (pe_lst pa_nil) (pa_cons (pv 0) (pa_cons (pv 2) pa_nil)))) (pv 2) (nomark _))))))))), ?_⟩
    refine ⟨(by show 0 ≤ sizeLine; decide), fun r nr => ⟨_, rfl, _, _, rfl, ?_⟩⟩
    have s1 : Same H (upd H r (.lst [])) := Same.new nr
    -- what stands behind the drawn moves
    have fin : ∀ (H1 : Hp) (xs : List V) (ms : List J.Mv) (b : Addr) (v7 v8 : Option V), Same H H1 → H1 r = some (.lst xs) → Paired (isM Z H1) xs ms → (∀ m ∈ ms, m.ok sz.length tap) → H1 b = some (.tup ((ms.foldl (J.behind sz) st).map V.int)) →
        tSeq (tAsg (tCB (fun xs H Q => ∃ p ys, xs = [.ref p] ∧ (SqL K H p ys ∨ SqT K H p ys) ∧ ∀ l, H l = none → Q (.ref l) (upd H l (.lst ys))) (tCons (tVar 5) tNil)) (gName 9)) (tRet (tAndV (tOp (rEqD (cxOf CX0 P w K mg base ["_law_house", "_law_sizes_here", "_law_state_here", "_law_due", "_law_script", "_law_moves", "_law_now", "_law_k", "_law_at", "_law_kept"] "_law_all_right" (defScope s__law_all_right) f cdv A outer s H E).nox) (tCall (sp_done_all Z CH) [] E0 (tCons (tVar 5) (tCons (tVar 0) (tCons (tVar 2) tNil)))) (tVar 6))
          (tAndV (tOp (rEqD (cxOf CX0 P w K mg base ["_law_house", "_law_sizes_here", "_law_state_here", "_law_due", "_law_script", "_law_moves", "_law_now", "_law_k", "_law_at", "_law_kept"] "_law_all_right" (defScope s__law_all_right) f cdv A outer s H E).nox) (tVar 5) (tVar 9))
          (tOp (rEqD (cxOf CX0 P w K mg base ["_law_house", "_law_sizes_here", "_law_state_here", "_law_due", "_law_script", "_law_moves", "_law_now", "_law_k", "_law_at", "_law_kept"] "_law_all_right" (defScope s__law_all_right) f cdv A outer s H E).nox) (tCall (sp_done_all Z CH) [] E0 (tCons (tLst tNil) (tCons (tVar 0) (tCons (tVar 2) tNil)))) (tVar 2)))))
          { nx := fun _ H' => Q .non H', rt := Q } [some (.ref h), some (.ref l), some (.ref a), some (.ref d), some (.ref c), some (.ref r), some (.ref b), v7, v8, none] H1 := by
      intro H1 xs ms b v7 v8 s2 e2 p2 hok eb
      obtain ⟨ps, hps⟩ := refsOf p2
      refine ⟨_, rfl, r, _, rfl, .inl (SqL.of e2), fun y ny => ?_⟩
      have s3 : Same H1 (upd H1 y (.lst xs)) := Same.new ny
      have sA := s2.trans s3
      refine ⟨_, rfl, _, rfl, _, rfl, r, h, a, xs, sz, tap, st, ms, rfl, s3 _ _ e2, pm_fix p2 (Fix.of s3), hh.mono sA, sA _ _ ha, hst, hok, hz.nn, fun t H2 s4 e4 => ?_⟩
      have sB := sA.trans s4
      refine ⟨_, rfl, _, rcT e4 (s4 _ _ (s3 _ _ eb)), _, rfl, ?_⟩
      rw [decide_eq_true rfl]
      refine iteT ?_
      have e5 : H2 r = some (.lst (ps.map V.ref)) := by rw [← hps]; exact s4 _ _ (s3 _ _ e2)
      have e6 : H2 y = some (.lst (ps.map V.ref)) := by rw [← hps]; exact s4 _ _ upd_same
      refine ⟨_, rfl, _, rfl, _, RcD.same (SqL.of e5) (SqL.of e6), _, rfl, iteT ?_⟩
      refine ⟨(by show 0 ≤ sizeLine; decide), fun q nq => ?_⟩
      have s5 : Same H2 (upd H2 q (.lst [])) := Same.new nq
      have sC := sB.trans s5
      refine ⟨_, rfl, _, rfl, q, h, a, [], sz, tap, st, [], rfl, upd_same, .nil, hh.mono sC, sC _ _ ha, hst, by simp, hz.nn, fun t' H3 s6 e6' => ?_⟩
      refine ⟨_, rfl, _, rcT e6' ((sC.trans s6) _ _ ha), ?_⟩
      have e7 : (List.foldl (J.behind sz) st []) = st := rfl
      rw [e7, decide_eq_true rfl]
      exact k _ (sC.trans s6)
    refine ⟨_, rfl, (by show 0 ≤ sizeLine; decide), fun q nq => ?_⟩
    have s2 : Same H (upd (upd H r (.lst [])) q (.lst [])) := s1.lay nq
    have er2 : (upd (upd H r (.lst [])) q (.lst [])) r = some (.lst []) := (Same.new nq) _ _ upd_same
    refine ⟨_, rcLT (s2 _ _ hd) (pt_fix pd (Fix.of s2)) upd_same .nil, _, rfl, ?_⟩
    by_cases hm : (J.moves sz.length tap).map mvT = []
    · rw [decide_eq_true hm]
      exact iteF (fin _ [] [] a none none s2 er2 .nil (by simp) (s2 _ _ ha))
    · rw [decide_eq_false hm]
      refine iteT ?_
      have hml : 0 < (J.moves sz.length tap).length := by
        cases e : J.moves sz.length tap with
        | nil => rw [e] at hm; exact absurd rfl hm
        | cons _ _ => simp
      have hdl : ds.length = (J.moves sz.length tap).length := by rw [pd.length, List.length_map]
      refine ⟨_, rfl, c, ns, 3, rfl, s2.seq hc, by decide, fun cv => ⟨_, 1, 9, rfl, by decide, by decide, fun n H1 n0 n9 s3 => ?_⟩⟩
      have sA := s2.trans s3
      refine ⟨n, rfl, by omega, by omega, ?_⟩
      refine for_rangeN (n := n.toNat) (fun i σ H' => ∃ xs ms b v7 v8, σ = [some (.ref h), some (.ref l), some (.ref a), some (.ref d), some (.ref c), some (.ref r), some (.ref b), v7, v8, none] ∧ Same H H' ∧ H' r = some (.lst xs) ∧ Paired (isM Z H') xs ms ∧ (∀ m ∈ ms, m.ok sz.length tap) ∧ H' b = some (.tup ((ms.foldl (J.behind sz) st).map V.int)) ∧ xs.length ≤ i)
        ⟨[], [], a, none, none, rfl, sA, s3 _ _ er2, .nil, by simp, sA _ _ ha, Nat.le_refl _⟩ ?_ ?_
      · rintro i σ H2 hi ⟨xs, ms, b, v7, v8, rfl, s4, e4, p4, hok, eb, lx⟩
        refine ⟨_, rfl, _, rfl, _, _, rfl, rfl, c, ns, _, rfl, s4.seq hc, by omega, fun cv' => ⟨_, rfl, d, _, rfl, .inl (SqL.of (s4 _ _ hd)), _, 2, _, rfl, by decide, by omega, fun x H3 x0 xl s5 => ?_⟩⟩
        obtain ⟨j, rfl⟩ : ∃ j : Nat, x = (j : Int) := ⟨x.toNat, (Int.toNat_of_nonneg x0).symm⟩
        have hj : j < ds.length := by omega
        have hjm : j < (J.moves sz.length tap).length := by omega
        have sB := s4.trans s5
        obtain ⟨dx, t, hp, _⟩ := hh.mono sB
        refine ⟨_, rfl, .inl ⟨rfl, _, SqL.of (s5 _ _ e4)⟩, _, rfl, h, dx, _, rfl, hp, hF_no _ _ (by decide +kernel) (by decide +kernel), h, sz, tap, rfl, hh.mono sB, hz, fun y H4 ys s6 ny ey py => ?_⟩
        have hyl : ys.length = (J.moves sz.length tap).length := py.length
        obtain ⟨m, hmj, p, hyj, hmv⟩ := L2.Paired.get py (List.getElem?_eq_getElem (show j < ys.length by omega))
        have hyj' : ys[j]? = some (.ref p) := by rw [List.getElem?_eq_getElem (show j < ys.length by omega), hyj]
        have hmok : m.ok sz.length tap := J.mem_moves.mp (List.mem_of_getElem? hmj)
        refine ⟨_, rfl, y, _, _, .ref p, rfl, rfl, SqL.of ey, atI_nat hyj', ?_⟩
        have e6 := s6 _ _ (s5 _ _ e4)
        refine ⟨r, _, _, rfl, rfl, e6, small1000 (by omega), ?_⟩
        have f6 : Fix H4 (upd H4 r (.lst (xs ++ [.ref p]))) := Fix.put e6 rfl
        have sC : Same H (upd H4 r (.lst (xs ++ [.ref p]))) := (sB.trans s6).put nr
        have fB : Fix H2 (upd H4 r (.lst (xs ++ [.ref p]))) := (Fix.of (s5.trans s6)).trans f6
        obtain ⟨td, htd, t', hdt, ht'⟩ := L2.Paired.get pd (List.getElem?_eq_getElem hj)
        have htd' : td = mvT m := by
          rw [List.getElem?_map, hmj] at htd
          exact (Option.some.inj htd).symm
        subst htd'
        have hdj : ds[j]? = some (.ref t') := by rw [List.getElem?_eq_getElem hj, hdt]
        refine ⟨_, rfl, _, rfl, _, rfl, _, rfl, d, _, _, .ref t', rfl, rfl, SqL.of (sC _ _ hd), atI_nat hdj, l, b, t', sz, ms.foldl (J.behind sz) st, m, tap, rfl, sC _ _ hl, fB _ _ eb rfl, sC _ _ ht', foldl_st hz.nn hst ms hok, hmok, fun r' H6 s7 e7 => ?_⟩
        refine ⟨xs ++ [.ref p], ms ++ [m], r', _, _, rfl, sC.trans s7, s7 _ _ upd_same, Paired.snocP (pm_fix p4 (fB.trans (Fix.of s7))) ⟨p, rfl, (hmv.fix f6).mono s7⟩, fun z hz' => ?_, ?_, by simp; omega⟩
        · rcases List.mem_append.mp hz' with q' | q'
          · exact hok z q'
          · have e : z = m := by simpa using q'
            subst e; exact hmok
        · rw [List.foldl_append]; exact e7
      · rintro σ H2 ⟨xs, ms, b, v7, v8, rfl, s4, e4, p4, hok, eb, lx⟩
        exact fin H2 xs ms b v7 v8 s4 e4 p4 hok eb
end

def les (sz : List Int) : List Int := sz.map fun s => 1 + s / 2
theorem les_hz {sz : List Int} (h : Hz sz) : Hz (les sz) := by
  refine ⟨by simp [les]; exact h.l1, by simp [les]; exact h.l4, fun s hs => ?_, ?_⟩
  · obtain ⟨x, hx, rfl⟩ := List.mem_map.mp hs
    have := h.bd x hx
    omega
  · have key : ∀ (sz : List Int) (p q : Int), (∀ s ∈ sz, 1 ≤ s) → 0 ≤ p → p ≤ q → (les sz).foldl (fun m s => m * (s + 1)) p ≤ sz.foldl (fun m s => m * (s + 1)) q := by
      intro sz
      induction sz with
      | nil => intro p q _ _ h; exact h
      | cons s r ih =>
        intro p q hs h0 hpq
        have h1 := hs s List.mem_cons_self
        show (les r).foldl _ (p * (1 + s / 2 + 1)) ≤ r.foldl _ (q * (s + 1))
        refine ih _ _ (fun x hx => hs x (List.mem_cons_of_mem _ hx)) (Int.mul_nonneg h0 (by omega)) ?_
        exact Int.mul_le_mul hpq (by omega) (by omega) (by omega)
    exact Int.le_trans (key sz 1 1 (fun s hs => (h.bd s hs).1) (by decide) (by decide)) h.pr
section
variable {P : Program} {w : World} {K : PySem.W.Frag} {mg : Str → Option Value} {base : Heap} {CH CM : Addr} {Z : Cz}
/-- law's: a list of at most 63 ints is handed in, True comes out -/
def spLaw (K : PySem.W.Frag) : Sp := fun vs H Q _ => ∃ (a : Addr) (ns : List Int), vs = [.ref a] ∧ SqL K H a (ns.map V.int) ∧ ns.length ≤ 63 ∧ ∀ H', Q (.bl true) H'
theorem ok_law1 {f : Addr} {fd : FuncData} (F : Fun K "law" "law" s_law f fd) (B : Bt mg) (C : CHs K CH) (M : MvC K mg Z) (N : MvK K mg Z CM)
    (D : FnB P w K mg base 1 "_law_draw" ["_law_cell", "_law_k", "_law_many"] sp_draw) (CA : FnB P w K mg base 1 "_law_cell_at" ["_law_script", "_law_k"] (sp_cell_at K))
    (LZ : FnB P w K mg base 2 "_law_sizes" ["_law_cell"] sp_law_sizes) (LS : FnB P w K mg base 2 "_law_state" ["_law_cell", "_law_sizes_here"] sp_law_state) (LT : FnB P w K mg base 1 "_law_states" ["_law_sizes_here"] sp_law_states)
    (AM : FnB P w K mg base 1 "_law_all_moves" ["_law_sizes_here", "_law_tap"] sp_all_moves) (BH : FnB P w K mg base 1 "_law_behind" ["_law_sizes_here", "_law_state_here", "_law_told_here"] sp_behind)
    (TD : FnB P w K mg base 3 "_law_told" ["_law_move"] (sp_told Z)) (SO : FnB P w K mg base 1 "_law_sorts" ["_law_move"] (sp_sorts Z)) (WH : FnB P w K mg base 1 "_law_whole" ["_law_state_here"] sp_whole)
    (AR : FnB P w K mg base 8 "_law_all_right" ["_law_house", "_law_sizes_here", "_law_state_here", "_law_due", "_law_script"] (sp_all_right K Z CH))
    (MH : MkB P w K mg base 3 "House" CH ["self", "sizes", "tap"] (sp_House_init CH)) (SZ : MeB P w K mg base 1 CH "sizes" ["self"] (sp_sizes CH)) (EM : MeB P w K mg base 1 CH "empty" ["self"] (sp_empty CH)) (ST : MeB P w K mg base 2 CH "states" ["self"] (sp_states CH))
    (MV : MeB P w K mg base 7 CH "moves" ["self"] (sp_moves Z CH)) (DN : ∀ C, anyMv Z C → MeB P w K mg base 5 C "done" ["self", "house", "state"] (sp_done Z CH)) : FnOk P w K mg base CX0 9 f fd ["_law_script"] (spLaw K) := by
  refine F.ok sc_law (fun vs H Q E h => ?_) (fun cdv A outer s H vs Q E hr h => ?_)
  · obtain ⟨a, ns, rfl, _⟩ := h
    rfl
  · obtain ⟨a, ns, rfl, hS, hlen, k⟩ := h
    have nd := sc_law.nd
    have hr1 : Room 1 _ := hr.mono (by decide)
    have hr2 : Room 2 _ := hr.mono (by decide)
    have hr3 : Room 3 _ := hr.mono (by decide)
    have hr4 : Room 4 _ := hr.mono (by decide)
    have hr5 : Room 5 _ := hr.mono (by decide)
    have hr7 : Room 7 _ := hr.mono (by decide)
    have hu := hr.u20
    refine ⟨_, (pss_cons (ps_set (i := 1) nd rfl (Or.inl rfl) (pe_fn LZ hr2 (pa_cons (pe_fn CA hr1 (pa_cons (pv 0) (pa_cons pe_int pa_nil))) pa_nil)))
      (pss_cons (ps_set (i := 2) nd rfl (Or.inl rfl) (pe_cmpR op_eq (pe_fn D hr1 (pa_cons (pe_fn CA hr1 (pa_cons (pv 0) (pa_cons pe_int pa_nil))) (pa_cons pe_int (pa_cons pe_int pa_nil)))) pe_int (nomark _)))
      (pss_cons (ps_set (i := 3) nd rfl (Or.inl rfl) (pe_callTy call_list_of (by rfl) B.list bt_list (pa_cons (pv 1) pa_nil)))
      (pss_cons (ps_set (i := 4) nd rfl (Or.inl rfl) (pe_mk MH hr4 (pa_cons (pv 3) (pa_cons (pv 2) pa_nil))))
      (pss_cons (ps_expr (pe_append (pv 3) pe_int))
      (pss_cons (ps_if (PW.pt (pw_or (pt_cmpR (op_neD hu) (pe_me0 SZ (pv 4) hr1) (pv 1) (nomark _)) (pw_or (pt_cmpR op_ne (pe_fld (pv 4) rfl) (pv 2) (nomark _)) (pw_or1 (pt_cmpR (op_neD hu) (pe_me0 EM (pv 4) hr1) (pe_callTy call_tuple_of (by rfl) B.tuple bt_tuple (pa_cons (pe_lc sc_law [] (pi_list (pv 1)) (fun _ _ _ _ _ _ => ⟨pif_nil, pe_int⟩)) pa_nil)) (nomark _)))))) pss_never pss_nil)
      (pss_cons (ps_expr (pe_clear (pe_me0 SZ (pv 4) hr1)))
      (pss_cons (ps_if (PW.pt (pw_or (pt_cmpR (op_neD hu) (pe_me0 ST (pv 4) hr2) (pe_fn LT hr1 (pa_cons (pv 1) pa_nil)) (nomark _)) (pw_or1 (pt_cmpR (op_neD hu) (pe_me0 SZ (pv 4) hr1) (pv 1) (nomark _))))) pss_never pss_nil)
      (pss_cons (ps_expr (pe_clear (pe_me0 ST (pv 4) hr2)))
      (pss_cons (ps_if (pt_cmpR (op_neD hu) (pe_me0 ST (pv 4) hr2) (pe_fn LT hr1 (pa_cons (pv 1) pa_nil)) (nomark _)) pss_never pss_nil)
      (pss_cons (ps_set (i := 5) nd rfl (Or.inl rfl) (pe_fn LS hr2 (pa_cons (pe_fn CA hr1 (pa_cons (pv 0) (pa_cons pe_int pa_nil))) (pa_cons (pv 1) pa_nil))))
      (pss_cons (ps_lc (i := 6) sc_law [] nd rfl rfl (pi_list (pv 1)) (fun _ _ _ _ _ _ => ⟨pif_nil, pe_op op_add pe_int (pe_op op_fdiv (pv 0) pe_int)⟩))
      (pss_cons (ps_par (i := 7) (j := 8) rfl nd rfl rfl (by decide) rfl rfl (pa_cons (pe_mk MH hr4 (pa_cons (pv 6) (pa_cons (pv 2) pa_nil))) (pa_cons (pe_fn LS hr2 (pa_cons (pe_fn CA hr1 (pa_cons (pv 0) (pa_cons pe_int pa_nil))) (pa_cons (pv 6) pa_nil))) pa_nil)) rfl)
      (pss_cons (ps_set (i := 9) nd rfl (Or.inr rfl) (pe_fn AM hr1 (pa_cons (pv 1) (pa_cons (pv 2) pa_nil))))
      (pss_cons (ps_for PassesOwn.never rfl (pi_range1 (by rfl) B.range (pa_cons pe_int pa_nil)) (pg_name (i := 10) nd rfl (Or.inl rfl))
        (pss_cons (ps_set (i := 11) nd rfl (Or.inl rfl) (pe_me0 MV (pv 4) hr7))
        (pss_cons (ps_if (PW.pt (pw_or (pt_not (pt_val (pe_callB call_isinst (by rfl) B.isinstance bt_isinstance (pa_cons (pv 11) (pa_cons (pe_bltn (v := .ty "list") (by rfl) B.list bt_list rfl) pa_nil))))) (pw_or1 (pt_cmpR (op_neD hu) (pe_lc sc_law [] (pi_list (pv 11)) (fun _ _ _ _ _ _ => ⟨pif_nil, pe_fn TD hr3 (pa_cons (pv 0) pa_nil)⟩)) (pv 9) (nomark _))))) pss_never pss_nil)
        (pss_cons (ps_for PassesOwn.never rfl (pi_range1 (by rfl) B.range (pa_cons (pe_callB call_len_seq (by rfl) B.len PySem.boot_len (pa_cons (pv 9) pa_nil)) pa_nil)) (pg_name (i := 12) nd rfl (Or.inr rfl))
          (pss_cons (ps_if (PW.pt (pw_or (pt_not (pt_val (pe_callB call_isinst (by rfl) B.isinstance bt_isinstance (pa_cons (pe_ix ix_list (pv 11) (pv 12) (fun _ _ => rfl)) (pa_cons (pe_glob (v := .ref CM) (by rfl) N.gM rfl) pa_nil))))) (pw_or1 (pt_cmpR (op_neD hu) (pe_fn SO hr1 (pa_cons (pe_ix ix_list (pv 11) (pv 12) (fun _ _ => rfl)) pa_nil)) (pe_lc sc_law [9, 12] (pi_range1 (by rfl) B.range (pa_cons pe_int pa_nil)) (fun _ _ _ _ _ _ => ⟨pif_nil, pe_cmpR op_eq (pe_ix (ix_tupK K) (pe_ix (ix_listK K) (pv 1) (pv 2) (fun _ _ => rfl)) pe_int (fun _ _ => rfl)) (pv 0) (nomark _)⟩)) (nomark _))))) pss_never pss_nil)
            (pss_cons (ps_if (pt_cmpR (op_neD hu) (pe_meU DN (pe_ix ix_list (pv 11) (pv 12) (fun _ _ => rfl)) hr5 (pa_cons (pv 7) (pa_cons (pv 8) pa_nil))) (pe_fn BH hr1 (pa_cons (pv 6) (pa_cons (pv 8) (pa_cons (pe_ix ix_list (pv 9) (pv 12) (fun _ _ => rfl)) pa_nil)))) (nomark _)) pss_never pss_nil)
            (pss_cons (ps_set (i := 13) nd rfl (Or.inl rfl) (pe_meU DN (pe_ix ix_list (pv 11) (pv 12) (fun _ _ => rfl)) hr5 (pa_cons (pv 4) (pa_cons (pv 5) pa_nil))))
            (pss_one (ps_if (PW.pt (pw_or (pt_not (pt_val (pe_fn WH hr1 (pa_cons (pv 13) pa_nil)))) (pw_or1 (pt_cmpR (op_neD hu) (pv 13) (pe_fn BH hr1 (pa_cons (pv 1) (pa_cons (pv 5) (pa_cons (pe_ix ix_list (pv 9) (pv 12) (fun _ _ => rfl)) pa_nil)))) (nomark _))))) pss_never pss_nil))))))
        (pss_one (ps_expr (pe_append (pv 11) pe_int)))))))
      (pss_one (ps_ret (pe_fn AR hr (pa_cons (pv 4) (pa_cons (pv 1) (pa_cons (pv 5) (pa_cons (pv 9) (pa_cons (pv 0) pa_nil))))))))))))))))))))))), ?_⟩
    -- sizes, tap, handed, the house
    refine ⟨_, rfl, a, ns, 0, rfl, hS, by decide, fun c0 => ⟨c0, rfl, fun l H1 sz s1 nl el lz => ?_⟩⟩
    have hz := lz.hz
    have hnn : ∀ s ∈ sz, 0 ≤ s := fun s hs => by have := hz.bd s hs; omega
    have h4 := hz.l4
    refine ⟨_, rfl, a, ns, 1, rfl, s1.seq hS, by decide, fun c1 => ⟨c1, 0, 2, rfl, by decide, by decide, fun x H2 x0 x2 s2 => ⟨rfl, ?_⟩⟩⟩
    generalize decide (V.int x = V.int 0) = tap
    have s02 := s1.trans s2
    refine ⟨_, rfl, l, _, rfl, .inl (SqL.of (s2 _ _ el)), fun g ng => ?_⟩
    have s3 : Same H2 (upd H2 g (.lst (sz.map V.int))) := Same.new ng
    refine ⟨_, rfl, _, rfl, fun p dx np ndx nex => ⟨p, dx, g, sz, tap, rfl, upd_same, ?_, hz, fun H4 kp hh4 => ⟨rfl, ?_⟩⟩⟩
    · have e : (upd H2 g (.lst (sz.map V.int))) g = some (.lst (sz.map V.int)) := upd_same
      rw [upd_ne (ne_of_none e np), upd_ne (ne_of_none e ndx)]; exact e
    have s4 : Same (upd H2 g (.lst (sz.map V.int))) H4 := fun c o e => kp c o (by rw [upd_ne (ne_of_none e np), upd_ne (ne_of_none e ndx)]; exact e) (ne_of_none e np)
    have eg4 := s4 _ _ upd_same
    refine ⟨_, rfl, .inl ⟨rfl, _, SqL.of eg4⟩, g, _, _, rfl, rfl, eg4, small1000 (by rw [List.length_map]; omega), ?_⟩
    have s25 : Same H2 (upd H4 g (.lst (sz.map V.int ++ [V.int 5]))) := (s3.trans s4).put ng
    have hh5 : House CH (upd H4 g (.lst (sz.map V.int ++ [V.int 5]))) p sz tap := hh4.fix (Fix.put eg4 rfl)
    generalize upd H4 g (.lst (sz.map V.int ++ [V.int 5])) = H5 at s25 hh5 ⊢
    have s05 := s02.trans s25
    have el5 := s25 _ _ (s2 _ _ el)
    have nS := fun (d : Addr) (t : Addr) => hF_no t tap (m := "sizes") (by decide +kernel) (by decide +kernel)
    obtain ⟨dp, tp, hp5, ht5⟩ := id hh5
    -- house.sizes() != .. or house.tap != .. or house.empty() != ..
    refine ⟨_, rfl, p, dp, _, rfl, hp5, hF_no _ _ (by decide +kernel) (by decide +kernel), p, sz, tap, rfl, hh5, fun y ny => ?_⟩
    have s6 : Same H5 (upd H5 y (.lst (sz.map V.int))) := Same.new ny
    refine ⟨_, rfl, _, rcL upd_same (s6 _ _ el5), _, rfl, ?_⟩
    rw [decide_eq_true rfl]
    refine iteF ?_
    refine ⟨_, rfl, p, CH, dp, _, _, rfl, s6 _ _ hp5, C.cl, C.tap, hF_tap _ _, _, rfl, (by cases tap <;> rfl), _, rfl, ?_⟩
    rw [decide_eq_true rfl]
    refine iteF ?_
    refine ⟨_, rfl, p, dp, _, rfl, s6 _ _ hp5, hF_no _ _ (by decide +kernel) (by decide +kernel), p, sz, tap, rfl, hh5.mono s6, hz, fun u H7 s7 e7 => ?_⟩
    have s57 := s6.trans s7
    refine ⟨_, rfl, l, rfl, ⟨_, SqL.of (s57 _ _ el5)⟩, lc_list (xs := sz.map V.int) (fun i ys H' => ys = (List.replicate i (0 : Int)).map V.int ∧ H' = H7) ⟨rfl, rfl⟩ (by rw [List.length_map]; exact small1000 (by omega)) (fun i ys H' ⟨e, _⟩ => by rw [e]; simp)
      (fun i ys H' _ ⟨_, e⟩ => by subst e; exact SqL.of (s57 _ _ el5)) (fun i x' ys H' _ ⟨e1, e2⟩ => ?_) (fun ys H' ⟨e1, e2⟩ => ?_)⟩
    · subst e1 e2
      refine tYes_of ⟨?_, rfl⟩
      rw [List.replicate_succ', List.map_append]; rfl
    subst e1 e2
    intro D' nD'
    rw [List.length_map]
    refine ⟨D', _, rfl, .inl ⟨SqL.of upd_same, fun t' nt' => ?_⟩⟩
    have s8 : Same H' (upd (upd H' D' (.lst ((List.replicate sz.length (0 : Int)).map V.int))) t' (.tup ((List.replicate sz.length (0 : Int)).map V.int))) := (Same.new nD').lay nt'
    refine ⟨_, rcT (s8 _ _ e7) upd_same, _, rfl, ?_⟩
    rw [decide_eq_true rfl]
    refine iteF ?_
    have s58 := s57.trans s8
    generalize upd (upd H' D' (.lst ((List.replicate sz.length (0 : Int)).map V.int))) t' (.tup ((List.replicate sz.length (0 : Int)).map V.int)) = H8 at s58 ⊢
    clear e7 s7 s57 s8 s6 nD' nt'
    -- house.sizes().clear()
    refine ⟨_, rfl, p, dp, _, rfl, s58 _ _ hp5, hF_no _ _ (by decide +kernel) (by decide +kernel), p, sz, tap, rfl, hh5.mono s58, fun y' ny' => ?_⟩
    refine ⟨.inl ⟨rfl, _, SqL.of upd_same⟩, y', _, rfl, rfl, upd_same, ?_⟩
    have s59 : Same H5 (upd (upd H8 y' (.lst (sz.map V.int))) y' (.lst [])) := (s58.lay ny').put (s58.free ny')
    generalize upd (upd H8 y' (.lst (sz.map V.int))) y' (.lst []) = H9 at s59 ⊢
    -- house.states() != .. or house.sizes() != ..
    refine ⟨_, rfl, p, dp, _, rfl, s59 _ _ hp5, hF_no _ _ (by decide +kernel) (by decide +kernel), p, sz, tap, rfl, hh5.mono s59, hz, fun r1 G1 zs1 t1 n1 e1 p1 => ?_⟩
    refine ⟨_, rfl, l, sz, rfl, t1 _ _ (s59 _ _ el5), hz, fun r2 G2 zs2 t2 n2 e2 p2 => ?_⟩
    have q2 := (s59.trans t1).trans t2
    refine ⟨_, rcLT (t2 _ _ e1) (pt_fix p1 (Fix.of t2)) e2 p2, _, rfl, ?_⟩
    rw [decide_eq_true rfl]
    refine iteF ?_
    refine ⟨_, rfl, p, dp, _, rfl, q2 _ _ hp5, hF_no _ _ (by decide +kernel) (by decide +kernel), p, sz, tap, rfl, hh5.mono q2, fun y2 ny2 => ?_⟩
    have t3 : Same G2 (upd G2 y2 (.lst (sz.map V.int))) := Same.new ny2
    refine ⟨_, rfl, _, rcL upd_same ((q2.trans t3) _ _ el5), _, rfl, ?_⟩
    rw [decide_eq_true rfl]
    refine iteF ?_
    have q3 := q2.trans t3
    generalize upd G2 y2 (.lst (sz.map V.int)) = G3 at q3 ⊢
    clear p1 p2 e1 e2 t1 t2 t3 n1 n2
    -- house.states().clear()
    refine ⟨_, rfl, p, dp, _, rfl, q3 _ _ hp5, hF_no _ _ (by decide +kernel) (by decide +kernel), p, sz, tap, rfl, hh5.mono q3, hz, fun r3 G4 zs3 t4 n3 e3 p3 => ?_⟩
    refine ⟨.inl ⟨rfl, _, SqL.of e3⟩, r3, _, rfl, rfl, e3, ?_⟩
    have q4 : Same H5 (upd G4 r3 (.lst [])) := (q3.trans t4).put (q3.free n3)
    generalize upd G4 r3 (.lst []) = G5 at q4 ⊢
    clear p3 e3 t4 n3
    -- house.states() != ..
    refine ⟨_, rfl, p, dp, _, rfl, q4 _ _ hp5, hF_no _ _ (by decide +kernel) (by decide +kernel), p, sz, tap, rfl, hh5.mono q4, hz, fun r1 G1 zs1 t1 n1 e1 p1 => ?_⟩
    refine ⟨_, rfl, l, sz, rfl, t1 _ _ (q4 _ _ el5), hz, fun r2 G2 zs2 t2 n2 e2 p2 => ?_⟩
    have q5 := (q4.trans t1).trans t2
    refine ⟨_, rcLT (t2 _ _ e1) (pt_fix p1 (Fix.of t2)) e2 p2, _, rfl, ?_⟩
    rw [decide_eq_true rfl]
    refine iteF ?_
    clear p1 p2 e1 e2 t1 t2 n1 n2
    -- the state, the lesser house
    refine ⟨_, rfl, a, ns, 2, rfl, (s05.trans q5).seq hS, by decide, fun c2 => ⟨_, rfl, c2, l, sz, rfl, q5 _ _ el5, h4, hnn, fun u6 G6 st t6 e6 hst => ?_⟩⟩
    have q6 := q5.trans t6
    refine ⟨_, rfl, l, rfl, ⟨_, SqL.of (q6 _ _ el5)⟩, lc_list (xs := sz.map V.int) (fun i ys H' => ys = ((les sz).take i).map V.int ∧ H' = G6) ⟨rfl, rfl⟩ (by rw [List.length_map]; exact small1000 (by omega)) (fun i ys H' ⟨e, _⟩ => by rw [e]; simp; omega)
      (fun i ys H' _ ⟨_, e⟩ => by subst e; exact SqL.of (q6 _ _ el5)) (fun i x' ys H' hx' ⟨e1, e2⟩ => ?_) (fun ys H' ⟨e1, e2⟩ => ?_)⟩
    · obtain ⟨z, ez, rfl⟩ := mem_ints hx'
      subst e1 e2
      refine tYes_of ⟨_, rfl, _, _, rfl, rfl, ⟨by decide, by decide⟩, _, _, rfl, rfl, ?_, rfl⟩
      rw [List.take_add_one]
      have e : (les sz)[i]? = some (1 + z / 2) := by unfold les; rw [List.getElem?_map, ez]; rfl
      rw [e, List.map_append]; rfl
    subst e1 e2
    intro lg nlg
    have e9 : List.take (List.map V.int sz).length (les sz) = les sz := by rw [List.length_map]; exact List.take_of_length_le (by simp [les])
    rw [e9]
    have hzl := les_hz hz
    have hll : (les sz).length = sz.length := by simp [les]
    have hnl : ∀ s ∈ les sz, 0 ≤ s := fun s hs => by have := hzl.bd s hs; omega
    have q7 := q6.lay (o := .lst ((les sz).map V.int)) nlg
    have elg : (upd H' lg (.lst ((les sz).map V.int))) lg = some (.lst ((les sz).map V.int)) := upd_same
    have e6' := (Same.new (o := .lst ((les sz).map V.int)) nlg) _ _ e6
    generalize upd H' lg (.lst ((les sz).map V.int)) = G7 at q7 elg e6' ⊢
    refine ⟨_, rfl, _, rfl, fun p' dx' np' ndx' nex' => ⟨p', dx', lg, les sz, tap, rfl, upd_same, ?_, hzl, fun G8 kp' hh8 => ⟨rfl, ?_⟩⟩⟩
    · rw [upd_ne (ne_of_none elg np'), upd_ne (ne_of_none elg ndx')]; exact elg
    have t8 : Same G7 G8 := fun c o e => kp' c o (by rw [upd_ne (ne_of_none e np'), upd_ne (ne_of_none e ndx')]; exact e) (ne_of_none e np')
    have q8 := q7.trans t8
    refine ⟨_, rfl, a, ns, 3, rfl, (s05.trans q8).seq hS, by decide, fun c3 => ⟨_, rfl, c3, lg, les sz, rfl, t8 _ _ elg, hzl.l4, hnl, fun u9 G9 fr t9 e9 hfr => ⟨_, _, rfl, ?_⟩⟩⟩
    have q9 := q8.trans t9
    -- all moves
    refine ⟨_, rfl, _, rfl, l, sz, tap, rfl, q9 _ _ el5, h4, fun d Gd ds td nd' ed pd => ?_⟩
    have qd := q9.trans td
    have hhd := hh5.mono qd
    have eld := qd _ _ el5
    have est : Gd u6 = some (.tup (st.map V.int)) := td _ _ (t9 _ _ (t8 _ _ e6'))
    have elgd : Gd lg = some (.lst ((les sz).map V.int)) := td _ _ (t9 _ _ (t8 _ _ elg))
    have hhl : House CH Gd p' (les sz) tap := hh8.mono (t9.trans td)
    have efr : Gd u9 = some (.tup (fr.map V.int)) := td _ _ e9
    have hSd := (s05.trans qd).seq hS
    clear q9 td t9 q8 t8 hh8 kp' e9 nlg e6 e6' elg q7 q6 t6 q5 q4 q3 q2 s59 s58 hh4 kp
    have hdl : ds.length = (J.moves sz.length tap).length := by rw [pd.length, List.length_map]
    refine ⟨2, rfl, by decide, by decide, for_rangeN (n := 2) (fun i σ H' => ∃ v10 v11 v12 v13, σ = [some (.ref a), some (.ref l), some (.bl tap), some (.ref g), some (.ref p), some (.ref u6), some (.ref lg), some (.ref p'), some (.ref u9), some (.ref d), v10, v11, v12, v13] ∧ Same Gd H') ⟨none, none, none, none, rfl, Same.refl _⟩ ?_ ?_⟩
    · rintro i σ K1 _ ⟨v10, v11, v12, v13, rfl, w1⟩
      obtain ⟨dp1, tp1, hp1, _⟩ := hhd.mono w1
      refine ⟨_, rfl, p, dp1, _, rfl, hp1, hF_no _ _ (by decide +kernel) (by decide +kernel), p, sz, tap, rfl, hhd.mono w1, hz, fun f1 K2 fs w2 nf1 ef1 pf => ?_⟩
      have w02 := w1.trans w2
      have nf0 : Gd f1 = none := w1.free nf1
      have hfl : fs.length = (J.moves sz.length tap).length := pf.length
      refine ⟨_, rfl, _, _, _, _, _, rfl, .ty "list", .lst ef1, kit_ll, _, rfl, iteF ?_⟩
      have hml : (J.moves sz.length tap).length ≤ 24 := by
        have h5 := rows_len sz.length sz.length
        have h6 : sz.length * sz.length ≤ 4 * 4 := Nat.mul_le_mul h4 h4
        have e : (J.moves sz.length tap).length ≤ ((List.range sz.length).flatMap (row sz.length)).length + (sz.length + sz.length) := by
          show (J.pours sz.length ++ _).length ≤ _
          rw [List.length_append]
          refine Nat.add_le_add (Nat.le_refl _) ?_
          cases tap <;> simp
        omega
      refine ⟨_, rfl, f1, rfl, ⟨_, SqL.of ef1⟩, lc_list (xs := fs) (fun j zs H' => Same K2 H' ∧ zs.length ≤ j ∧ Paired (isTI H') zs (((J.moves sz.length tap).take j).map mvT)) ⟨Same.refl _, Nat.le_refl _, .nil⟩ (small1000 (by omega)) (fun j zs H' ⟨_, q, _⟩ => q)
        (fun j zs H' _ ⟨t, _⟩ => SqL.of (t _ _ ef1)) ?_ ?_⟩
      · rintro j x' zs K3 hx' ⟨w3, l3, p3⟩
        obtain ⟨m, hm, pm, rfl, hmv⟩ := L2.Paired.get pf hx'
        have hmok : m.ok sz.length tap := J.mem_moves.mp (List.mem_of_getElem? hm)
        refine tYes_of ⟨_, rfl, pm, m, rfl, hmv.mono w3, sm_of hmok h4, fun t K4 w4 e4 => ⟨w3.trans w4, by simp; omega, ?_⟩⟩
        rw [List.take_add_one, hm, List.map_append]
        exact Paired.snocP (pt_fix p3 (Fix.of w4)) ⟨t, rfl, e4⟩
      rintro zs K3 ⟨w3, l3, p3⟩ D1 nD1
      rw [hfl, List.take_length] at p3
      have w4 : Same K3 (upd K3 D1 (.lst zs)) := Same.new nD1
      have w24 := w3.trans w4
      refine ⟨_, rfl, _, rcLT upd_same (pt_fix p3 (Fix.of w4)) ((w02.trans w24) _ _ ed) (pt_fix pd (Fix.of (w02.trans w24))), _, rfl, ?_⟩
      rw [decide_eq_true rfl]
      refine iteF ?_
      have w05 := w02.trans w24
      have ef5 := w24 _ _ ef1
      have pf5 := pm_fix pf (Fix.of w24)
      generalize upd K3 D1 (.lst zs) = K5 at w05 ef5 pf5 ⊢
      clear p3 l3 w3 w4 w24 w02 w2 pf ef1
      refine ⟨_, rfl, d, _, rfl, .inl (SqL.of (w05 _ _ ed)), ((ds.length : Nat) : Int), rfl, by omega, by omega, for_rangeN (n := ds.length) (fun j σ H' => ∃ v12 v13, σ = [some (.ref a), some (.ref l), some (.bl tap), some (.ref g), some (.ref p), some (.ref u6), some (.ref lg), some (.ref p'), some (.ref u9), some (.ref d), some (.int i), some (.ref f1), v12, v13] ∧ Same K5 H') ⟨v12, v13, rfl, Same.refl _⟩ ?_ ?_⟩
      · rintro j σ L1 hj ⟨v12, v13, rfl, y1⟩
        have hjf : j < fs.length := by omega
        obtain ⟨m, hmj, pm, hfm, hmv5⟩ := L2.Paired.get pf5 (List.getElem?_eq_getElem hjf)
        have hfj : fs[j]? = some (.ref pm) := by rw [List.getElem?_eq_getElem hjf, hfm]
        have hmok : m.ok sz.length tap := J.mem_moves.mp (List.mem_of_getElem? hmj)
        obtain ⟨tdl, htd, tt, hdt, htt⟩ := L2.Paired.get pd (List.getElem?_eq_getElem hj)
        have htd' : tdl = mvT m := by
          rw [List.getElem?_map, hmj] at htd
          exact (Option.some.inj htd).symm
        subst htd'
        have hdj : ds[j]? = some (.ref tt) := by rw [List.getElem?_eq_getElem hj, hdt]
        have z1 := w05.trans y1
        have ef1' := y1 _ _ ef5
        have hmv1 := hmv5.mono y1
        -- isinstance, sorts
        refine ⟨_, rfl, _, rfl, f1, _, _, .ref pm, rfl, rfl, SqL.of ef1', atI_nat hfj, _, _, _, _, _, rfl, .ref _, M.ty hmv1, N.mv m, _, rfl, iteF ?_⟩
        refine ⟨_, rfl, _, rfl, f1, _, _, .ref pm, rfl, rfl, SqL.of ef1', atI_nat hfj, pm, m, rfl, hmv1, fun lb nlb => ?_⟩
        have y2 : Same L1 (upd L1 lb (.lst ((sorts m).map V.bl))) := Same.new nlb
        have z2 := z1.trans y2
        have hq0 : ((mvT m).map V.int)[0]? = some (.int (J.at0 (mvT m) 0)) := getV_of (by cases m <;> simp [mvT])
        refine ⟨3, rfl, by decide, by decide, lc_rangeN (n := 3) (fun q ws H' => H' = upd L1 lb (.lst ((sorts m).map V.bl)) ∧ ws = ((List.range q).map fun (e : Nat) => decide (V.int (J.at0 (mvT m) 0) = V.int (e : Int))).map V.bl) ⟨rfl, rfl⟩ (by decide) (fun q ws H' ⟨_, e⟩ => by rw [e]; simp) ?_ ?_⟩
        · rintro q ws L2' hq ⟨rfl, rfl⟩
          refine tYes_of ⟨_, rfl, _, rfl, d, _, _, .ref tt, rfl, rfl, SqL.of (z2 _ _ ed), atI_nat hdj, tt, _, _, _, rfl, rfl, SqT.of (z2 _ _ htt), atI_nat (j := 0) hq0, _, rfl, rfl, rfl, ?_⟩
          rw [List.range_succ, List.map_append, List.map_append]; rfl
        rintro ws L2' ⟨rfl, rfl⟩ D2 nD2
        have hso : ((List.range 3).map fun (e : Nat) => decide (V.int (J.at0 (mvT m) 0) = V.int (e : Int))) = sorts m := by cases m <;> rfl
        rw [hso]
        have y3 : Same (upd L1 lb (.lst ((sorts m).map V.bl))) (upd (upd L1 lb (.lst ((sorts m).map V.bl))) D2 (.lst ((sorts m).map V.bl))) := Same.new nD2
        refine ⟨_, rcB (y3 _ _ upd_same) upd_same, _, rfl, ?_⟩
        rw [decide_eq_true rfl]
        refine iteF ?_
        have z3 := z2.trans y3
        have k3 : Same K5 (upd (upd L1 lb (.lst ((sorts m).map V.bl))) D2 (.lst ((sorts m).map V.bl))) := (y1.trans y2).trans y3
        generalize upd (upd L1 lb (.lst ((sorts m).map V.bl))) D2 (.lst ((sorts m).map V.bl)) = L3 at z3 k3 ⊢
        have ef3 := k3 _ _ ef5
        have hmv3 := hmv5.mono k3
        obtain ⟨dm, hpm⟩ := id hmv3
        have hmokl : m.ok (les sz).length tap := by rw [hll]; exact hmok
        -- done in the lesser house
        refine ⟨_, rfl, _, rfl, f1, _, _, .ref pm, rfl, rfl, SqL.of ef3, atI_nat hfj, Z.cl m, pm, dm, _, anyMv_cl Z m, rfl, hpm, fsOf_no m (by decide +kernel) (by decide +kernel) (by decide +kernel), _, rfl, _, rfl, pm, p', u9, les sz, tap, fr, m, rfl, hmv3, hhl.mono z3, z3 _ _ efr, hfr, hmokl, fun r4 L4 y4 e4 => ?_⟩
        have z4 := z3.trans y4
        refine ⟨_, rfl, _, rfl, _, rfl, _, rfl, d, _, _, .ref tt, rfl, rfl, SqL.of (z4 _ _ ed), atI_nat hdj, lg, u9, tt, les sz, fr, m, tap, rfl, z4 _ _ elgd, z4 _ _ efr, z4 _ _ htt, hfr, hmokl, fun r5 L5 y5 e5 => ?_⟩
        refine ⟨_, rcT (y5 _ _ e4) e5, _, rfl, ?_⟩
        rw [decide_eq_true rfl]
        refine iteF ?_
        have z5 := z4.trans y5
        have k5 := (k3.trans y4).trans y5
        have hmv6 := hmv5.mono k5
        obtain ⟨dm5, hpm5⟩ := id hmv6
        -- done in the house
        refine ⟨_, rfl, _, rfl, f1, _, _, .ref pm, rfl, rfl, SqL.of (k5 _ _ ef5), atI_nat hfj, Z.cl m, pm, dm5, _, anyMv_cl Z m, rfl, hpm5, fsOf_no m (by decide +kernel) (by decide +kernel) (by decide +kernel), _, rfl, _, rfl, pm, p, u6, sz, tap, st, m, rfl, hmv6, hhd.mono z5, z5 _ _ est, hst, hmok, fun r6 L6 y6 e6 => ?_⟩
        have z6 := z5.trans y6
        have hbl : (J.behind sz st m).length ≤ 4 := by rw [(hst.behind hz.nn hmok).len]; exact h4
        refine ⟨_, rfl, r6, _, rfl, e6, hbl, fun L7 y7 => ⟨_, rfl, iteF ?_⟩⟩
        have z7 := z6.trans y7
        refine ⟨_, rfl, _, rfl, _, rfl, _, rfl, _, rfl, d, _, _, .ref tt, rfl, rfl, SqL.of (z7 _ _ ed), atI_nat hdj, l, u6, tt, sz, st, m, tap, rfl, z7 _ _ eld, z7 _ _ est, z7 _ _ htt, hst, hmok, fun r8 L8 y8 e8 => ?_⟩
        refine ⟨_, rcT (y8 _ _ (y7 _ _ e6)) e8, _, rfl, ?_⟩
        rw [decide_eq_true rfl]
        exact iteF ⟨_, _, rfl, ((k5.trans y6).trans y7).trans y8⟩
      · rintro σ L1 ⟨v12, v13, rfl, y1⟩
        have ef1' := y1 _ _ ef5
        refine ⟨_, rfl, .inl ⟨rfl, _, SqL.of ef1'⟩, f1, _, _, rfl, rfl, ef1', small1000 (by omega), ?_⟩
        exact ⟨_, _, _, _, rfl, (w05.trans y1).put nf0⟩
    · rintro σ K1 ⟨v10, v11, v12, v13, rfl, w1⟩
      exact ⟨_, rfl, _, rfl, _, rfl, _, rfl, _, rfl, p, l, u6, d, a, sz, st, tap, ds, ns, rfl, hhd.mono w1, w1 _ _ eld, w1 _ _ est, hst, w1 _ _ ed, pt_fix pd (Fix.of w1), w1.seq hSd, hz, fun H' _ => k H'⟩
end

theorem anyC {P : Program} {w : World} {K : PySem.W.Frag} {mg : Str → Option Value} {base : Heap} {k : Nat} {Z : Cz} {m : Str} {ps : List Str} {sp : Sp} (h1 : MeB P w K mg base k Z.P m ps sp) (h2 : MeB P w K mg base k Z.F m ps sp) (h3 : MeB P w K mg base k Z.E m ps sp) :
    ∀ C, anyMv Z C → MeB P w K mg base k C m ps sp := by
  rintro C (rfl | rfl | rfl)
  · exact h1
  · exact h2
  · exact h3
theorem len1 {us : List Value} (h : us.length = 1) : ∃ a0, us = [a0] := match us, h with | [a0], _ => ⟨a0, rfl⟩
theorem len2 {us : List Value} (h : us.length = 2) : ∃ a0 a1, us = [a0, a1] := match us, h with | [a0, a1], _ => ⟨a0, a1, rfl⟩
theorem len3 {us : List Value} (h : us.length = 3) : ∃ a0 a1 a2, us = [a0, a1, a2] := match us, h with | [a0, a1, a2], _ => ⟨a0, a1, a2, rfl⟩
theorem len5 {us : List Value} (h : us.length = 5) : ∃ a0 a1 a2 a3 a4, us = [a0, a1, a2, a3, a4] := match us, h with | [a0, a1, a2, a3, a4], _ => ⟨a0, a1, a2, a3, a4, rfl⟩
theorem all_mk {l : PySem.W.OpenLaw} {w : World} {K : PySem.W.Frag} {h : Heap} {mg : Str → Option Value} {fa : Addr} (X : K.In h) (G : h.Ns mainGlobals mg) (hfa : mg "law" = some (.ref fa))
    {t_MOST_JUGS : Tok}
    {t_MOST_SIZE : Tok}
    {t_MOST_STATES : Tok}
    {C_Pour : Addr}
    {C_Fill : Addr}
    {C_Empty : Addr}
    {C_House : Addr}
    {C_Move : Addr}
    {f_is_number : Addr} {oc_is_number kV_is_number dc_is_number pm_is_number cd_is_number ct_is_number : Value} {od_is_number an_is_number : Option Addr} {sl_is_number : Array (Option Value)}
    {f_is_jug : Addr} {oc_is_jug kV_is_jug dc_is_jug pm_is_jug cd_is_jug ct_is_jug : Value} {od_is_jug an_is_jug : Option Addr} {sl_is_jug : Array (Option Value)}
    {f_sizes : Addr} {oc_sizes kV_sizes dc_sizes pm_sizes cd_sizes ct_sizes : Value} {od_sizes an_sizes : Option Addr} {sl_sizes : Array (Option Value)}
    {f_held_in : Addr} {oc_held_in kV_held_in dc_held_in pm_held_in cd_held_in ct_held_in : Value} {od_held_in an_held_in : Option Addr} {sl_held_in : Array (Option Value)}
    {f_with_amount : Addr} {oc_with_amount kV_with_amount dc_with_amount pm_with_amount cd_with_amount ct_with_amount : Value} {od_with_amount an_with_amount : Option Addr} {sl_with_amount : Array (Option Value)}
    {f_check_jug : Addr} {oc_check_jug kV_check_jug dc_check_jug pm_check_jug cd_check_jug ct_check_jug : Value} {od_check_jug an_check_jug : Option Addr} {sl_check_jug : Array (Option Value)}
    {f_check_house_has : Addr} {oc_check_house_has kV_check_house_has dc_check_house_has pm_check_house_has cd_check_house_has ct_check_house_has : Value} {od_check_house_has an_check_house_has : Option Addr} {sl_check_house_has : Array (Option Value)}
    {f_check_house_can_tap : Addr} {oc_check_house_can_tap kV_check_house_can_tap dc_check_house_can_tap pm_check_house_can_tap cd_check_house_can_tap ct_check_house_can_tap : Value} {od_check_house_can_tap an_check_house_can_tap : Option Addr} {sl_check_house_can_tap : Array (Option Value)}
    {f_Pi : Addr} {oc_Pi kV_Pi dc_Pi pm_Pi cd_Pi ct_Pi : Value} {od_Pi an_Pi : Option Addr} {sl_Pi : Array (Option Value)}
    {f_Fi : Addr} {oc_Fi kV_Fi dc_Fi pm_Fi cd_Fi ct_Fi : Value} {od_Fi an_Fi : Option Addr} {sl_Fi : Array (Option Value)}
    {f_Ei : Addr} {oc_Ei kV_Ei dc_Ei pm_Ei cd_Ei ct_Ei : Value} {od_Ei an_Ei : Option Addr} {sl_Ei : Array (Option Value)}
    {f_Ph : Addr} {oc_Ph kV_Ph dc_Ph pm_Ph cd_Ph ct_Ph : Value} {od_Ph an_Ph : Option Addr} {sl_Ph : Array (Option Value)}
    {f_Fh : Addr} {oc_Fh kV_Fh dc_Fh pm_Fh cd_Fh ct_Fh : Value} {od_Fh an_Fh : Option Addr} {sl_Fh : Array (Option Value)}
    {f_Eh : Addr} {oc_Eh kV_Eh dc_Eh pm_Eh cd_Eh ct_Eh : Value} {od_Eh an_Eh : Option Addr} {sl_Eh : Array (Option Value)}
    {f_done : Addr} {oc_done kV_done dc_done pm_done cd_done ct_done : Value} {od_done an_done : Option Addr} {sl_done : Array (Option Value)}
    {f_moves_in : Addr} {oc_moves_in kV_moves_in dc_moves_in pm_moves_in cd_moves_in ct_moves_in : Value} {od_moves_in an_moves_in : Option Addr} {sl_moves_in : Array (Option Value)}
    {f_done_all : Addr} {oc_done_all kV_done_all dc_done_all pm_done_all cd_done_all ct_done_all : Value} {od_done_all an_done_all : Option Addr} {sl_done_all : Array (Option Value)}
    {f_count_states : Addr} {oc_count_states kV_count_states dc_count_states pm_count_states cd_count_states ct_count_states : Value} {od_count_states an_count_states : Option Addr} {sl_count_states : Array (Option Value)}
    {f_sizes_in : Addr} {oc_sizes_in kV_sizes_in dc_sizes_in pm_sizes_in cd_sizes_in ct_sizes_in : Value} {od_sizes_in an_sizes_in : Option Addr} {sl_sizes_in : Array (Option Value)}
    {f_Hi : Addr} {oc_Hi kV_Hi dc_Hi pm_Hi cd_Hi ct_Hi : Value} {od_Hi an_Hi : Option Addr} {sl_Hi : Array (Option Value)}
    {f_empty : Addr} {oc_empty kV_empty dc_empty pm_empty cd_empty ct_empty : Value} {od_empty an_empty : Option Addr} {sl_empty : Array (Option Value)}
    {f_pours_among : Addr} {oc_pours_among kV_pours_among dc_pours_among pm_pours_among cd_pours_among ct_pours_among : Value} {od_pours_among an_pours_among : Option Addr} {sl_pours_among : Array (Option Value)}
    {f_with_one_more : Addr} {oc_with_one_more kV_with_one_more dc_with_one_more pm_with_one_more cd_with_one_more ct_with_one_more : Value} {od_with_one_more an_with_one_more : Option Addr} {sl_with_one_more : Array (Option Value)}
    {f_states : Addr} {oc_states kV_states dc_states pm_states cd_states ct_states : Value} {od_states an_states : Option Addr} {sl_states : Array (Option Value)}
    {f_moves : Addr} {oc_moves kV_moves dc_moves pm_moves cd_moves ct_moves : Value} {od_moves an_moves : Option Addr} {sl_moves : Array (Option Value)}
    {f_move_text : Addr} {oc_move_text kV_move_text dc_move_text pm_move_text cd_move_text ct_move_text : Value} {od_move_text an_move_text : Option Addr} {sl_move_text : Array (Option Value)}
    {f_routine_text : Addr} {oc_routine_text kV_routine_text dc_routine_text pm_routine_text cd_routine_text ct_routine_text : Value} {od_routine_text an_routine_text : Option Addr} {sl_routine_text : Array (Option Value)}
    {f_cell_at : Addr} {oc_cell_at kV_cell_at dc_cell_at pm_cell_at cd_cell_at ct_cell_at : Value} {od_cell_at an_cell_at : Option Addr} {sl_cell_at : Array (Option Value)}
    {f_draw : Addr} {oc_draw kV_draw dc_draw pm_draw cd_draw ct_draw : Value} {od_draw an_draw : Option Addr} {sl_draw : Array (Option Value)}
    {f_lsizes : Addr} {oc_lsizes kV_lsizes dc_lsizes pm_lsizes cd_lsizes ct_lsizes : Value} {od_lsizes an_lsizes : Option Addr} {sl_lsizes : Array (Option Value)}
    {f_lstate : Addr} {oc_lstate kV_lstate dc_lstate pm_lstate cd_lstate ct_lstate : Value} {od_lstate an_lstate : Option Addr} {sl_lstate : Array (Option Value)}
    {f_all_moves : Addr} {oc_all_moves kV_all_moves dc_all_moves pm_all_moves cd_all_moves ct_all_moves : Value} {od_all_moves an_all_moves : Option Addr} {sl_all_moves : Array (Option Value)}
    {f_behind : Addr} {oc_behind kV_behind dc_behind pm_behind cd_behind ct_behind : Value} {od_behind an_behind : Option Addr} {sl_behind : Array (Option Value)}
    {f_told : Addr} {oc_told kV_told dc_told pm_told cd_told ct_told : Value} {od_told an_told : Option Addr} {sl_told : Array (Option Value)}
    {f_lstates : Addr} {oc_lstates kV_lstates dc_lstates pm_lstates cd_lstates ct_lstates : Value} {od_lstates an_lstates : Option Addr} {sl_lstates : Array (Option Value)}
    {f_sorts : Addr} {oc_sorts kV_sorts dc_sorts pm_sorts cd_sorts ct_sorts : Value} {od_sorts an_sorts : Option Addr} {sl_sorts : Array (Option Value)}
    {f_whole : Addr} {oc_whole kV_whole dc_whole pm_whole cd_whole ct_whole : Value} {od_whole an_whole : Option Addr} {sl_whole : Array (Option Value)}
    {f_all_right : Addr} {oc_all_right kV_all_right dc_all_right pm_all_right cd_all_right ct_all_right : Value} {od_all_right an_all_right : Option Addr} {sl_all_right : Array (Option Value)}
    {f_law : Addr} {oc_law kV_law dc_law pm_law cd_law ct_law : Value} {od_law an_law : Option Addr} {sl_law : Array (Option Value)}
    (z_isinstance : PySem.W.nsIn K mainGlobals "isinstance" = some none)
    (z_int : PySem.W.nsIn K mainGlobals "int" = some none)
    (z_bool : PySem.W.nsIn K mainGlobals "bool" = some none)
    (z_tuple : PySem.W.nsIn K mainGlobals "tuple" = some none)
    (z_list : PySem.W.nsIn K mainGlobals "list" = some none)
    (z_len : PySem.W.nsIn K mainGlobals "len" = some none)
    (z_zip : PySem.W.nsIn K mainGlobals "zip" = some none)
    (z_range : PySem.W.nsIn K mainGlobals "range" = some none)
    (z_min : PySem.W.nsIn K mainGlobals "min" = some none)
    (z_str : PySem.W.nsIn K mainGlobals "str" = some none)
    (z_any : PySem.W.nsIn K mainGlobals "any" = some none)
    (z_MOST_JUGS : PySem.W.nsIn K mainGlobals "MOST_JUGS" = some (some (.int 4 t_MOST_JUGS)))
    (z_MOST_SIZE : PySem.W.nsIn K mainGlobals "MOST_SIZE" = some (some (.int 60 t_MOST_SIZE)))
    (z_MOST_STATES : PySem.W.nsIn K mainGlobals "MOST_STATES" = some (some (.int 2000 t_MOST_STATES)))
    (a_Pour : PySem.W.nsIn K mainGlobals "Pour" = some (some (.ref C_Pour)))
    (pg_Pour : PySem.W.plainGet K C_Pour Str.empty = true)
    (hd_Pour : PySem.W.hasDictIn K C_Pour = true)
    (po_Pour : PySem.W.plainOver K C_Pour = true)
    (sa_Pour : PySem.W.findIn K (.ref C_Pour) "__setattr__" = some (some (.builtin "object.__setattr__")))
    (mk_Pour : PySem.W.makesIn K C_Pour = true)
    (kc_Pour : PySem.W.keepIn K (.ref C_Pour) = true)
    (n_Pour_one : PySem.W.findIn K (.ref C_Pour) "one" = some none)
    (n_Pour_other : PySem.W.findIn K (.ref C_Pour) "other" = some none)
    (ha_Pour : PySem.W.findIn K (.ref C_Pour) "__class__" = some (some (.builtin "object.__class__")))
    (hm_Pour : PySem.W.mroIn K C_Pour (.type "object") = some true)
    (a_Fill : PySem.W.nsIn K mainGlobals "Fill" = some (some (.ref C_Fill)))
    (pg_Fill : PySem.W.plainGet K C_Fill Str.empty = true)
    (hd_Fill : PySem.W.hasDictIn K C_Fill = true)
    (po_Fill : PySem.W.plainOver K C_Fill = true)
    (sa_Fill : PySem.W.findIn K (.ref C_Fill) "__setattr__" = some (some (.builtin "object.__setattr__")))
    (mk_Fill : PySem.W.makesIn K C_Fill = true)
    (kc_Fill : PySem.W.keepIn K (.ref C_Fill) = true)
    (n_Fill_jug : PySem.W.findIn K (.ref C_Fill) "jug" = some none)
    (ha_Fill : PySem.W.findIn K (.ref C_Fill) "__class__" = some (some (.builtin "object.__class__")))
    (hm_Fill : PySem.W.mroIn K C_Fill (.type "object") = some true)
    (a_Empty : PySem.W.nsIn K mainGlobals "Empty" = some (some (.ref C_Empty)))
    (pg_Empty : PySem.W.plainGet K C_Empty Str.empty = true)
    (hd_Empty : PySem.W.hasDictIn K C_Empty = true)
    (po_Empty : PySem.W.plainOver K C_Empty = true)
    (sa_Empty : PySem.W.findIn K (.ref C_Empty) "__setattr__" = some (some (.builtin "object.__setattr__")))
    (mk_Empty : PySem.W.makesIn K C_Empty = true)
    (kc_Empty : PySem.W.keepIn K (.ref C_Empty) = true)
    (n_Empty_jug : PySem.W.findIn K (.ref C_Empty) "jug" = some none)
    (ha_Empty : PySem.W.findIn K (.ref C_Empty) "__class__" = some (some (.builtin "object.__class__")))
    (hm_Empty : PySem.W.mroIn K C_Empty (.type "object") = some true)
    (a_House : PySem.W.nsIn K mainGlobals "House" = some (some (.ref C_House)))
    (pg_House : PySem.W.plainGet K C_House Str.empty = true)
    (hd_House : PySem.W.hasDictIn K C_House = true)
    (po_House : PySem.W.plainOver K C_House = true)
    (sa_House : PySem.W.findIn K (.ref C_House) "__setattr__" = some (some (.builtin "object.__setattr__")))
    (mk_House : PySem.W.makesIn K C_House = true)
    (kc_House : PySem.W.keepIn K (.ref C_House) = true)
    (n_House_jug_sizes : PySem.W.findIn K (.ref C_House) "jug_sizes" = some none)
    (n_House_tap : PySem.W.findIn K (.ref C_House) "tap" = some none)
    (a_Move : PySem.W.nsIn K mainGlobals "Move" = some (some (.ref C_Move)))
    (pg_Move : PySem.W.plainGet K C_Move Str.empty = true)
    (hd_Move : PySem.W.hasDictIn K C_Move = true)
    (po_Move : PySem.W.plainOver K C_Move = true)
    (sa_Move : PySem.W.findIn K (.ref C_Move) "__setattr__" = some (some (.builtin "object.__setattr__")))
    (hn : PySem.W.specialIn K (.builtin "object.__class__") "__get__" = some (some (.builtin "getset_descriptor.__get__")))
    (htk : PySem.W.takesIn K (.builtin "object.__class__") = some true)
    (k_Fill_Pour : PySem.W.kitOne K (.ref C_Fill) (.ref C_Pour) = some false)
    (k_Empty_Pour : PySem.W.kitOne K (.ref C_Empty) (.ref C_Pour) = some false)
    (k_Empty_Fill : PySem.W.kitOne K (.ref C_Empty) (.ref C_Fill) = some false)
    (k_Pour_Fill : PySem.W.kitOne K (.ref C_Pour) (.ref C_Fill) = some false)
    (k_Pour_Empty : PySem.W.kitOne K (.ref C_Pour) (.ref C_Empty) = some false)
    (k_Fill_Empty : PySem.W.kitOne K (.ref C_Fill) (.ref C_Empty) = some false)
    (k_Pour_Move : PySem.W.kitOne K (.ref C_Pour) (.ref C_Move) = some true)
    (k_Fill_Move : PySem.W.kitOne K (.ref C_Fill) (.ref C_Move) = some true)
    (k_Empty_Move : PySem.W.kitOne K (.ref C_Empty) (.ref C_Move) = some true)
    (a_is_number : PySem.W.nsIn K mainGlobals "is_number" = some (some (.ref f_is_number)))
    (l_is_number : K.lookup f_is_number = some ⟨oc_is_number, od_is_number, .func (PySem.W.fnOf "is_number" "is_number" (defArgs s_is_number) (defBody s_is_number) (defScope s_is_number) .none kV_is_number dc_is_number pm_is_number an_is_number cd_is_number ct_is_number), sl_is_number⟩)
    (c_is_number : PySem.W.codeIn K cd_is_number "is_number" = true)
    (kp_is_number : PySem.W.keepIn K (.ref f_is_number) = true)
    (a_is_jug : PySem.W.nsIn K mainGlobals "is_jug" = some (some (.ref f_is_jug)))
    (l_is_jug : K.lookup f_is_jug = some ⟨oc_is_jug, od_is_jug, .func (PySem.W.fnOf "is_jug" "is_jug" (defArgs s_is_jug) (defBody s_is_jug) (defScope s_is_jug) .none kV_is_jug dc_is_jug pm_is_jug an_is_jug cd_is_jug ct_is_jug), sl_is_jug⟩)
    (c_is_jug : PySem.W.codeIn K cd_is_jug "is_jug" = true)
    (kp_is_jug : PySem.W.keepIn K (.ref f_is_jug) = true)
    (a_sizes_House : PySem.W.findIn K (.ref C_House) "sizes" = some (some (.ref f_sizes)))
    (i_sizes : PySem.W.isFn K (.ref f_sizes) = true)
    (l_sizes : K.lookup f_sizes = some ⟨oc_sizes, od_sizes, .func (PySem.W.fnOf "sizes" "House.sizes" (defArgs s_House_sizes) (defBody s_House_sizes) (defScope s_House_sizes) .none kV_sizes dc_sizes pm_sizes an_sizes cd_sizes ct_sizes), sl_sizes⟩)
    (c_sizes : PySem.W.codeIn K cd_sizes "House.sizes" = true)
    (kp_sizes : PySem.W.keepIn K (.ref f_sizes) = true)
    (a_held_in : PySem.W.nsIn K mainGlobals "held_in" = some (some (.ref f_held_in)))
    (l_held_in : K.lookup f_held_in = some ⟨oc_held_in, od_held_in, .func (PySem.W.fnOf "held_in" "held_in" (defArgs s_held_in) (defBody s_held_in) (defScope s_held_in) .none kV_held_in dc_held_in pm_held_in an_held_in cd_held_in ct_held_in), sl_held_in⟩)
    (c_held_in : PySem.W.codeIn K cd_held_in "held_in" = true)
    (kp_held_in : PySem.W.keepIn K (.ref f_held_in) = true)
    (a_with_amount : PySem.W.nsIn K mainGlobals "with_amount" = some (some (.ref f_with_amount)))
    (l_with_amount : K.lookup f_with_amount = some ⟨oc_with_amount, od_with_amount, .func (PySem.W.fnOf "with_amount" "with_amount" (defArgs s_with_amount) (defBody s_with_amount) (defScope s_with_amount) .none kV_with_amount dc_with_amount pm_with_amount an_with_amount cd_with_amount ct_with_amount), sl_with_amount⟩)
    (c_with_amount : PySem.W.codeIn K cd_with_amount "with_amount" = true)
    (kp_with_amount : PySem.W.keepIn K (.ref f_with_amount) = true)
    (a_check_jug : PySem.W.nsIn K mainGlobals "check_jug" = some (some (.ref f_check_jug)))
    (l_check_jug : K.lookup f_check_jug = some ⟨oc_check_jug, od_check_jug, .func (PySem.W.fnOf "check_jug" "check_jug" (defArgs s_check_jug) (defBody s_check_jug) (defScope s_check_jug) .none kV_check_jug dc_check_jug pm_check_jug an_check_jug cd_check_jug ct_check_jug), sl_check_jug⟩)
    (c_check_jug : PySem.W.codeIn K cd_check_jug "check_jug" = true)
    (kp_check_jug : PySem.W.keepIn K (.ref f_check_jug) = true)
    (a_check_house_has : PySem.W.nsIn K mainGlobals "check_house_has" = some (some (.ref f_check_house_has)))
    (l_check_house_has : K.lookup f_check_house_has = some ⟨oc_check_house_has, od_check_house_has, .func (PySem.W.fnOf "check_house_has" "check_house_has" (defArgs s_check_house_has) (defBody s_check_house_has) (defScope s_check_house_has) .none kV_check_house_has dc_check_house_has pm_check_house_has an_check_house_has cd_check_house_has ct_check_house_has), sl_check_house_has⟩)
    (c_check_house_has : PySem.W.codeIn K cd_check_house_has "check_house_has" = true)
    (kp_check_house_has : PySem.W.keepIn K (.ref f_check_house_has) = true)
    (a_check_house_can_tap : PySem.W.nsIn K mainGlobals "check_house_can_tap" = some (some (.ref f_check_house_can_tap)))
    (l_check_house_can_tap : K.lookup f_check_house_can_tap = some ⟨oc_check_house_can_tap, od_check_house_can_tap, .func (PySem.W.fnOf "check_house_can_tap" "check_house_can_tap" (defArgs s_check_house_can_tap) (defBody s_check_house_can_tap) (defScope s_check_house_can_tap) .none kV_check_house_can_tap dc_check_house_can_tap pm_check_house_can_tap an_check_house_can_tap cd_check_house_can_tap ct_check_house_can_tap), sl_check_house_can_tap⟩)
    (c_check_house_can_tap : PySem.W.codeIn K cd_check_house_can_tap "check_house_can_tap" = true)
    (kp_check_house_can_tap : PySem.W.keepIn K (.ref f_check_house_can_tap) = true)
    (a_Pi_Pour : PySem.W.findIn K (.ref C_Pour) "__init__" = some (some (.ref f_Pi)))
    (i_Pi : PySem.W.isFn K (.ref f_Pi) = true)
    (l_Pi : K.lookup f_Pi = some ⟨oc_Pi, od_Pi, .func (PySem.W.fnOf "__init__" "Pour.__init__" (defArgs s_Pour_init) (defBody s_Pour_init) (defScope s_Pour_init) .none kV_Pi dc_Pi pm_Pi an_Pi cd_Pi ct_Pi), sl_Pi⟩)
    (c_Pi : PySem.W.codeIn K cd_Pi "Pour.__init__" = true)
    (kp_Pi : PySem.W.keepIn K (.ref f_Pi) = true)
    (a_Fi_Fill : PySem.W.findIn K (.ref C_Fill) "__init__" = some (some (.ref f_Fi)))
    (i_Fi : PySem.W.isFn K (.ref f_Fi) = true)
    (l_Fi : K.lookup f_Fi = some ⟨oc_Fi, od_Fi, .func (PySem.W.fnOf "__init__" "Fill.__init__" (defArgs s_Fill_init) (defBody s_Fill_init) (defScope s_Fill_init) .none kV_Fi dc_Fi pm_Fi an_Fi cd_Fi ct_Fi), sl_Fi⟩)
    (c_Fi : PySem.W.codeIn K cd_Fi "Fill.__init__" = true)
    (kp_Fi : PySem.W.keepIn K (.ref f_Fi) = true)
    (a_Ei_Empty : PySem.W.findIn K (.ref C_Empty) "__init__" = some (some (.ref f_Ei)))
    (i_Ei : PySem.W.isFn K (.ref f_Ei) = true)
    (l_Ei : K.lookup f_Ei = some ⟨oc_Ei, od_Ei, .func (PySem.W.fnOf "__init__" "Empty.__init__" (defArgs s_Empty_init) (defBody s_Empty_init) (defScope s_Empty_init) .none kV_Ei dc_Ei pm_Ei an_Ei cd_Ei ct_Ei), sl_Ei⟩)
    (c_Ei : PySem.W.codeIn K cd_Ei "Empty.__init__" = true)
    (kp_Ei : PySem.W.keepIn K (.ref f_Ei) = true)
    (a_Ph_Pour : PySem.W.findIn K (.ref C_Pour) "held_behind" = some (some (.ref f_Ph)))
    (i_Ph : PySem.W.isFn K (.ref f_Ph) = true)
    (l_Ph : K.lookup f_Ph = some ⟨oc_Ph, od_Ph, .func (PySem.W.fnOf "held_behind" "Pour.held_behind" (defArgs s_Pour_held_behind) (defBody s_Pour_held_behind) (defScope s_Pour_held_behind) .none kV_Ph dc_Ph pm_Ph an_Ph cd_Ph ct_Ph), sl_Ph⟩)
    (c_Ph : PySem.W.codeIn K cd_Ph "Pour.held_behind" = true)
    (kp_Ph : PySem.W.keepIn K (.ref f_Ph) = true)
    (a_Fh_Fill : PySem.W.findIn K (.ref C_Fill) "held_behind" = some (some (.ref f_Fh)))
    (i_Fh : PySem.W.isFn K (.ref f_Fh) = true)
    (l_Fh : K.lookup f_Fh = some ⟨oc_Fh, od_Fh, .func (PySem.W.fnOf "held_behind" "Fill.held_behind" (defArgs s_Fill_held_behind) (defBody s_Fill_held_behind) (defScope s_Fill_held_behind) .none kV_Fh dc_Fh pm_Fh an_Fh cd_Fh ct_Fh), sl_Fh⟩)
    (c_Fh : PySem.W.codeIn K cd_Fh "Fill.held_behind" = true)
    (kp_Fh : PySem.W.keepIn K (.ref f_Fh) = true)
    (a_Eh_Empty : PySem.W.findIn K (.ref C_Empty) "held_behind" = some (some (.ref f_Eh)))
    (i_Eh : PySem.W.isFn K (.ref f_Eh) = true)
    (l_Eh : K.lookup f_Eh = some ⟨oc_Eh, od_Eh, .func (PySem.W.fnOf "held_behind" "Empty.held_behind" (defArgs s_Empty_held_behind) (defBody s_Empty_held_behind) (defScope s_Empty_held_behind) .none kV_Eh dc_Eh pm_Eh an_Eh cd_Eh ct_Eh), sl_Eh⟩)
    (c_Eh : PySem.W.codeIn K cd_Eh "Empty.held_behind" = true)
    (kp_Eh : PySem.W.keepIn K (.ref f_Eh) = true)
    (a_done_Pour : PySem.W.findIn K (.ref C_Pour) "done" = some (some (.ref f_done)))
    (a_done_Fill : PySem.W.findIn K (.ref C_Fill) "done" = some (some (.ref f_done)))
    (a_done_Empty : PySem.W.findIn K (.ref C_Empty) "done" = some (some (.ref f_done)))
    (i_done : PySem.W.isFn K (.ref f_done) = true)
    (l_done : K.lookup f_done = some ⟨oc_done, od_done, .func (PySem.W.fnOf "done" "Move.done" (defArgs s_Move_done) (defBody s_Move_done) (defScope s_Move_done) .none kV_done dc_done pm_done an_done cd_done ct_done), sl_done⟩)
    (c_done : PySem.W.codeIn K cd_done "Move.done" = true)
    (kp_done : PySem.W.keepIn K (.ref f_done) = true)
    (a_moves_in : PySem.W.nsIn K mainGlobals "moves_in" = some (some (.ref f_moves_in)))
    (l_moves_in : K.lookup f_moves_in = some ⟨oc_moves_in, od_moves_in, .func (PySem.W.fnOf "moves_in" "moves_in" (defArgs s_moves_in) (defBody s_moves_in) (defScope s_moves_in) .none kV_moves_in dc_moves_in pm_moves_in an_moves_in cd_moves_in ct_moves_in), sl_moves_in⟩)
    (c_moves_in : PySem.W.codeIn K cd_moves_in "moves_in" = true)
    (kp_moves_in : PySem.W.keepIn K (.ref f_moves_in) = true)
    (a_done_all : PySem.W.nsIn K mainGlobals "done_all" = some (some (.ref f_done_all)))
    (l_done_all : K.lookup f_done_all = some ⟨oc_done_all, od_done_all, .func (PySem.W.fnOf "done_all" "done_all" (defArgs s_done_all) (defBody s_done_all) (defScope s_done_all) .none kV_done_all dc_done_all pm_done_all an_done_all cd_done_all ct_done_all), sl_done_all⟩)
    (c_done_all : PySem.W.codeIn K cd_done_all "done_all" = true)
    (kp_done_all : PySem.W.keepIn K (.ref f_done_all) = true)
    (a_count_states : PySem.W.nsIn K mainGlobals "count_states" = some (some (.ref f_count_states)))
    (l_count_states : K.lookup f_count_states = some ⟨oc_count_states, od_count_states, .func (PySem.W.fnOf "count_states" "count_states" (defArgs s_count_states) (defBody s_count_states) (defScope s_count_states) .none kV_count_states dc_count_states pm_count_states an_count_states cd_count_states ct_count_states), sl_count_states⟩)
    (c_count_states : PySem.W.codeIn K cd_count_states "count_states" = true)
    (kp_count_states : PySem.W.keepIn K (.ref f_count_states) = true)
    (a_sizes_in : PySem.W.nsIn K mainGlobals "sizes_in" = some (some (.ref f_sizes_in)))
    (l_sizes_in : K.lookup f_sizes_in = some ⟨oc_sizes_in, od_sizes_in, .func (PySem.W.fnOf "sizes_in" "sizes_in" (defArgs s_sizes_in) (defBody s_sizes_in) (defScope s_sizes_in) .none kV_sizes_in dc_sizes_in pm_sizes_in an_sizes_in cd_sizes_in ct_sizes_in), sl_sizes_in⟩)
    (c_sizes_in : PySem.W.codeIn K cd_sizes_in "sizes_in" = true)
    (kp_sizes_in : PySem.W.keepIn K (.ref f_sizes_in) = true)
    (a_Hi_House : PySem.W.findIn K (.ref C_House) "__init__" = some (some (.ref f_Hi)))
    (i_Hi : PySem.W.isFn K (.ref f_Hi) = true)
    (l_Hi : K.lookup f_Hi = some ⟨oc_Hi, od_Hi, .func (PySem.W.fnOf "__init__" "House.__init__" (defArgs s_House_init) (defBody s_House_init) (defScope s_House_init) .none kV_Hi dc_Hi pm_Hi an_Hi cd_Hi ct_Hi), sl_Hi⟩)
    (c_Hi : PySem.W.codeIn K cd_Hi "House.__init__" = true)
    (kp_Hi : PySem.W.keepIn K (.ref f_Hi) = true)
    (a_empty_House : PySem.W.findIn K (.ref C_House) "empty" = some (some (.ref f_empty)))
    (i_empty : PySem.W.isFn K (.ref f_empty) = true)
    (l_empty : K.lookup f_empty = some ⟨oc_empty, od_empty, .func (PySem.W.fnOf "empty" "House.empty" (defArgs s_House_empty) (defBody s_House_empty) (defScope s_House_empty) .none kV_empty dc_empty pm_empty an_empty cd_empty ct_empty), sl_empty⟩)
    (c_empty : PySem.W.codeIn K cd_empty "House.empty" = true)
    (kp_empty : PySem.W.keepIn K (.ref f_empty) = true)
    (a_pours_among : PySem.W.nsIn K mainGlobals "pours_among" = some (some (.ref f_pours_among)))
    (l_pours_among : K.lookup f_pours_among = some ⟨oc_pours_among, od_pours_among, .func (PySem.W.fnOf "pours_among" "pours_among" (defArgs s_pours_among) (defBody s_pours_among) (defScope s_pours_among) .none kV_pours_among dc_pours_among pm_pours_among an_pours_among cd_pours_among ct_pours_among), sl_pours_among⟩)
    (c_pours_among : PySem.W.codeIn K cd_pours_among "pours_among" = true)
    (kp_pours_among : PySem.W.keepIn K (.ref f_pours_among) = true)
    (a_with_one_more : PySem.W.nsIn K mainGlobals "with_one_more" = some (some (.ref f_with_one_more)))
    (l_with_one_more : K.lookup f_with_one_more = some ⟨oc_with_one_more, od_with_one_more, .func (PySem.W.fnOf "with_one_more" "with_one_more" (defArgs s_with_one_more) (defBody s_with_one_more) (defScope s_with_one_more) .none kV_with_one_more dc_with_one_more pm_with_one_more an_with_one_more cd_with_one_more ct_with_one_more), sl_with_one_more⟩)
    (c_with_one_more : PySem.W.codeIn K cd_with_one_more "with_one_more" = true)
    (kp_with_one_more : PySem.W.keepIn K (.ref f_with_one_more) = true)
    (a_states_House : PySem.W.findIn K (.ref C_House) "states" = some (some (.ref f_states)))
    (i_states : PySem.W.isFn K (.ref f_states) = true)
    (l_states : K.lookup f_states = some ⟨oc_states, od_states, .func (PySem.W.fnOf "states" "House.states" (defArgs s_House_states) (defBody s_House_states) (defScope s_House_states) .none kV_states dc_states pm_states an_states cd_states ct_states), sl_states⟩)
    (c_states : PySem.W.codeIn K cd_states "House.states" = true)
    (kp_states : PySem.W.keepIn K (.ref f_states) = true)
    (a_moves_House : PySem.W.findIn K (.ref C_House) "moves" = some (some (.ref f_moves)))
    (i_moves : PySem.W.isFn K (.ref f_moves) = true)
    (l_moves : K.lookup f_moves = some ⟨oc_moves, od_moves, .func (PySem.W.fnOf "moves" "House.moves" (defArgs s_House_moves) (defBody s_House_moves) (defScope s_House_moves) .none kV_moves dc_moves pm_moves an_moves cd_moves ct_moves), sl_moves⟩)
    (c_moves : PySem.W.codeIn K cd_moves "House.moves" = true)
    (kp_moves : PySem.W.keepIn K (.ref f_moves) = true)
    (a_move_text : PySem.W.nsIn K mainGlobals "move_text" = some (some (.ref f_move_text)))
    (l_move_text : K.lookup f_move_text = some ⟨oc_move_text, od_move_text, .func (PySem.W.fnOf "move_text" "move_text" (defArgs s_move_text) (defBody s_move_text) (defScope s_move_text) .none kV_move_text dc_move_text pm_move_text an_move_text cd_move_text ct_move_text), sl_move_text⟩)
    (c_move_text : PySem.W.codeIn K cd_move_text "move_text" = true)
    (kp_move_text : PySem.W.keepIn K (.ref f_move_text) = true)
    (a_routine_text : PySem.W.nsIn K mainGlobals "routine_text" = some (some (.ref f_routine_text)))
    (l_routine_text : K.lookup f_routine_text = some ⟨oc_routine_text, od_routine_text, .func (PySem.W.fnOf "routine_text" "routine_text" (defArgs s_routine_text) (defBody s_routine_text) (defScope s_routine_text) .none kV_routine_text dc_routine_text pm_routine_text an_routine_text cd_routine_text ct_routine_text), sl_routine_text⟩)
    (c_routine_text : PySem.W.codeIn K cd_routine_text "routine_text" = true)
    (kp_routine_text : PySem.W.keepIn K (.ref f_routine_text) = true)
    (a_cell_at : PySem.W.nsIn K mainGlobals "_law_cell_at" = some (some (.ref f_cell_at)))
    (l_cell_at : K.lookup f_cell_at = some ⟨oc_cell_at, od_cell_at, .func (PySem.W.fnOf "_law_cell_at" "_law_cell_at" (defArgs s__law_cell_at) (defBody s__law_cell_at) (defScope s__law_cell_at) .none kV_cell_at dc_cell_at pm_cell_at an_cell_at cd_cell_at ct_cell_at), sl_cell_at⟩)
    (c_cell_at : PySem.W.codeIn K cd_cell_at "_law_cell_at" = true)
    (kp_cell_at : PySem.W.keepIn K (.ref f_cell_at) = true)
    (a_draw : PySem.W.nsIn K mainGlobals "_law_draw" = some (some (.ref f_draw)))
    (l_draw : K.lookup f_draw = some ⟨oc_draw, od_draw, .func (PySem.W.fnOf "_law_draw" "_law_draw" (defArgs s__law_draw) (defBody s__law_draw) (defScope s__law_draw) .none kV_draw dc_draw pm_draw an_draw cd_draw ct_draw), sl_draw⟩)
    (c_draw : PySem.W.codeIn K cd_draw "_law_draw" = true)
    (kp_draw : PySem.W.keepIn K (.ref f_draw) = true)
    (a_lsizes : PySem.W.nsIn K mainGlobals "_law_sizes" = some (some (.ref f_lsizes)))
    (l_lsizes : K.lookup f_lsizes = some ⟨oc_lsizes, od_lsizes, .func (PySem.W.fnOf "_law_sizes" "_law_sizes" (defArgs s__law_sizes) (defBody s__law_sizes) (defScope s__law_sizes) .none kV_lsizes dc_lsizes pm_lsizes an_lsizes cd_lsizes ct_lsizes), sl_lsizes⟩)
    (c_lsizes : PySem.W.codeIn K cd_lsizes "_law_sizes" = true)
    (kp_lsizes : PySem.W.keepIn K (.ref f_lsizes) = true)
    (a_lstate : PySem.W.nsIn K mainGlobals "_law_state" = some (some (.ref f_lstate)))
    (l_lstate : K.lookup f_lstate = some ⟨oc_lstate, od_lstate, .func (PySem.W.fnOf "_law_state" "_law_state" (defArgs s__law_state) (defBody s__law_state) (defScope s__law_state) .none kV_lstate dc_lstate pm_lstate an_lstate cd_lstate ct_lstate), sl_lstate⟩)
    (c_lstate : PySem.W.codeIn K cd_lstate "_law_state" = true)
    (kp_lstate : PySem.W.keepIn K (.ref f_lstate) = true)
    (a_all_moves : PySem.W.nsIn K mainGlobals "_law_all_moves" = some (some (.ref f_all_moves)))
    (l_all_moves : K.lookup f_all_moves = some ⟨oc_all_moves, od_all_moves, .func (PySem.W.fnOf "_law_all_moves" "_law_all_moves" (defArgs s__law_all_moves) (defBody s__law_all_moves) (defScope s__law_all_moves) .none kV_all_moves dc_all_moves pm_all_moves an_all_moves cd_all_moves ct_all_moves), sl_all_moves⟩)
    (c_all_moves : PySem.W.codeIn K cd_all_moves "_law_all_moves" = true)
    (kp_all_moves : PySem.W.keepIn K (.ref f_all_moves) = true)
    (a_behind : PySem.W.nsIn K mainGlobals "_law_behind" = some (some (.ref f_behind)))
    (l_behind : K.lookup f_behind = some ⟨oc_behind, od_behind, .func (PySem.W.fnOf "_law_behind" "_law_behind" (defArgs s__law_behind) (defBody s__law_behind) (defScope s__law_behind) .none kV_behind dc_behind pm_behind an_behind cd_behind ct_behind), sl_behind⟩)
    (c_behind : PySem.W.codeIn K cd_behind "_law_behind" = true)
    (kp_behind : PySem.W.keepIn K (.ref f_behind) = true)
    (a_told : PySem.W.nsIn K mainGlobals "_law_told" = some (some (.ref f_told)))
    (l_told : K.lookup f_told = some ⟨oc_told, od_told, .func (PySem.W.fnOf "_law_told" "_law_told" (defArgs s__law_told) (defBody s__law_told) (defScope s__law_told) .none kV_told dc_told pm_told an_told cd_told ct_told), sl_told⟩)
    (c_told : PySem.W.codeIn K cd_told "_law_told" = true)
    (kp_told : PySem.W.keepIn K (.ref f_told) = true)
    (a_lstates : PySem.W.nsIn K mainGlobals "_law_states" = some (some (.ref f_lstates)))
    (l_lstates : K.lookup f_lstates = some ⟨oc_lstates, od_lstates, .func (PySem.W.fnOf "_law_states" "_law_states" (defArgs s__law_states) (defBody s__law_states) (defScope s__law_states) .none kV_lstates dc_lstates pm_lstates an_lstates cd_lstates ct_lstates), sl_lstates⟩)
    (c_lstates : PySem.W.codeIn K cd_lstates "_law_states" = true)
    (kp_lstates : PySem.W.keepIn K (.ref f_lstates) = true)
    (a_sorts : PySem.W.nsIn K mainGlobals "_law_sorts" = some (some (.ref f_sorts)))
    (l_sorts : K.lookup f_sorts = some ⟨oc_sorts, od_sorts, .func (PySem.W.fnOf "_law_sorts" "_law_sorts" (defArgs s__law_sorts) (defBody s__law_sorts) (defScope s__law_sorts) .none kV_sorts dc_sorts pm_sorts an_sorts cd_sorts ct_sorts), sl_sorts⟩)
    (c_sorts : PySem.W.codeIn K cd_sorts "_law_sorts" = true)
    (kp_sorts : PySem.W.keepIn K (.ref f_sorts) = true)
    (a_whole : PySem.W.nsIn K mainGlobals "_law_whole" = some (some (.ref f_whole)))
    (l_whole : K.lookup f_whole = some ⟨oc_whole, od_whole, .func (PySem.W.fnOf "_law_whole" "_law_whole" (defArgs s__law_whole) (defBody s__law_whole) (defScope s__law_whole) .none kV_whole dc_whole pm_whole an_whole cd_whole ct_whole), sl_whole⟩)
    (c_whole : PySem.W.codeIn K cd_whole "_law_whole" = true)
    (kp_whole : PySem.W.keepIn K (.ref f_whole) = true)
    (a_all_right : PySem.W.nsIn K mainGlobals "_law_all_right" = some (some (.ref f_all_right)))
    (l_all_right : K.lookup f_all_right = some ⟨oc_all_right, od_all_right, .func (PySem.W.fnOf "_law_all_right" "_law_all_right" (defArgs s__law_all_right) (defBody s__law_all_right) (defScope s__law_all_right) .none kV_all_right dc_all_right pm_all_right an_all_right cd_all_right ct_all_right), sl_all_right⟩)
    (c_all_right : PySem.W.codeIn K cd_all_right "_law_all_right" = true)
    (kp_all_right : PySem.W.keepIn K (.ref f_all_right) = true)
    (a_law : PySem.W.nsIn K mainGlobals "law" = some (some (.ref f_law)))
    (l_law : K.lookup f_law = some ⟨oc_law, od_law, .func (PySem.W.fnOf "law" "law" (defArgs s_law) (defBody s_law) (defScope s_law) .none kV_law dc_law pm_law an_law cd_law ct_law), sl_law⟩)
    (c_law : PySem.W.codeIn K cd_law "law" = true)
    (kp_law : PySem.W.keepIn K (.ref f_law) = true)
    : ∃ fd : FuncData, (∀ (s : Shared) (v : Value), BindsTo s fd ⟨[v], []⟩ [("_law_script", v)]) ∧ ∀ base : Heap, K.In base → base.Ns mainGlobals mg → FnOk l.prog w K mg base CX0 9 fa fd ["_law_script"] (spLaw K) := by
  have e := hfa.symm.trans (PySem.W.mg_of X G a_law)
  cases e
  have F_is_number := fun_mk (st := s_is_number) l_is_number c_is_number kp_is_number
  have b_is_number := F_is_number.binds (ps := ["value", "least", "most"]) fun _ _ _ _ _ _ us hl => by obtain ⟨_, _, _, rfl⟩ := len3 hl; rfl
  have F_is_jug := fun_mk (st := s_is_jug) l_is_jug c_is_jug kp_is_jug
  have b_is_jug := F_is_jug.binds (ps := ["value"]) fun _ _ _ _ _ _ us hl => by obtain ⟨_, rfl⟩ := len1 hl; rfl
  have F_sizes := fun_mk (st := s_House_sizes) l_sizes c_sizes kp_sizes
  have b_sizes := F_sizes.binds (ps := ["self"]) fun _ _ _ _ _ _ us hl => by obtain ⟨_, rfl⟩ := len1 hl; rfl
  have F_held_in := fun_mk (st := s_held_in) l_held_in c_held_in kp_held_in
  have b_held_in := F_held_in.binds (ps := ["house", "state"]) fun _ _ _ _ _ _ us hl => by obtain ⟨_, _, rfl⟩ := len2 hl; rfl
  have F_with_amount := fun_mk (st := s_with_amount) l_with_amount c_with_amount kp_with_amount
  have b_with_amount := F_with_amount.binds (ps := ["held", "jug", "many"]) fun _ _ _ _ _ _ us hl => by obtain ⟨_, _, _, rfl⟩ := len3 hl; rfl
  have F_check_jug := fun_mk (st := s_check_jug) l_check_jug c_check_jug kp_check_jug
  have b_check_jug := F_check_jug.binds (ps := ["jug"]) fun _ _ _ _ _ _ us hl => by obtain ⟨_, rfl⟩ := len1 hl; rfl
  have F_check_house_has := fun_mk (st := s_check_house_has) l_check_house_has c_check_house_has kp_check_house_has
  have b_check_house_has := F_check_house_has.binds (ps := ["house", "jug"]) fun _ _ _ _ _ _ us hl => by obtain ⟨_, _, rfl⟩ := len2 hl; rfl
  have F_check_house_can_tap := fun_mk (st := s_check_house_can_tap) l_check_house_can_tap c_check_house_can_tap kp_check_house_can_tap
  have b_check_house_can_tap := F_check_house_can_tap.binds (ps := ["house", "jug"]) fun _ _ _ _ _ _ us hl => by obtain ⟨_, _, rfl⟩ := len2 hl; rfl
  have F_Pi := fun_mk (st := s_Pour_init) l_Pi c_Pi kp_Pi
  have b_Pi := F_Pi.binds (ps := ["self", "one", "other"]) fun _ _ _ _ _ _ us hl => by obtain ⟨_, _, _, rfl⟩ := len3 hl; rfl
  have F_Fi := fun_mk (st := s_Fill_init) l_Fi c_Fi kp_Fi
  have b_Fi := F_Fi.binds (ps := ["self", "jug"]) fun _ _ _ _ _ _ us hl => by obtain ⟨_, _, rfl⟩ := len2 hl; rfl
  have F_Ei := fun_mk (st := s_Empty_init) l_Ei c_Ei kp_Ei
  have b_Ei := F_Ei.binds (ps := ["self", "jug"]) fun _ _ _ _ _ _ us hl => by obtain ⟨_, _, rfl⟩ := len2 hl; rfl
  have F_Ph := fun_mk (st := s_Pour_held_behind) l_Ph c_Ph kp_Ph
  have b_Ph := F_Ph.binds (ps := ["self", "house", "held"]) fun _ _ _ _ _ _ us hl => by obtain ⟨_, _, _, rfl⟩ := len3 hl; rfl
  have F_Fh := fun_mk (st := s_Fill_held_behind) l_Fh c_Fh kp_Fh
  have b_Fh := F_Fh.binds (ps := ["self", "house", "held"]) fun _ _ _ _ _ _ us hl => by obtain ⟨_, _, _, rfl⟩ := len3 hl; rfl
  have F_Eh := fun_mk (st := s_Empty_held_behind) l_Eh c_Eh kp_Eh
  have b_Eh := F_Eh.binds (ps := ["self", "house", "held"]) fun _ _ _ _ _ _ us hl => by obtain ⟨_, _, _, rfl⟩ := len3 hl; rfl
  have F_done := fun_mk (st := s_Move_done) l_done c_done kp_done
  have b_done := F_done.binds (ps := ["self", "house", "state"]) fun _ _ _ _ _ _ us hl => by obtain ⟨_, _, _, rfl⟩ := len3 hl; rfl
  have F_moves_in := fun_mk (st := s_moves_in) l_moves_in c_moves_in kp_moves_in
  have b_moves_in := F_moves_in.binds (ps := ["moves"]) fun _ _ _ _ _ _ us hl => by obtain ⟨_, rfl⟩ := len1 hl; rfl
  have F_done_all := fun_mk (st := s_done_all) l_done_all c_done_all kp_done_all
  have b_done_all := F_done_all.binds (ps := ["moves", "house", "state"]) fun _ _ _ _ _ _ us hl => by obtain ⟨_, _, _, rfl⟩ := len3 hl; rfl
  have F_count_states := fun_mk (st := s_count_states) l_count_states c_count_states kp_count_states
  have b_count_states := F_count_states.binds (ps := ["sizes"]) fun _ _ _ _ _ _ us hl => by obtain ⟨_, rfl⟩ := len1 hl; rfl
  have F_sizes_in := fun_mk (st := s_sizes_in) l_sizes_in c_sizes_in kp_sizes_in
  have b_sizes_in := F_sizes_in.binds (ps := ["sizes"]) fun _ _ _ _ _ _ us hl => by obtain ⟨_, rfl⟩ := len1 hl; rfl
  have F_Hi := fun_mk (st := s_House_init) l_Hi c_Hi kp_Hi
  have b_Hi := F_Hi.binds (ps := ["self", "sizes", "tap"]) fun _ _ _ _ _ _ us hl => by obtain ⟨_, _, _, rfl⟩ := len3 hl; rfl
  have F_empty := fun_mk (st := s_House_empty) l_empty c_empty kp_empty
  have b_empty := F_empty.binds (ps := ["self"]) fun _ _ _ _ _ _ us hl => by obtain ⟨_, rfl⟩ := len1 hl; rfl
  have F_pours_among := fun_mk (st := s_pours_among) l_pours_among c_pours_among kp_pours_among
  have b_pours_among := F_pours_among.binds (ps := ["many"]) fun _ _ _ _ _ _ us hl => by obtain ⟨_, rfl⟩ := len1 hl; rfl
  have F_with_one_more := fun_mk (st := s_with_one_more) l_with_one_more c_with_one_more kp_with_one_more
  have b_with_one_more := F_with_one_more.binds (ps := ["states", "size"]) fun _ _ _ _ _ _ us hl => by obtain ⟨_, _, rfl⟩ := len2 hl; rfl
  have F_states := fun_mk (st := s_House_states) l_states c_states kp_states
  have b_states := F_states.binds (ps := ["self"]) fun _ _ _ _ _ _ us hl => by obtain ⟨_, rfl⟩ := len1 hl; rfl
  have F_moves := fun_mk (st := s_House_moves) l_moves c_moves kp_moves
  have b_moves := F_moves.binds (ps := ["self"]) fun _ _ _ _ _ _ us hl => by obtain ⟨_, rfl⟩ := len1 hl; rfl
  have F_move_text := fun_mk (st := s_move_text) l_move_text c_move_text kp_move_text
  have b_move_text := F_move_text.binds (ps := ["move"]) fun _ _ _ _ _ _ us hl => by obtain ⟨_, rfl⟩ := len1 hl; rfl
  have F_routine_text := fun_mk (st := s_routine_text) l_routine_text c_routine_text kp_routine_text
  have b_routine_text := F_routine_text.binds (ps := ["moves"]) fun _ _ _ _ _ _ us hl => by obtain ⟨_, rfl⟩ := len1 hl; rfl
  have F_cell_at := fun_mk (st := s__law_cell_at) l_cell_at c_cell_at kp_cell_at
  have b_cell_at := F_cell_at.binds (ps := ["_law_script", "_law_k"]) fun _ _ _ _ _ _ us hl => by obtain ⟨_, _, rfl⟩ := len2 hl; rfl
  have F_draw := fun_mk (st := s__law_draw) l_draw c_draw kp_draw
  have b_draw := F_draw.binds (ps := ["_law_cell", "_law_k", "_law_many"]) fun _ _ _ _ _ _ us hl => by obtain ⟨_, _, _, rfl⟩ := len3 hl; rfl
  have F_lsizes := fun_mk (st := s__law_sizes) l_lsizes c_lsizes kp_lsizes
  have b_lsizes := F_lsizes.binds (ps := ["_law_cell"]) fun _ _ _ _ _ _ us hl => by obtain ⟨_, rfl⟩ := len1 hl; rfl
  have F_lstate := fun_mk (st := s__law_state) l_lstate c_lstate kp_lstate
  have b_lstate := F_lstate.binds (ps := ["_law_cell", "_law_sizes_here"]) fun _ _ _ _ _ _ us hl => by obtain ⟨_, _, rfl⟩ := len2 hl; rfl
  have F_all_moves := fun_mk (st := s__law_all_moves) l_all_moves c_all_moves kp_all_moves
  have b_all_moves := F_all_moves.binds (ps := ["_law_sizes_here", "_law_tap"]) fun _ _ _ _ _ _ us hl => by obtain ⟨_, _, rfl⟩ := len2 hl; rfl
  have F_behind := fun_mk (st := s__law_behind) l_behind c_behind kp_behind
  have b_behind := F_behind.binds (ps := ["_law_sizes_here", "_law_state_here", "_law_told_here"]) fun _ _ _ _ _ _ us hl => by obtain ⟨_, _, _, rfl⟩ := len3 hl; rfl
  have F_told := fun_mk (st := s__law_told) l_told c_told kp_told
  have b_told := F_told.binds (ps := ["_law_move"]) fun _ _ _ _ _ _ us hl => by obtain ⟨_, rfl⟩ := len1 hl; rfl
  have F_lstates := fun_mk (st := s__law_states) l_lstates c_lstates kp_lstates
  have b_lstates := F_lstates.binds (ps := ["_law_sizes_here"]) fun _ _ _ _ _ _ us hl => by obtain ⟨_, rfl⟩ := len1 hl; rfl
  have F_sorts := fun_mk (st := s__law_sorts) l_sorts c_sorts kp_sorts
  have b_sorts := F_sorts.binds (ps := ["_law_move"]) fun _ _ _ _ _ _ us hl => by obtain ⟨_, rfl⟩ := len1 hl; rfl
  have F_whole := fun_mk (st := s__law_whole) l_whole c_whole kp_whole
  have b_whole := F_whole.binds (ps := ["_law_state_here"]) fun _ _ _ _ _ _ us hl => by obtain ⟨_, rfl⟩ := len1 hl; rfl
  have F_all_right := fun_mk (st := s__law_all_right) l_all_right c_all_right kp_all_right
  have b_all_right := F_all_right.binds (ps := ["_law_house", "_law_sizes_here", "_law_state_here", "_law_due", "_law_script"]) fun _ _ _ _ _ _ us hl => by obtain ⟨_, _, _, _, _, rfl⟩ := len5 hl; rfl
  have F_law := fun_mk (st := s_law) l_law c_law kp_law
  have b_law := F_law.binds (ps := ["_law_script"]) fun _ _ _ _ _ _ us hl => by obtain ⟨_, rfl⟩ := len1 hl; rfl
  have g := fun {x : Str} {v : Value} (q : PySem.W.nsIn K mainGlobals x = some (some v)) => PySem.W.mg_of X G q
  have g0 := fun {x : Str} (q : PySem.W.nsIn K mainGlobals x = some none) => PySem.W.mg_none_of X G q
  have B : Bt mg := ⟨g0 z_isinstance, g0 z_int, g0 z_bool, g0 z_tuple, g0 z_list, g0 z_len, g0 z_zip, g0 z_range, g0 z_min, g0 z_str, ⟨_, g z_MOST_JUGS⟩, ⟨_, g z_MOST_SIZE⟩⟩
  have cl_Pour : Cls K C_Pour := ⟨pg_Pour, hd_Pour, po_Pour, sa_Pour⟩
  have cl_Fill : Cls K C_Fill := ⟨pg_Fill, hd_Fill, po_Fill, sa_Fill⟩
  have cl_Empty : Cls K C_Empty := ⟨pg_Empty, hd_Empty, po_Empty, sa_Empty⟩
  have cl_House : Cls K C_House := ⟨pg_House, hd_House, po_House, sa_House⟩
  have CHo : CHs K C_House := ⟨cl_House, n_House_jug_sizes, n_House_tap⟩
  let Zz : Cz := ⟨C_Pour, C_Fill, C_Empty⟩
  have M : MvC K mg Zz := ⟨⟨cl_Pour, n_Pour_one, n_Pour_other⟩, ⟨cl_Fill, n_Fill_jug⟩, ⟨cl_Empty, n_Empty_jug⟩, ⟨ha_Pour, hn, htk, hm_Pour⟩, ⟨ha_Fill, hn, htk, hm_Fill⟩, ⟨ha_Empty, hn, htk, hm_Empty⟩, g a_Pour, g a_Fill, g a_Empty, k_Fill_Pour, k_Empty_Pour, k_Empty_Fill⟩
  have N : MvK K mg Zz C_Move := ⟨g a_Move, k_Pour_Fill, k_Pour_Empty, k_Fill_Empty, k_Pour_Move, k_Fill_Move, k_Empty_Move⟩
  refine ⟨PySem.W.fnOf "law" "law" (defArgs s_law) (defBody s_law) (defScope s_law) .none kV_law dc_law pm_law an_law cd_law ct_law, fun s v => .of_eq rfl, fun base _ _ => ?_⟩
  have o_is_number := ok_is_number (P := l.prog) (w := w) (base := base) F_is_number B
  have q_is_number : FnB l.prog w K mg base 1 "is_number" ["value", "least", "most"] _ := ⟨_, _, o_is_number, g a_is_number, kp_is_number, b_is_number⟩
  have o_is_jug := ok_is_jug F_is_jug B q_is_number
  have q_is_jug : FnB l.prog w K mg base 2 "is_jug" ["value"] _ := ⟨_, _, o_is_jug, g a_is_jug, kp_is_jug, b_is_jug⟩
  have o_sizes := ok_sizes (P := l.prog) (w := w) (base := base) F_sizes B CHo
  have q_sizes : MeB l.prog w K mg base 1 C_House "sizes" ["self"] _ := ⟨_, _, o_sizes, ⟨a_sizes_House, i_sizes, kp_sizes⟩, b_sizes, cl_House⟩
  have o_held_in := ok_held_in F_held_in B q_is_number q_sizes
  have q_held_in : FnB l.prog w K mg base 2 "held_in" ["house", "state"] _ := ⟨_, _, o_held_in, g a_held_in, kp_held_in, b_held_in⟩
  have o_with_amount := ok_with_amount (P := l.prog) (w := w) (base := base) F_with_amount B
  have q_with_amount : FnB l.prog w K mg base 1 "with_amount" ["held", "jug", "many"] _ := ⟨_, _, o_with_amount, g a_with_amount, kp_with_amount, b_with_amount⟩
  have o_check_jug := ok_check_jug F_check_jug q_is_jug
  have q_check_jug : FnB l.prog w K mg base 3 "check_jug" ["jug"] _ := ⟨_, _, o_check_jug, g a_check_jug, kp_check_jug, b_check_jug⟩
  have o_check_house_has := ok_check_house_has F_check_house_has B q_sizes
  have q_check_house_has : FnB l.prog w K mg base 2 "check_house_has" ["house", "jug"] _ := ⟨_, _, o_check_house_has, g a_check_house_has, kp_check_house_has, b_check_house_has⟩
  have o_check_house_can_tap := ok_check_house_can_tap F_check_house_can_tap CHo q_check_house_has
  have q_check_house_can_tap : FnB l.prog w K mg base 3 "check_house_can_tap" ["house", "jug"] _ := ⟨_, _, o_check_house_can_tap, g a_check_house_can_tap, kp_check_house_can_tap, b_check_house_can_tap⟩
  have o_Pi := ok_Pour_init (Z := Zz) F_Pi M.po q_check_jug
  have q_Pi : MkB l.prog w K mg base 4 "Pour" C_Pour ["self", "one", "other"] _ := ⟨_, _, o_Pi, g a_Pour, ⟨mk_Pour, a_Pi_Pour, i_Pi, kc_Pour⟩, b_Pi⟩
  have o_Fi := ok_Fill_init (Z := Zz) F_Fi M.fi q_check_jug
  have q_Fi : MkB l.prog w K mg base 4 "Fill" C_Fill ["self", "jug"] _ := ⟨_, _, o_Fi, g a_Fill, ⟨mk_Fill, a_Fi_Fill, i_Fi, kc_Fill⟩, b_Fi⟩
  have o_Ei := ok_Empty_init (Z := Zz) F_Ei M.em q_check_jug
  have q_Ei : MkB l.prog w K mg base 4 "Empty" C_Empty ["self", "jug"] _ := ⟨_, _, o_Ei, g a_Empty, ⟨mk_Empty, a_Ei_Empty, i_Ei, kc_Empty⟩, b_Ei⟩
  have o_Ph := (ok_Pour_hb (Z := Zz) F_Ph B M.po q_check_house_has q_sizes q_with_amount).mono (k := 4) (by decide)
  have q_Ph : MeB l.prog w K mg base 4 C_Pour "held_behind" ["self", "house", "held"] _ := ⟨_, _, o_Ph, ⟨a_Ph_Pour, i_Ph, kp_Ph⟩, b_Ph, cl_Pour⟩
  have o_Fh := ok_Fill_hb (Z := Zz) F_Fh B M.fi q_check_house_can_tap q_sizes q_with_amount
  have q_Fh : MeB l.prog w K mg base 4 C_Fill "held_behind" ["self", "house", "held"] _ := ⟨_, _, o_Fh, ⟨a_Fh_Fill, i_Fh, kp_Fh⟩, b_Fh, cl_Fill⟩
  have o_Eh := ok_Empty_hb (Z := Zz) F_Eh B M.em q_check_house_can_tap q_with_amount
  have q_Eh : MeB l.prog w K mg base 4 C_Empty "held_behind" ["self", "house", "held"] _ := ⟨_, _, o_Eh, ⟨a_Eh_Empty, i_Eh, kp_Eh⟩, b_Eh, cl_Empty⟩
  have o_done := ok_done (Z := Zz) F_done B q_held_in q_Ph q_Fh q_Eh
  have q_done_Pour : MeB l.prog w K mg base 5 C_Pour "done" ["self", "house", "state"] _ := ⟨_, _, o_done, ⟨a_done_Pour, i_done, kp_done⟩, b_done, cl_Pour⟩
  have q_done_Fill : MeB l.prog w K mg base 5 C_Fill "done" ["self", "house", "state"] _ := ⟨_, _, o_done, ⟨a_done_Fill, i_done, kp_done⟩, b_done, cl_Fill⟩
  have q_done_Empty : MeB l.prog w K mg base 5 C_Empty "done" ["self", "house", "state"] _ := ⟨_, _, o_done, ⟨a_done_Empty, i_done, kp_done⟩, b_done, cl_Empty⟩
  have o_moves_in := ok_moves_in (P := l.prog) (w := w) (base := base) (Z := Zz) F_moves_in B M
  have q_moves_in : FnB l.prog w K mg base 1 "moves_in" ["moves"] _ := ⟨_, _, o_moves_in, g a_moves_in, kp_moves_in, b_moves_in⟩
  have o_done_all := ok_done_all (Z := Zz) F_done_all B q_moves_in q_held_in (anyC q_done_Pour q_done_Fill q_done_Empty)
  have q_done_all : FnB l.prog w K mg base 6 "done_all" ["moves", "house", "state"] _ := ⟨_, _, o_done_all, g a_done_all, kp_done_all, b_done_all⟩
  have o_count_states := ok_count_states (P := l.prog) (w := w) (mg := mg) (base := base) F_count_states
  have q_count_states : FnB l.prog w K mg base 1 "count_states" ["sizes"] _ := ⟨_, _, o_count_states, g a_count_states, kp_count_states, b_count_states⟩
  have o_sizes_in := ok_sizes_in F_sizes_in B ⟨_, g z_MOST_STATES⟩ q_is_number q_count_states
  have q_sizes_in : FnB l.prog w K mg base 2 "sizes_in" ["sizes"] _ := ⟨_, _, o_sizes_in, g a_sizes_in, kp_sizes_in, b_sizes_in⟩
  have o_Hi := ok_House_init F_Hi B CHo q_sizes_in
  have q_Hi : MkB l.prog w K mg base 3 "House" C_House ["self", "sizes", "tap"] _ := ⟨_, _, o_Hi, g a_House, ⟨mk_House, a_Hi_House, i_Hi, kc_House⟩, b_Hi⟩
  have o_empty := ok_empty (P := l.prog) (w := w) (base := base) F_empty B CHo
  have q_empty : MeB l.prog w K mg base 1 C_House "empty" ["self"] _ := ⟨_, _, o_empty, ⟨a_empty_House, i_empty, kp_empty⟩, b_empty, cl_House⟩
  have o_pours_among := ok_pours_among (Z := Zz) F_pours_among B q_Pi
  have q_pours_among : FnB l.prog w K mg base 6 "pours_among" ["many"] _ := ⟨_, _, o_pours_among, g a_pours_among, kp_pours_among, b_pours_among⟩
  have o_with_one_more := ok_with_one_more (P := l.prog) (w := w) (base := base) F_with_one_more B
  have q_with_one_more : FnB l.prog w K mg base 1 "with_one_more" ["states", "size"] _ := ⟨_, _, o_with_one_more, g a_with_one_more, kp_with_one_more, b_with_one_more⟩
  have o_states := ok_states F_states CHo q_with_one_more
  have q_states : MeB l.prog w K mg base 2 C_House "states" ["self"] _ := ⟨_, _, o_states, ⟨a_states_House, i_states, kp_states⟩, b_states, cl_House⟩
  have o_moves := ok_moves (Z := Zz) F_moves B CHo q_pours_among q_Fi q_Ei
  have q_moves : MeB l.prog w K mg base 7 C_House "moves" ["self"] _ := ⟨_, _, o_moves, ⟨a_moves_House, i_moves, kp_moves⟩, b_moves, cl_House⟩
  have o_move_text := ok_move_text (P := l.prog) (w := w) (base := base) (Z := Zz) F_move_text B M
  have q_move_text : FnB l.prog w K mg base 1 "move_text" ["move"] _ := ⟨_, _, o_move_text, g a_move_text, kp_move_text, b_move_text⟩
  have o_routine_text := ok_routine_text (Z := Zz) F_routine_text q_moves_in q_move_text
  have q_routine_text : FnB l.prog w K mg base 2 "routine_text" ["moves"] _ := ⟨_, _, o_routine_text, g a_routine_text, kp_routine_text, b_routine_text⟩
  have o_cell_at := ok_cell_at (P := l.prog) (w := w) (base := base) F_cell_at B
  have q_cell_at : FnB l.prog w K mg base 1 "_law_cell_at" ["_law_script", "_law_k"] _ := ⟨_, _, o_cell_at, g a_cell_at, kp_cell_at, b_cell_at⟩
  have o_draw := ok_draw (P := l.prog) (w := w) (mg := mg) (base := base) F_draw
  have q_draw : FnB l.prog w K mg base 1 "_law_draw" ["_law_cell", "_law_k", "_law_many"] _ := ⟨_, _, o_draw, g a_draw, kp_draw, b_draw⟩
  have o_lsizes := ok_law_sizes F_lsizes B q_draw
  have q_lsizes : FnB l.prog w K mg base 2 "_law_sizes" ["_law_cell"] _ := ⟨_, _, o_lsizes, g a_lsizes, kp_lsizes, b_lsizes⟩
  have o_lstate := ok_law_state F_lstate B q_draw
  have q_lstate : FnB l.prog w K mg base 2 "_law_state" ["_law_cell", "_law_sizes_here"] _ := ⟨_, _, o_lstate, g a_lstate, kp_lstate, b_lstate⟩
  have o_all_moves := ok_all_moves (P := l.prog) (w := w) (base := base) F_all_moves B
  have q_all_moves : FnB l.prog w K mg base 1 "_law_all_moves" ["_law_sizes_here", "_law_tap"] _ := ⟨_, _, o_all_moves, g a_all_moves, kp_all_moves, b_all_moves⟩
  have o_behind := ok_behind1 (P := l.prog) (w := w) (base := base) F_behind B
  have q_behind : FnB l.prog w K mg base 1 "_law_behind" ["_law_sizes_here", "_law_state_here", "_law_told_here"] _ := ⟨_, _, o_behind, g a_behind, kp_behind, b_behind⟩
  have o_told := ok_told (Z := Zz) F_told B q_routine_text
  have q_told : FnB l.prog w K mg base 3 "_law_told" ["_law_move"] _ := ⟨_, _, o_told, g a_told, kp_told, b_told⟩
  have o_lstates := ok_law_states (P := l.prog) (w := w) (base := base) F_lstates B
  have q_lstates : FnB l.prog w K mg base 1 "_law_states" ["_law_sizes_here"] _ := ⟨_, _, o_lstates, g a_lstates, kp_lstates, b_lstates⟩
  have o_sorts := ok_sorts (P := l.prog) (w := w) (base := base) (Z := Zz) F_sorts B M N
  have q_sorts : FnB l.prog w K mg base 1 "_law_sorts" ["_law_move"] _ := ⟨_, _, o_sorts, g a_sorts, kp_sorts, b_sorts⟩
  have o_whole := ok_whole (P := l.prog) (w := w) (base := base) F_whole B (g0 z_any)
  have q_whole : FnB l.prog w K mg base 1 "_law_whole" ["_law_state_here"] _ := ⟨_, _, o_whole, g a_whole, kp_whole, b_whole⟩
  have o_all_right := ok_all_right (Z := Zz) F_all_right B q_draw q_cell_at q_behind q_moves q_done_all
  have q_all_right : FnB l.prog w K mg base 8 "_law_all_right" ["_law_house", "_law_sizes_here", "_law_state_here", "_law_due", "_law_script"] _ := ⟨_, _, o_all_right, g a_all_right, kp_all_right, b_all_right⟩
  exact ok_law1 (Z := Zz) F_law B CHo M N q_draw q_cell_at q_lsizes q_lstate q_lstates q_all_moves q_behind q_told q_sorts q_whole q_all_right q_Hi q_sizes q_empty q_states q_moves (anyC q_done_Pour q_done_Fill q_done_Empty)
theorem walk {l : PySem.W.OpenLaw} {q : Program} {loose : List Str} {XP : (Str → Option Value) → Heap → Prop} {YP : World → Heap → Prop} {d : DefRec} {K : Params → PySem.W.Frag} (hn : l.most = some 63) (hdf : d.params.defaults = [])
    (hY : ∀ (w : World) (h : Heap), YP w h → (K w.params).In h)
    (F : ∀ (w : World) (mg : Str → Option Value) (fa : Addr) (h : Heap), (K w.params).In h → h.Ns mainGlobals mg → mg d.name = some (.ref fa) →
      ∃ fd : FuncData, (∀ (s : Shared) (u : Value), BindsTo s fd ⟨[u], []⟩ [("_law_script", u)]) ∧ ∀ base : Heap, (K w.params).In base → base.Ns mainGlobals mg → FnOk l.prog w (K w.params) mg base CX0 9 fa fd ["_law_script"] (spLaw (K w.params))) :
    PySem.W.WalkO q loose XP YP l.row.toRowW d [] (fun f vs => PySem.call f vs) :=
  L2.walk_of (n := 63) (k := 9) (x := "_law_script") (CX := fun _ => CX0) (sp := fun w => spLaw (K w.params)) hn (by decide) hdf ⟨rfl, by decide, by decide⟩ hY F (fun _ _ a ns hl _ hS => ⟨a, ns, rfl, hS, hl, fun _ => rfl⟩) fun _ _ _ _ _ z => z

end Jug
noncomputable section
namespace Hd
open PySem PySem.W PySem.Calls PyProof.Rows
set_option maxHeartbeats 0
abbrev pg : Program := PySem.Challenge.pw_jughouse_k01_moves
def st (i : Nat) : Stmt := pg.main.body.getD i (.Pass ⟨0, 0, 0, 0⟩)
def me (i j : Nat) : Stmt := L2.inClass (st i) j
def de (P : Params) (k : Str) (t : Nat) (v : Value) : DictEntry := ⟨PyData.keyHash P k, .str k t, v⟩
def fu (s : Stmt) (n q : Str) (g : Addr) (cl : List (Str × Addr)) (a b c d : Value) (an : Option Addr) (e f : Value) (bu : Addr) : FuncData := ⟨n, q, L2.defArgs s, .stmts (L2.defBody s), L2.defScope s, g, cl, a, b, c, d, an, e, f, bu⟩
def o11 (P : Params) : Obj := (.mk (.type "code") none (.fields #[(.str "<module>" 182), (.str "<module>" 183), (.str "/claim/cut.py" 184), (.int 1 0), (.int 0 0), (.int 0 0), (.int 0 0), (.int 0 0), (.ref 11), (.bool false), (.int 181 0), (.ref 12), .none, .none, .none, .none, (.int 185 0), (.int 1 0), (.str "/claim/cut.py" 186)]) #[])
def o12 (P : Params) : Obj := (.mk (.type "frame") none .plain #[(some (.ref 13)), (some (.ref 3)), (some (.ref 3)), none, (some (.str "__main__" 164)), none, (some (.ref 0))])
def o13 (P : Params) : Obj := (.mk (.type "dict") none (.dict #[(de P "__name__" 165 (.str "law_jughouse_k01_moves" 608)), (de P "__doc__" 166 .none), (de P "__package__" 167 .none), (de P "__loader__" 168 (.builtin "__main__.__loader__#opaque")), (de P "__spec__" 169 .none), (de P "__annotations__" 170 (.ref 6)), (de P "__builtins__" 171 (.ref 4)), (de P "__file__" 173 (.str "/claim/cut.py" 172)), (de P "__cached__" 174 .none), (de P "JugError" 206 (.ref 24)), (de P "BadHouse" 222 (.ref 37)), (de P "BadState" 238 (.ref 49)), (de P "BadMove" 254 (.ref 61)), (de P "MOST_JUGS" 258 (.int 4 257)), (de P "MOST_SIZE" 260 (.int 60 259)), (de P "is_number" 269 (.ref 70)), (de P "is_jug" 276 (.ref 77)), (de P "held_in" 288 (.ref 84)), (de P "check_jug" 297 (.ref 91)), (de P "check_house_has" 305 (.ref 98)), (de P "check_house_can_tap" 313 (.ref 105)), (de P "with_amount" 323 (.ref 112)), (de P "Move" 362 (.ref 136)), (de P "Pour" 401 (.ref 164)), (de P "Fill" 435 (.ref 190)), (de P "Empty" 469 (.ref 216)), (de P "moves_in" 478 (.ref 225)), (de P "done_all" 490 (.ref 232)), (de P "MOST_STATES" 494 (.int 2000 493)), (de P "sizes_in" 503 (.ref 239)), (de P "count_states" 512 (.ref 246)), (de P "pours_among" 522 (.ref 253)), (de P "with_one_more" 533 (.ref 260)), (de P "House" 592 (.ref 301)), (de P "move_text" 601 (.ref 312)), (de P "routine_text" 607 (.ref 317)), (de P "_law_cell_at" 617 (.ref 324)), (de P "_law_draw" 627 (.ref 331)), (de P "_law_sizes" 633 (.ref 336)), (de P "_law_state" 644 (.ref 343)), (de P "_law_all_moves" 650 (.ref 348)), (de P "_law_behind" 663 (.ref 355)), (de P "_law_told" 671 (.ref 362)), (de P "_law_states" 677 (.ref 367)), (de P "_law_sorts" 684 (.ref 374)), (de P "_law_whole" 690 (.ref 379)), (de P "_law_all_right" 706 (.ref 386)), (de P "law" 712 (.ref 391))] 48) #[])
def o14 (P : Params) : Obj := (.mk .none none (.fields #[(.int 2 0), (.int 0 0), (.ref 20), (.int 4 0), (.int 0 0), (.ref 33), (.int 6 0), (.int 0 0), (.ref 45), (.int 8 0), (.int 0 0), (.ref 57), (.int 13 0), (.int 0 0), (.ref 69), (.int 15 0), (.int 0 0), (.ref 76), (.int 17 0), (.int 0 0), (.ref 83), (.int 29 0), (.int 0 0), (.ref 90), (.int 32 0), (.int 0 0), (.ref 97), (.int 35 0), (.int 0 0), (.ref 104), (.int 39 0), (.int 0 0), (.ref 111), (.int 43 0), (.int 0 0), (.ref 118), (.int 51 0), (.int 0 0), (.ref 146), (.int 68 0), (.int 0 0), (.ref 172), (.int 77 0), (.int 0 0), (.ref 198), (.int 86 0), (.int 0 0), (.ref 224), (.int 94 0), (.int 0 0), (.ref 231), (.int 102 0), (.int 0 0), (.ref 238), (.int 114 0), (.int 0 0), (.ref 245), (.int 119 0), (.int 0 0), (.ref 252), (.int 126 0), (.int 0 0), (.ref 259), (.int 132 0), (.int 0 0), (.ref 266), (.int 160 0), (.int 0 0), (.ref 311), (.int 166 0), (.int 0 0), (.ref 316), (.int 169 0), (.int 0 0), (.ref 323), (.int 173 0), (.int 0 0), (.ref 330), (.int 176 0), (.int 0 0), (.ref 335), (.int 180 0), (.int 0 0), (.ref 342), (.int 186 0), (.int 0 0), (.ref 347), (.int 194 0), (.int 0 0), (.ref 354), (.int 206 0), (.int 0 0), (.ref 361), (.int 211 0), (.int 0 0), (.ref 366), (.int 219 0), (.int 0 0), (.ref 373), (.int 221 0), (.int 0 0), (.ref 378), (.int 223 0), (.int 0 0), (.ref 385), (.int 232 0), (.int 0 0), (.ref 390)]) #[])
def o15 (P : Params) : Obj := (.mk (.type "tuple") none (.seq #[(.type "ValueError")] 0) #[])
def o16 (P : Params) : Obj := (.mk (.type "builtin_function_or_method") none (.fields #[(.builtin "type.__prepare__"), (.type "type")]) #[])
def o17 (P : Params) : Obj := (.mk (.type "dict") none (.dict #[(de P "__module__" 196 (.str "jughouse.errors" 187)), (de P "__qualname__" 198 (.str "JugError" 197)), (de P "__firstlineno__" 200 (.int 2 199)), (de P "__static_attributes__" 201 (.ref 22))] 4) #[])
def o18 (P : Params) : Obj := (.mk (.type "code") none (.fields #[(.str "JugError" 191), (.str "JugError" 192), (.str "/claim/cut.py" 193), (.int 2 0), (.int 0 0), (.int 0 0), (.int 0 0), (.int 0 0), (.ref 18), (.bool false), (.int 181 0), (.ref 19), .none, .none, .none, .none, (.int 194 0), (.int 2 0), (.str "/claim/cut.py" 195)]) #[])
def o19 (P : Params) : Obj := (.mk (.type "frame") none .plain #[(some (.ref 20)), (some (.ref 3)), (some (.ref 17)), none, (some (.str "jughouse.errors" 187)), none, (some (.ref 0))])
def o20 (P : Params) : Obj := (.mk (.type "dict") none (.dict #[(de P "__module__" 196 (.str "jughouse.errors" 187)), (de P "__firstlineno__" 200 (.int 2 199)), (de P "__static_attributes__" 201 (.ref 22)), (de P "__weakref__" 203 (.ref 25)), (de P "__doc__" 204 .none)] 3) #[])
def o21 (P : Params) : Obj := (.mk (.type "type") none (.cls (.mk "JugError" [(.type "ValueError")] [(.ref 24), (.type "ValueError"), (.type "Exception"), (.type "BaseException"), (.type "object")] 23 "JugError" true [] [(.ref 37), (.ref 49), (.ref 61)] false none false)) #[(some (.ref 15)), none, (some (.str "JugError" 189)), (some (.str "JugError" 197)), (some (.builtin "ValueError.__new__")), (some (.bool true))])
def o22 (P : Params) : Obj := (.mk (.type "getset_descriptor") none (.fields #[(.str "__weakref__" 202), (.ref 24), (.builtin "ExceptionGroup.__weakref__"), .none]) #[])
def o23 (P : Params) : Obj := (.mk (.type "super") none (.fields #[(.ref 24), (.ref 24), (.ref 24)]) #[])
def o24 (P : Params) : Obj := (.mk (.type "builtin_function_or_method") none (.fields #[(.builtin "object.__init_subclass__"), (.ref 24)]) #[])
def o25 (P : Params) : Obj := (.mk (.type "tuple") none (.seq #[(.ref 24)] 0) #[])
def o26 (P : Params) : Obj := (.mk (.type "dict") none (.dict #[(de P "__module__" 214 (.str "jughouse.errors" 187)), (de P "__qualname__" 216 (.str "BadHouse" 215)), (de P "__firstlineno__" 218 (.int 4 217)), (de P "__static_attributes__" 219 (.ref 35))] 4) #[])
def o27 (P : Params) : Obj := (.mk (.type "code") none (.fields #[(.str "BadHouse" 209), (.str "BadHouse" 210), (.str "/claim/cut.py" 211), (.int 4 0), (.int 0 0), (.int 0 0), (.int 0 0), (.int 0 0), (.ref 31), (.bool false), (.int 181 0), (.ref 32), .none, .none, .none, .none, (.int 212 0), (.int 4 0), (.str "/claim/cut.py" 213)]) #[])
def o28 (P : Params) : Obj := (.mk (.type "frame") none .plain #[(some (.ref 33)), (some (.ref 3)), (some (.ref 30)), none, (some (.str "jughouse.errors" 187)), none, (some (.ref 0))])
def o29 (P : Params) : Obj := (.mk (.type "dict") none (.dict #[(de P "__module__" 214 (.str "jughouse.errors" 187)), (de P "__firstlineno__" 218 (.int 4 217)), (de P "__static_attributes__" 219 (.ref 35)), (de P "__doc__" 220 .none)] 2) #[])
def o30 (P : Params) : Obj := (.mk (.type "type") none (.cls (.mk "BadHouse" [(.ref 24)] [(.ref 37), (.ref 24), (.type "ValueError"), (.type "Exception"), (.type "BaseException"), (.type "object")] 36 "BadHouse" true [] [] false none false)) #[(some (.ref 28)), none, (some (.str "BadHouse" 207)), (some (.str "BadHouse" 215)), (some (.builtin "ValueError.__new__")), (some (.bool true))])
def o31 (P : Params) : Obj := (.mk (.type "super") none (.fields #[(.ref 37), (.ref 37), (.ref 37)]) #[])
def o32 (P : Params) : Obj := (.mk (.type "builtin_function_or_method") none (.fields #[(.builtin "object.__init_subclass__"), (.ref 37)]) #[])
def o33 (P : Params) : Obj := (.mk (.type "dict") none (.dict #[(de P "__module__" 230 (.str "jughouse.errors" 187)), (de P "__qualname__" 232 (.str "BadState" 231)), (de P "__firstlineno__" 234 (.int 6 233)), (de P "__static_attributes__" 235 (.ref 47))] 4) #[])
def o34 (P : Params) : Obj := (.mk (.type "code") none (.fields #[(.str "BadState" 225), (.str "BadState" 226), (.str "/claim/cut.py" 227), (.int 6 0), (.int 0 0), (.int 0 0), (.int 0 0), (.int 0 0), (.ref 43), (.bool false), (.int 181 0), (.ref 44), .none, .none, .none, .none, (.int 228 0), (.int 6 0), (.str "/claim/cut.py" 229)]) #[])
def o35 (P : Params) : Obj := (.mk (.type "frame") none .plain #[(some (.ref 45)), (some (.ref 3)), (some (.ref 42)), none, (some (.str "jughouse.errors" 187)), none, (some (.ref 0))])
def o36 (P : Params) : Obj := (.mk (.type "dict") none (.dict #[(de P "__module__" 230 (.str "jughouse.errors" 187)), (de P "__firstlineno__" 234 (.int 6 233)), (de P "__static_attributes__" 235 (.ref 47)), (de P "__doc__" 236 .none)] 2) #[])
def o37 (P : Params) : Obj := (.mk (.type "type") none (.cls (.mk "BadState" [(.ref 24)] [(.ref 49), (.ref 24), (.type "ValueError"), (.type "Exception"), (.type "BaseException"), (.type "object")] 48 "BadState" true [] [] false none false)) #[(some (.ref 40)), none, (some (.str "BadState" 223)), (some (.str "BadState" 231)), (some (.builtin "ValueError.__new__")), (some (.bool true))])
def o38 (P : Params) : Obj := (.mk (.type "super") none (.fields #[(.ref 49), (.ref 49), (.ref 49)]) #[])
def o39 (P : Params) : Obj := (.mk (.type "builtin_function_or_method") none (.fields #[(.builtin "object.__init_subclass__"), (.ref 49)]) #[])
def o40 (P : Params) : Obj := (.mk (.type "dict") none (.dict #[(de P "__module__" 246 (.str "jughouse.errors" 187)), (de P "__qualname__" 248 (.str "BadMove" 247)), (de P "__firstlineno__" 250 (.int 8 249)), (de P "__static_attributes__" 251 (.ref 59))] 4) #[])
def o41 (P : Params) : Obj := (.mk (.type "code") none (.fields #[(.str "BadMove" 241), (.str "BadMove" 242), (.str "/claim/cut.py" 243), (.int 8 0), (.int 0 0), (.int 0 0), (.int 0 0), (.int 0 0), (.ref 55), (.bool false), (.int 181 0), (.ref 56), .none, .none, .none, .none, (.int 244 0), (.int 8 0), (.str "/claim/cut.py" 245)]) #[])
def o42 (P : Params) : Obj := (.mk (.type "frame") none .plain #[(some (.ref 57)), (some (.ref 3)), (some (.ref 54)), none, (some (.str "jughouse.errors" 187)), none, (some (.ref 0))])
def o43 (P : Params) : Obj := (.mk (.type "dict") none (.dict #[(de P "__module__" 246 (.str "jughouse.errors" 187)), (de P "__firstlineno__" 250 (.int 8 249)), (de P "__static_attributes__" 251 (.ref 59)), (de P "__doc__" 252 .none)] 2) #[])
def o44 (P : Params) : Obj := (.mk (.type "type") none (.cls (.mk "BadMove" [(.ref 24)] [(.ref 61), (.ref 24), (.type "ValueError"), (.type "Exception"), (.type "BaseException"), (.type "object")] 60 "BadMove" true [] [] false none false)) #[(some (.ref 52)), none, (some (.str "BadMove" 239)), (some (.str "BadMove" 247)), (some (.builtin "ValueError.__new__")), (some (.bool true))])
def o45 (P : Params) : Obj := (.mk (.type "super") none (.fields #[(.ref 61), (.ref 61), (.ref 61)]) #[])
def o46 (P : Params) : Obj := (.mk (.type "builtin_function_or_method") none (.fields #[(.builtin "object.__init_subclass__"), (.ref 61)]) #[])
def o47 (P : Params) : Obj := (.mk (.type "tuple") none (.seq #[(.str "value" 264), (.str "least" 265), (.str "most" 266)] 0) #[])
def o48 (P : Params) : Obj := (.mk .none none (.func (fu (st 8) "is_number" "is_number" 0 [] .none .none .none .none none .none .none 0)) #[])
def o49 (P : Params) : Obj := (.mk (.type "code") none (.fields #[(.str "is_number" 261), (.str "is_number" 262), (.str "/claim/cut.py" 263), (.int 13 0), (.int 3 0), (.int 0 0), (.int 0 0), (.int 3 0), (.ref 64), (.bool true), (.int 181 0), (.ref 65), .none, (.ref 66), (.ref 67), (.ref 68), (.int 267 0), (.int 13 0), (.str "/claim/cut.py" 268)]) #[])
def o50 (P : Params) : Obj := (.mk (.type "function") none (.func (fu (st 8) "is_number" "is_number" 3 [] .none .none .none (.str "jughouse.checks" 255) none (.ref 69) .none 0)) #[])
def o51 (P : Params) : Obj := (.mk (.type "tuple") none (.seq #[(.str "value" 273)] 0) #[])
def o52 (P : Params) : Obj := (.mk .none none (.func (fu (st 9) "is_jug" "is_jug" 0 [] .none .none .none .none none .none .none 0)) #[])
def o53 (P : Params) : Obj := (.mk (.type "code") none (.fields #[(.str "is_jug" 270), (.str "is_jug" 271), (.str "/claim/cut.py" 272), (.int 15 0), (.int 1 0), (.int 0 0), (.int 0 0), (.int 3 0), (.ref 71), (.bool true), (.int 181 0), (.ref 72), .none, (.ref 73), (.ref 74), (.ref 75), (.int 274 0), (.int 15 0), (.str "/claim/cut.py" 275)]) #[])
def o54 (P : Params) : Obj := (.mk (.type "function") none (.func (fu (st 9) "is_jug" "is_jug" 3 [] .none .none .none (.str "jughouse.checks" 255) none (.ref 76) .none 0)) #[])
def o55 (P : Params) : Obj := (.mk (.type "tuple") none (.seq #[(.str "house" 280), (.str "state" 281), (.str "held" 282), (.str "sizes" 283), (.str "many" 284), (.str "size" 285)] 0) #[])
def o56 (P : Params) : Obj := (.mk .none none (.func (fu (st 10) "held_in" "held_in" 0 [] .none .none .none .none none .none .none 0)) #[])
def o57 (P : Params) : Obj := (.mk (.type "code") none (.fields #[(.str "held_in" 277), (.str "held_in" 278), (.str "/claim/cut.py" 279), (.int 17 0), (.int 2 0), (.int 0 0), (.int 0 0), (.int 3 0), (.ref 78), (.bool true), (.int 181 0), (.ref 79), .none, (.ref 80), (.ref 81), (.ref 82), (.int 286 0), (.int 17 0), (.str "/claim/cut.py" 287)]) #[])
def o58 (P : Params) : Obj := (.mk (.type "function") none (.func (fu (st 10) "held_in" "held_in" 3 [] .none .none .none (.str "jughouse.checks" 255) none (.ref 83) .none 0)) #[])
def o59 (P : Params) : Obj := (.mk (.type "tuple") none (.seq #[(.str "jug" 294)] 0) #[])
def o60 (P : Params) : Obj := (.mk .none none (.func (fu (st 12) "check_jug" "check_jug" 0 [] .none .none .none .none none .none .none 0)) #[])
def o61 (P : Params) : Obj := (.mk (.type "code") none (.fields #[(.str "check_jug" 291), (.str "check_jug" 292), (.str "/claim/cut.py" 293), (.int 29 0), (.int 1 0), (.int 0 0), (.int 0 0), (.int 3 0), (.ref 85), (.bool true), (.int 181 0), (.ref 86), .none, (.ref 87), (.ref 88), (.ref 89), (.int 295 0), (.int 29 0), (.str "/claim/cut.py" 296)]) #[])
def o62 (P : Params) : Obj := (.mk (.type "function") none (.func (fu (st 12) "check_jug" "check_jug" 3 [] .none .none .none (.str "jughouse.moves" 289) none (.ref 90) .none 0)) #[])
def o63 (P : Params) : Obj := (.mk (.type "tuple") none (.seq #[(.str "house" 301), (.str "jug" 302)] 0) #[])
def o64 (P : Params) : Obj := (.mk .none none (.func (fu (st 13) "check_house_has" "check_house_has" 0 [] .none .none .none .none none .none .none 0)) #[])
def o65 (P : Params) : Obj := (.mk (.type "code") none (.fields #[(.str "check_house_has" 298), (.str "check_house_has" 299), (.str "/claim/cut.py" 300), (.int 32 0), (.int 2 0), (.int 0 0), (.int 0 0), (.int 3 0), (.ref 92), (.bool true), (.int 181 0), (.ref 93), .none, (.ref 94), (.ref 95), (.ref 96), (.int 303 0), (.int 32 0), (.str "/claim/cut.py" 304)]) #[])
def o66 (P : Params) : Obj := (.mk (.type "function") none (.func (fu (st 13) "check_house_has" "check_house_has" 3 [] .none .none .none (.str "jughouse.moves" 289) none (.ref 97) .none 0)) #[])
def o67 (P : Params) : Obj := (.mk (.type "tuple") none (.seq #[(.str "house" 309), (.str "jug" 310)] 0) #[])
def o68 (P : Params) : Obj := (.mk .none none (.func (fu (st 14) "check_house_can_tap" "check_house_can_tap" 0 [] .none .none .none .none none .none .none 0)) #[])
def o69 (P : Params) : Obj := (.mk (.type "code") none (.fields #[(.str "check_house_can_tap" 306), (.str "check_house_can_tap" 307), (.str "/claim/cut.py" 308), (.int 35 0), (.int 2 0), (.int 0 0), (.int 0 0), (.int 3 0), (.ref 99), (.bool true), (.int 181 0), (.ref 100), .none, (.ref 101), (.ref 102), (.ref 103), (.int 311 0), (.int 35 0), (.str "/claim/cut.py" 312)]) #[])
def o70 (P : Params) : Obj := (.mk (.type "function") none (.func (fu (st 14) "check_house_can_tap" "check_house_can_tap" 3 [] .none .none .none (.str "jughouse.moves" 289) none (.ref 104) .none 0)) #[])
def o71 (P : Params) : Obj := (.mk (.type "tuple") none (.seq #[(.str "held" 317), (.str "jug" 318), (.str "many" 319), (.str "behind" 320)] 0) #[])
def o72 (P : Params) : Obj := (.mk .none none (.func (fu (st 15) "with_amount" "with_amount" 0 [] .none .none .none .none none .none .none 0)) #[])
def o73 (P : Params) : Obj := (.mk (.type "code") none (.fields #[(.str "with_amount" 314), (.str "with_amount" 315), (.str "/claim/cut.py" 316), (.int 39 0), (.int 3 0), (.int 0 0), (.int 0 0), (.int 3 0), (.ref 106), (.bool true), (.int 181 0), (.ref 107), .none, (.ref 108), (.ref 109), (.ref 110), (.int 321 0), (.int 39 0), (.str "/claim/cut.py" 322)]) #[])
def o74 (P : Params) : Obj := (.mk (.type "function") none (.func (fu (st 15) "with_amount" "with_amount" 3 [] .none .none .none (.str "jughouse.moves" 289) none (.ref 111) .none 0)) #[])
def o75 (P : Params) : Obj := (.mk (.type "dict") none (.dict #[(de P "__module__" 331 (.str "jughouse.moves" 289)), (de P "__qualname__" 333 (.str "Move" 332)), (de P "__firstlineno__" 335 (.int 43 334)), (de P "done" 345 (.ref 126)), (de P "held_behind" 354 (.ref 133)), (de P "__static_attributes__" 355 (.ref 134))] 6) #[])
def o76 (P : Params) : Obj := (.mk .none none (.fields #[(.int 45 0), (.int 4 0), (.ref 125), (.int 49 0), (.int 4 0), (.ref 132)]) #[])
def o77 (P : Params) : Obj := (.mk (.type "code") none (.fields #[(.str "Move" 326), (.str "Move" 327), (.str "/claim/cut.py" 328), (.int 43 0), (.int 0 0), (.int 0 0), (.int 0 0), (.int 0 0), (.ref 116), (.bool false), (.int 181 0), (.ref 117), .none, .none, .none, .none, (.int 329 0), (.int 43 0), (.str "/claim/cut.py" 330)]) #[])
def o78 (P : Params) : Obj := (.mk (.type "frame") none .plain #[(some (.ref 118)), (some (.ref 3)), (some (.ref 115)), none, (some (.str "jughouse.moves" 289)), none, (some (.ref 0))])
def o79 (P : Params) : Obj := (.mk (.type "tuple") none (.seq #[(.str "self" 339), (.str "house" 340), (.str "state" 341), (.str "held" 342)] 0) #[])
def o80 (P : Params) : Obj := (.mk .none none (.func (fu (me 16 0) "done" "Move.done" 0 [] .none .none .none .none none .none .none 0)) #[])
def o81 (P : Params) : Obj := (.mk (.type "code") none (.fields #[(.str "done" 336), (.str "Move.done" 337), (.str "/claim/cut.py" 338), (.int 45 0), (.int 3 0), (.int 0 0), (.int 0 0), (.int 3 0), (.ref 120), (.bool true), (.int 181 0), (.ref 121), .none, (.ref 122), (.ref 123), (.ref 124), (.int 343 0), (.int 45 0), (.str "/claim/cut.py" 344)]) #[])
def o82 (P : Params) : Obj := (.mk (.type "function") none (.func (fu (me 16 0) "done" "Move.done" 3 [] .none .none .none (.str "jughouse.moves" 289) none (.ref 125) .none 0)) #[])
def o83 (P : Params) : Obj := (.mk (.type "tuple") none (.seq #[(.str "self" 349), (.str "house" 350), (.str "held" 351)] 0) #[])
def o84 (P : Params) : Obj := (.mk .none none (.func (fu (me 16 1) "held_behind" "Move.held_behind" 0 [] .none .none .none .none none .none .none 0)) #[])
def o85 (P : Params) : Obj := (.mk (.type "code") none (.fields #[(.str "held_behind" 346), (.str "Move.held_behind" 347), (.str "/claim/cut.py" 348), (.int 49 0), (.int 3 0), (.int 0 0), (.int 0 0), (.int 3 0), (.ref 127), (.bool true), (.int 181 0), (.ref 128), .none, (.ref 129), (.ref 130), (.ref 131), (.int 352 0), (.int 49 0), (.str "/claim/cut.py" 353)]) #[])
def o86 (P : Params) : Obj := (.mk (.type "function") none (.func (fu (me 16 1) "held_behind" "Move.held_behind" 3 [] .none .none .none (.str "jughouse.moves" 289) none (.ref 132) .none 0)) #[])
def o87 (P : Params) : Obj := (.mk (.type "dict") none (.dict #[(de P "__module__" 331 (.str "jughouse.moves" 289)), (de P "__firstlineno__" 335 (.int 43 334)), (de P "done" 345 (.ref 126)), (de P "held_behind" 354 (.ref 133)), (de P "__static_attributes__" 355 (.ref 134)), (de P "__dict__" 357 (.ref 137)), (de P "__weakref__" 359 (.ref 138)), (de P "__doc__" 360 .none)] 4) #[])
def o88 (P : Params) : Obj := (.mk (.type "type") none (.cls (.mk "Move" [(.type "object")] [(.ref 136), (.type "object")] 135 "Move" true [] [(.ref 164), (.ref 190), (.ref 216)] false none false)) #[none, none, (some (.str "Move" 324)), (some (.str "Move" 332)), (some (.builtin "object.__new__")), (some (.bool true))])
def o89 (P : Params) : Obj := (.mk (.type "getset_descriptor") none (.fields #[(.str "__dict__" 356), (.ref 136), (.builtin "function.__dict__"), (.builtin "function.__dict__#set")]) #[])
def o90 (P : Params) : Obj := (.mk (.type "getset_descriptor") none (.fields #[(.str "__weakref__" 358), (.ref 136), (.builtin "ExceptionGroup.__weakref__"), .none]) #[])
def o91 (P : Params) : Obj := (.mk (.type "super") none (.fields #[(.ref 136), (.ref 136), (.ref 136)]) #[])
def o92 (P : Params) : Obj := (.mk (.type "builtin_function_or_method") none (.fields #[(.builtin "object.__init_subclass__"), (.ref 136)]) #[])
def o93 (P : Params) : Obj := (.mk (.type "tuple") none (.seq #[(.ref 136)] 0) #[])
def o94 (P : Params) : Obj := (.mk (.type "dict") none (.dict #[(de P "__module__" 370 (.str "jughouse.moves" 289)), (de P "__qualname__" 372 (.str "Pour" 371)), (de P "__firstlineno__" 374 (.int 51 373)), (de P "__init__" 383 (.ref 154)), (de P "held_behind" 395 (.ref 161)), (de P "__static_attributes__" 398 (.ref 162))] 6) #[])
def o95 (P : Params) : Obj := (.mk .none none (.fields #[(.int 53 0), (.int 4 0), (.ref 153), (.int 61 0), (.int 4 0), (.ref 160)]) #[])
def o96 (P : Params) : Obj := (.mk (.type "code") none (.fields #[(.str "Pour" 365), (.str "Pour" 366), (.str "/claim/cut.py" 367), (.int 51 0), (.int 0 0), (.int 0 0), (.int 0 0), (.int 0 0), (.ref 144), (.bool false), (.int 181 0), (.ref 145), .none, .none, .none, .none, (.int 368 0), (.int 51 0), (.str "/claim/cut.py" 369)]) #[])
def o97 (P : Params) : Obj := (.mk (.type "frame") none .plain #[(some (.ref 146)), (some (.ref 3)), (some (.ref 143)), none, (some (.str "jughouse.moves" 289)), none, (some (.ref 0))])
def o98 (P : Params) : Obj := (.mk (.type "tuple") none (.seq #[(.str "self" 378), (.str "one" 379), (.str "other" 380)] 0) #[])
def o99 (P : Params) : Obj := (.mk .none none (.func (fu (me 17 0) "__init__" "Pour.__init__" 0 [] .none .none .none .none none .none .none 0)) #[])
def o100 (P : Params) : Obj := (.mk (.type "code") none (.fields #[(.str "__init__" 375), (.str "Pour.__init__" 376), (.str "/claim/cut.py" 377), (.int 53 0), (.int 3 0), (.int 0 0), (.int 0 0), (.int 3 0), (.ref 148), (.bool true), (.int 181 0), (.ref 149), .none, (.ref 150), (.ref 151), (.ref 152), (.int 381 0), (.int 53 0), (.str "/claim/cut.py" 382)]) #[])
def o101 (P : Params) : Obj := (.mk (.type "function") none (.func (fu (me 17 0) "__init__" "Pour.__init__" 3 [] .none .none .none (.str "jughouse.moves" 289) none (.ref 153) .none 0)) #[])
def o102 (P : Params) : Obj := (.mk (.type "tuple") none (.seq #[(.str "self" 387), (.str "house" 388), (.str "held" 389), (.str "room" 390), (.str "many" 391), (.str "less" 392)] 0) #[])
def o103 (P : Params) : Obj := (.mk .none none (.func (fu (me 17 1) "held_behind" "Pour.held_behind" 0 [] .none .none .none .none none .none .none 0)) #[])
def o104 (P : Params) : Obj := (.mk (.type "code") none (.fields #[(.str "held_behind" 384), (.str "Pour.held_behind" 385), (.str "/claim/cut.py" 386), (.int 61 0), (.int 3 0), (.int 0 0), (.int 0 0), (.int 3 0), (.ref 155), (.bool true), (.int 181 0), (.ref 156), .none, (.ref 157), (.ref 158), (.ref 159), (.int 393 0), (.int 61 0), (.str "/claim/cut.py" 394)]) #[])
def o105 (P : Params) : Obj := (.mk (.type "function") none (.func (fu (me 17 1) "held_behind" "Pour.held_behind" 3 [] .none .none .none (.str "jughouse.moves" 289) none (.ref 160) .none 0)) #[])
def o106 (P : Params) : Obj := (.mk (.type "tuple") none (.seq #[(.str "one" 396), (.str "other" 397)] 0) #[])
def o107 (P : Params) : Obj := (.mk (.type "dict") none (.dict #[(de P "__module__" 370 (.str "jughouse.moves" 289)), (de P "__firstlineno__" 374 (.int 51 373)), (de P "__init__" 383 (.ref 154)), (de P "held_behind" 395 (.ref 161)), (de P "__static_attributes__" 398 (.ref 162)), (de P "__doc__" 399 .none)] 2) #[])
def o108 (P : Params) : Obj := (.mk (.type "type") none (.cls (.mk "Pour" [(.ref 136)] [(.ref 164), (.ref 136), (.type "object")] 163 "Pour" true [] [] false none false)) #[(some (.ref 141)), none, (some (.str "Pour" 363)), (some (.str "Pour" 371)), (some (.builtin "object.__new__")), (some (.bool true))])
def o109 (P : Params) : Obj := (.mk (.type "super") none (.fields #[(.ref 164), (.ref 164), (.ref 164)]) #[])
def o110 (P : Params) : Obj := (.mk (.type "builtin_function_or_method") none (.fields #[(.builtin "object.__init_subclass__"), (.ref 164)]) #[])
def o111 (P : Params) : Obj := (.mk (.type "dict") none (.dict #[(de P "__module__" 409 (.str "jughouse.moves" 289)), (de P "__qualname__" 411 (.str "Fill" 410)), (de P "__firstlineno__" 413 (.int 68 412)), (de P "__init__" 421 (.ref 180)), (de P "held_behind" 430 (.ref 187)), (de P "__static_attributes__" 432 (.ref 188))] 6) #[])
def o112 (P : Params) : Obj := (.mk .none none (.fields #[(.int 70 0), (.int 4 0), (.ref 179), (.int 74 0), (.int 4 0), (.ref 186)]) #[])
def o113 (P : Params) : Obj := (.mk (.type "code") none (.fields #[(.str "Fill" 404), (.str "Fill" 405), (.str "/claim/cut.py" 406), (.int 68 0), (.int 0 0), (.int 0 0), (.int 0 0), (.int 0 0), (.ref 170), (.bool false), (.int 181 0), (.ref 171), .none, .none, .none, .none, (.int 407 0), (.int 68 0), (.str "/claim/cut.py" 408)]) #[])
def o114 (P : Params) : Obj := (.mk (.type "frame") none .plain #[(some (.ref 172)), (some (.ref 3)), (some (.ref 169)), none, (some (.str "jughouse.moves" 289)), none, (some (.ref 0))])
def o115 (P : Params) : Obj := (.mk (.type "tuple") none (.seq #[(.str "self" 417), (.str "jug" 418)] 0) #[])
def o116 (P : Params) : Obj := (.mk .none none (.func (fu (me 18 0) "__init__" "Fill.__init__" 0 [] .none .none .none .none none .none .none 0)) #[])
def o117 (P : Params) : Obj := (.mk (.type "code") none (.fields #[(.str "__init__" 414), (.str "Fill.__init__" 415), (.str "/claim/cut.py" 416), (.int 70 0), (.int 2 0), (.int 0 0), (.int 0 0), (.int 3 0), (.ref 174), (.bool true), (.int 181 0), (.ref 175), .none, (.ref 176), (.ref 177), (.ref 178), (.int 419 0), (.int 70 0), (.str "/claim/cut.py" 420)]) #[])
def o118 (P : Params) : Obj := (.mk (.type "function") none (.func (fu (me 18 0) "__init__" "Fill.__init__" 3 [] .none .none .none (.str "jughouse.moves" 289) none (.ref 179) .none 0)) #[])
def o119 (P : Params) : Obj := (.mk (.type "tuple") none (.seq #[(.str "self" 425), (.str "house" 426), (.str "held" 427)] 0) #[])
def o120 (P : Params) : Obj := (.mk .none none (.func (fu (me 18 1) "held_behind" "Fill.held_behind" 0 [] .none .none .none .none none .none .none 0)) #[])
def o121 (P : Params) : Obj := (.mk (.type "code") none (.fields #[(.str "held_behind" 422), (.str "Fill.held_behind" 423), (.str "/claim/cut.py" 424), (.int 74 0), (.int 3 0), (.int 0 0), (.int 0 0), (.int 3 0), (.ref 181), (.bool true), (.int 181 0), (.ref 182), .none, (.ref 183), (.ref 184), (.ref 185), (.int 428 0), (.int 74 0), (.str "/claim/cut.py" 429)]) #[])
def o122 (P : Params) : Obj := (.mk (.type "function") none (.func (fu (me 18 1) "held_behind" "Fill.held_behind" 3 [] .none .none .none (.str "jughouse.moves" 289) none (.ref 186) .none 0)) #[])
def o123 (P : Params) : Obj := (.mk (.type "tuple") none (.seq #[(.str "jug" 431)] 0) #[])
def o124 (P : Params) : Obj := (.mk (.type "dict") none (.dict #[(de P "__module__" 409 (.str "jughouse.moves" 289)), (de P "__firstlineno__" 413 (.int 68 412)), (de P "__init__" 421 (.ref 180)), (de P "held_behind" 430 (.ref 187)), (de P "__static_attributes__" 432 (.ref 188)), (de P "__doc__" 433 .none)] 2) #[])
def o125 (P : Params) : Obj := (.mk (.type "type") none (.cls (.mk "Fill" [(.ref 136)] [(.ref 190), (.ref 136), (.type "object")] 189 "Fill" true [] [] false none false)) #[(some (.ref 167)), none, (some (.str "Fill" 402)), (some (.str "Fill" 410)), (some (.builtin "object.__new__")), (some (.bool true))])
def o126 (P : Params) : Obj := (.mk (.type "super") none (.fields #[(.ref 190), (.ref 190), (.ref 190)]) #[])
def o127 (P : Params) : Obj := (.mk (.type "builtin_function_or_method") none (.fields #[(.builtin "object.__init_subclass__"), (.ref 190)]) #[])
def o128 (P : Params) : Obj := (.mk (.type "dict") none (.dict #[(de P "__module__" 443 (.str "jughouse.moves" 289)), (de P "__qualname__" 445 (.str "Empty" 444)), (de P "__firstlineno__" 447 (.int 77 446)), (de P "__init__" 455 (.ref 206)), (de P "held_behind" 464 (.ref 213)), (de P "__static_attributes__" 466 (.ref 214))] 6) #[])
def o129 (P : Params) : Obj := (.mk .none none (.fields #[(.int 79 0), (.int 4 0), (.ref 205), (.int 83 0), (.int 4 0), (.ref 212)]) #[])
def o130 (P : Params) : Obj := (.mk (.type "code") none (.fields #[(.str "Empty" 438), (.str "Empty" 439), (.str "/claim/cut.py" 440), (.int 77 0), (.int 0 0), (.int 0 0), (.int 0 0), (.int 0 0), (.ref 196), (.bool false), (.int 181 0), (.ref 197), .none, .none, .none, .none, (.int 441 0), (.int 77 0), (.str "/claim/cut.py" 442)]) #[])
def o131 (P : Params) : Obj := (.mk (.type "frame") none .plain #[(some (.ref 198)), (some (.ref 3)), (some (.ref 195)), none, (some (.str "jughouse.moves" 289)), none, (some (.ref 0))])
def o132 (P : Params) : Obj := (.mk (.type "tuple") none (.seq #[(.str "self" 451), (.str "jug" 452)] 0) #[])
def o133 (P : Params) : Obj := (.mk .none none (.func (fu (me 19 0) "__init__" "Empty.__init__" 0 [] .none .none .none .none none .none .none 0)) #[])
def o134 (P : Params) : Obj := (.mk (.type "code") none (.fields #[(.str "__init__" 448), (.str "Empty.__init__" 449), (.str "/claim/cut.py" 450), (.int 79 0), (.int 2 0), (.int 0 0), (.int 0 0), (.int 3 0), (.ref 200), (.bool true), (.int 181 0), (.ref 201), .none, (.ref 202), (.ref 203), (.ref 204), (.int 453 0), (.int 79 0), (.str "/claim/cut.py" 454)]) #[])
def o135 (P : Params) : Obj := (.mk (.type "function") none (.func (fu (me 19 0) "__init__" "Empty.__init__" 3 [] .none .none .none (.str "jughouse.moves" 289) none (.ref 205) .none 0)) #[])
def o136 (P : Params) : Obj := (.mk (.type "tuple") none (.seq #[(.str "self" 459), (.str "house" 460), (.str "held" 461)] 0) #[])
def o137 (P : Params) : Obj := (.mk .none none (.func (fu (me 19 1) "held_behind" "Empty.held_behind" 0 [] .none .none .none .none none .none .none 0)) #[])
def o138 (P : Params) : Obj := (.mk (.type "code") none (.fields #[(.str "held_behind" 456), (.str "Empty.held_behind" 457), (.str "/claim/cut.py" 458), (.int 83 0), (.int 3 0), (.int 0 0), (.int 0 0), (.int 3 0), (.ref 207), (.bool true), (.int 181 0), (.ref 208), .none, (.ref 209), (.ref 210), (.ref 211), (.int 462 0), (.int 83 0), (.str "/claim/cut.py" 463)]) #[])
def o139 (P : Params) : Obj := (.mk (.type "function") none (.func (fu (me 19 1) "held_behind" "Empty.held_behind" 3 [] .none .none .none (.str "jughouse.moves" 289) none (.ref 212) .none 0)) #[])
def o140 (P : Params) : Obj := (.mk (.type "tuple") none (.seq #[(.str "jug" 465)] 0) #[])
def o141 (P : Params) : Obj := (.mk (.type "dict") none (.dict #[(de P "__module__" 443 (.str "jughouse.moves" 289)), (de P "__firstlineno__" 447 (.int 77 446)), (de P "__init__" 455 (.ref 206)), (de P "held_behind" 464 (.ref 213)), (de P "__static_attributes__" 466 (.ref 214)), (de P "__doc__" 467 .none)] 2) #[])
def o142 (P : Params) : Obj := (.mk (.type "type") none (.cls (.mk "Empty" [(.ref 136)] [(.ref 216), (.ref 136), (.type "object")] 215 "Empty" true [] [] false none false)) #[(some (.ref 193)), none, (some (.str "Empty" 436)), (some (.str "Empty" 444)), (some (.builtin "object.__new__")), (some (.bool true))])
def o143 (P : Params) : Obj := (.mk (.type "super") none (.fields #[(.ref 216), (.ref 216), (.ref 216)]) #[])
def o144 (P : Params) : Obj := (.mk (.type "builtin_function_or_method") none (.fields #[(.builtin "object.__init_subclass__"), (.ref 216)]) #[])
def o145 (P : Params) : Obj := (.mk (.type "tuple") none (.seq #[(.str "moves" 473), (.str "told" 474), (.str "move" 475)] 0) #[])
def o146 (P : Params) : Obj := (.mk .none none (.func (fu (st 20) "moves_in" "moves_in" 0 [] .none .none .none .none none .none .none 0)) #[])
def o147 (P : Params) : Obj := (.mk (.type "code") none (.fields #[(.str "moves_in" 470), (.str "moves_in" 471), (.str "/claim/cut.py" 472), (.int 86 0), (.int 1 0), (.int 0 0), (.int 0 0), (.int 3 0), (.ref 219), (.bool true), (.int 181 0), (.ref 220), .none, (.ref 221), (.ref 222), (.ref 223), (.int 476 0), (.int 86 0), (.str "/claim/cut.py" 477)]) #[])
def o148 (P : Params) : Obj := (.mk (.type "function") none (.func (fu (st 20) "moves_in" "moves_in" 3 [] .none .none .none (.str "jughouse.moves" 289) none (.ref 224) .none 0)) #[])
def o149 (P : Params) : Obj := (.mk (.type "tuple") none (.seq #[(.str "moves" 482), (.str "house" 483), (.str "state" 484), (.str "told" 485), (.str "behind" 486), (.str "move" 487)] 0) #[])
def o150 (P : Params) : Obj := (.mk .none none (.func (fu (st 21) "done_all" "done_all" 0 [] .none .none .none .none none .none .none 0)) #[])
def o151 (P : Params) : Obj := (.mk (.type "code") none (.fields #[(.str "done_all" 479), (.str "done_all" 480), (.str "/claim/cut.py" 481), (.int 94 0), (.int 3 0), (.int 0 0), (.int 0 0), (.int 3 0), (.ref 226), (.bool true), (.int 181 0), (.ref 227), .none, (.ref 228), (.ref 229), (.ref 230), (.int 488 0), (.int 94 0), (.str "/claim/cut.py" 489)]) #[])
def o152 (P : Params) : Obj := (.mk (.type "function") none (.func (fu (st 21) "done_all" "done_all" 3 [] .none .none .none (.str "jughouse.moves" 289) none (.ref 231) .none 0)) #[])
def o153 (P : Params) : Obj := (.mk (.type "tuple") none (.seq #[(.str "sizes" 498), (.str "told" 499), (.str "size" 500)] 0) #[])
def o154 (P : Params) : Obj := (.mk .none none (.func (fu (st 24) "sizes_in" "sizes_in" 0 [] .none .none .none .none none .none .none 0)) #[])
def o155 (P : Params) : Obj := (.mk (.type "code") none (.fields #[(.str "sizes_in" 495), (.str "sizes_in" 496), (.str "/claim/cut.py" 497), (.int 102 0), (.int 1 0), (.int 0 0), (.int 0 0), (.int 3 0), (.ref 233), (.bool true), (.int 181 0), (.ref 234), .none, (.ref 235), (.ref 236), (.ref 237), (.int 501 0), (.int 102 0), (.str "/claim/cut.py" 502)]) #[])
def o156 (P : Params) : Obj := (.mk (.type "function") none (.func (fu (st 24) "sizes_in" "sizes_in" 3 [] .none .none .none (.str "jughouse.houses" 491) none (.ref 238) .none 0)) #[])
def o157 (P : Params) : Obj := (.mk (.type "tuple") none (.seq #[(.str "sizes" 507), (.str "many" 508), (.str "size" 509)] 0) #[])
def o158 (P : Params) : Obj := (.mk .none none (.func (fu (st 25) "count_states" "count_states" 0 [] .none .none .none .none none .none .none 0)) #[])
def o159 (P : Params) : Obj := (.mk (.type "code") none (.fields #[(.str "count_states" 504), (.str "count_states" 505), (.str "/claim/cut.py" 506), (.int 114 0), (.int 1 0), (.int 0 0), (.int 0 0), (.int 3 0), (.ref 240), (.bool true), (.int 181 0), (.ref 241), .none, (.ref 242), (.ref 243), (.ref 244), (.int 510 0), (.int 114 0), (.str "/claim/cut.py" 511)]) #[])
def o160 (P : Params) : Obj := (.mk (.type "function") none (.func (fu (st 25) "count_states" "count_states" 3 [] .none .none .none (.str "jughouse.houses" 491) none (.ref 245) .none 0)) #[])
def o161 (P : Params) : Obj := (.mk (.type "tuple") none (.seq #[(.str "many" 516), (.str "pours" 517), (.str "one" 518), (.str "other" 519)] 0) #[])
def o162 (P : Params) : Obj := (.mk .none none (.func (fu (st 26) "pours_among" "pours_among" 0 [] .none .none .none .none none .none .none 0)) #[])
def o163 (P : Params) : Obj := (.mk (.type "code") none (.fields #[(.str "pours_among" 513), (.str "pours_among" 514), (.str "/claim/cut.py" 515), (.int 119 0), (.int 1 0), (.int 0 0), (.int 0 0), (.int 3 0), (.ref 247), (.bool true), (.int 181 0), (.ref 248), .none, (.ref 249), (.ref 250), (.ref 251), (.int 520 0), (.int 119 0), (.str "/claim/cut.py" 521)]) #[])
def o164 (P : Params) : Obj := (.mk (.type "function") none (.func (fu (st 26) "pours_among" "pours_among" 3 [] .none .none .none (.str "jughouse.houses" 491) none (.ref 252) .none 0)) #[])
def o165 (P : Params) : Obj := (.mk (.type "tuple") none (.seq #[(.str "states" 526), (.str "size" 527), (.str "longer" 528), (.str "state" 529), (.str "many" 530)] 0) #[])
def o166 (P : Params) : Obj := (.mk .none none (.func (fu (st 27) "with_one_more" "with_one_more" 0 [] .none .none .none .none none .none .none 0)) #[])
def o167 (P : Params) : Obj := (.mk (.type "code") none (.fields #[(.str "with_one_more" 523), (.str "with_one_more" 524), (.str "/claim/cut.py" 525), (.int 126 0), (.int 2 0), (.int 0 0), (.int 0 0), (.int 3 0), (.ref 254), (.bool true), (.int 181 0), (.ref 255), .none, (.ref 256), (.ref 257), (.ref 258), (.int 531 0), (.int 126 0), (.str "/claim/cut.py" 532)]) #[])
def o168 (P : Params) : Obj := (.mk (.type "function") none (.func (fu (st 27) "with_one_more" "with_one_more" 3 [] .none .none .none (.str "jughouse.houses" 491) none (.ref 259) .none 0)) #[])
def o169 (P : Params) : Obj := (.mk (.type "dict") none (.dict #[(de P "__module__" 541 (.str "jughouse.houses" 491)), (de P "__qualname__" 543 (.str "House" 542)), (de P "__firstlineno__" 545 (.int 132 544)), (de P "__init__" 554 (.ref 274)), (de P "sizes" 561 (.ref 281)), (de P "moves" 567 (.ref 286)), (de P "states" 576 (.ref 293)), (de P "empty" 582 (.ref 298)), (de P "__static_attributes__" 585 (.ref 299))] 9) #[])
def o170 (P : Params) : Obj := (.mk .none none (.fields #[(.int 134 0), (.int 4 0), (.ref 273), (.int 140 0), (.int 4 0), (.ref 280), (.int 143 0), (.int 4 0), (.ref 285), (.int 151 0), (.int 4 0), (.ref 292), (.int 157 0), (.int 4 0), (.ref 297)]) #[])
def o171 (P : Params) : Obj := (.mk (.type "code") none (.fields #[(.str "House" 536), (.str "House" 537), (.str "/claim/cut.py" 538), (.int 132 0), (.int 0 0), (.int 0 0), (.int 0 0), (.int 0 0), (.ref 264), (.bool false), (.int 181 0), (.ref 265), .none, .none, .none, .none, (.int 539 0), (.int 132 0), (.str "/claim/cut.py" 540)]) #[])
def o172 (P : Params) : Obj := (.mk (.type "frame") none .plain #[(some (.ref 266)), (some (.ref 3)), (some (.ref 263)), none, (some (.str "jughouse.houses" 491)), none, (some (.ref 0))])
def o173 (P : Params) : Obj := (.mk (.type "tuple") none (.seq #[(.str "self" 549), (.str "sizes" 550), (.str "tap" 551)] 0) #[])
def o174 (P : Params) : Obj := (.mk .none none (.func (fu (me 28 0) "__init__" "House.__init__" 0 [] .none .none .none .none none .none .none 0)) #[])
def o175 (P : Params) : Obj := (.mk (.type "code") none (.fields #[(.str "__init__" 546), (.str "House.__init__" 547), (.str "/claim/cut.py" 548), (.int 134 0), (.int 3 0), (.int 0 0), (.int 0 0), (.int 3 0), (.ref 268), (.bool true), (.int 181 0), (.ref 269), .none, (.ref 270), (.ref 271), (.ref 272), (.int 552 0), (.int 134 0), (.str "/claim/cut.py" 553)]) #[])
def o176 (P : Params) : Obj := (.mk (.type "function") none (.func (fu (me 28 0) "__init__" "House.__init__" 3 [] .none .none .none (.str "jughouse.houses" 491) none (.ref 273) .none 0)) #[])
def o177 (P : Params) : Obj := (.mk (.type "tuple") none (.seq #[(.str "self" 558)] 0) #[])
def o178 (P : Params) : Obj := (.mk .none none (.func (fu (me 28 1) "sizes" "House.sizes" 0 [] .none .none .none .none none .none .none 0)) #[])
def o179 (P : Params) : Obj := (.mk (.type "code") none (.fields #[(.str "sizes" 555), (.str "House.sizes" 556), (.str "/claim/cut.py" 557), (.int 140 0), (.int 1 0), (.int 0 0), (.int 0 0), (.int 3 0), (.ref 275), (.bool true), (.int 181 0), (.ref 276), .none, (.ref 277), (.ref 278), (.ref 279), (.int 559 0), (.int 140 0), (.str "/claim/cut.py" 560)]) #[])
def o180 (P : Params) : Obj := (.mk (.type "function") none (.func (fu (me 28 1) "sizes" "House.sizes" 3 [] .none .none .none (.str "jughouse.houses" 491) none (.ref 280) .none 0)) #[])
def o181 (P : Params) : Obj := (.mk .none none (.func (fu (me 28 2) "moves" "House.moves" 0 [] .none .none .none .none none .none .none 0)) #[])
def o182 (P : Params) : Obj := (.mk (.type "code") none (.fields #[(.str "moves" 562), (.str "House.moves" 563), (.str "/claim/cut.py" 564), (.int 143 0), (.int 1 0), (.int 0 0), (.int 0 0), (.int 3 0), (.ref 282), (.bool true), (.int 181 0), (.ref 283), .none, .none, .none, (.ref 284), (.int 565 0), (.int 143 0), (.str "/claim/cut.py" 566)]) #[])
def o183 (P : Params) : Obj := (.mk (.type "function") none (.func (fu (me 28 2) "moves" "House.moves" 3 [] .none .none .none (.str "jughouse.houses" 491) none (.ref 285) .none 0)) #[])
def o184 (P : Params) : Obj := (.mk (.type "tuple") none (.seq #[(.str "self" 571), (.str "told" 572), (.str "size" 573)] 0) #[])
def o185 (P : Params) : Obj := (.mk .none none (.func (fu (me 28 3) "states" "House.states" 0 [] .none .none .none .none none .none .none 0)) #[])
def o186 (P : Params) : Obj := (.mk (.type "code") none (.fields #[(.str "states" 568), (.str "House.states" 569), (.str "/claim/cut.py" 570), (.int 151 0), (.int 1 0), (.int 0 0), (.int 0 0), (.int 3 0), (.ref 287), (.bool true), (.int 181 0), (.ref 288), .none, (.ref 289), (.ref 290), (.ref 291), (.int 574 0), (.int 151 0), (.str "/claim/cut.py" 575)]) #[])
def o187 (P : Params) : Obj := (.mk (.type "function") none (.func (fu (me 28 3) "states" "House.states" 3 [] .none .none .none (.str "jughouse.houses" 491) none (.ref 292) .none 0)) #[])
def o188 (P : Params) : Obj := (.mk .none none (.func (fu (me 28 4) "empty" "House.empty" 0 [] .none .none .none .none none .none .none 0)) #[])
def o189 (P : Params) : Obj := (.mk (.type "code") none (.fields #[(.str "empty" 577), (.str "House.empty" 578), (.str "/claim/cut.py" 579), (.int 157 0), (.int 1 0), (.int 0 0), (.int 0 0), (.int 3 0), (.ref 294), (.bool true), (.int 181 0), (.ref 295), .none, .none, .none, (.ref 296), (.int 580 0), (.int 157 0), (.str "/claim/cut.py" 581)]) #[])
def o190 (P : Params) : Obj := (.mk (.type "function") none (.func (fu (me 28 4) "empty" "House.empty" 3 [] .none .none .none (.str "jughouse.houses" 491) none (.ref 297) .none 0)) #[])
def o191 (P : Params) : Obj := (.mk (.type "tuple") none (.seq #[(.str "jug_sizes" 583), (.str "tap" 584)] 0) #[])
def o192 (P : Params) : Obj := (.mk (.type "dict") none (.dict #[(de P "__module__" 541 (.str "jughouse.houses" 491)), (de P "__firstlineno__" 545 (.int 132 544)), (de P "__init__" 554 (.ref 274)), (de P "sizes" 561 (.ref 281)), (de P "moves" 567 (.ref 286)), (de P "states" 576 (.ref 293)), (de P "empty" 582 (.ref 298)), (de P "__static_attributes__" 585 (.ref 299)), (de P "__dict__" 587 (.ref 302)), (de P "__weakref__" 589 (.ref 303)), (de P "__doc__" 590 .none)] 4) #[])
def o193 (P : Params) : Obj := (.mk (.type "type") none (.cls (.mk "House" [(.type "object")] [(.ref 301), (.type "object")] 300 "House" true [] [] false none false)) #[none, none, (some (.str "House" 534)), (some (.str "House" 542)), (some (.builtin "object.__new__")), (some (.bool true))])
def o194 (P : Params) : Obj := (.mk (.type "getset_descriptor") none (.fields #[(.str "__dict__" 586), (.ref 301), (.builtin "function.__dict__"), (.builtin "function.__dict__#set")]) #[])
def o195 (P : Params) : Obj := (.mk (.type "getset_descriptor") none (.fields #[(.str "__weakref__" 588), (.ref 301), (.builtin "ExceptionGroup.__weakref__"), .none]) #[])
def o196 (P : Params) : Obj := (.mk (.type "super") none (.fields #[(.ref 301), (.ref 301), (.ref 301)]) #[])
def o197 (P : Params) : Obj := (.mk (.type "builtin_function_or_method") none (.fields #[(.builtin "object.__init_subclass__"), (.ref 301)]) #[])
def o198 (P : Params) : Obj := (.mk (.type "tuple") none (.seq #[(.str "move" 598)] 0) #[])
def o199 (P : Params) : Obj := (.mk .none none (.func (fu (st 30) "move_text" "move_text" 0 [] .none .none .none .none none .none .none 0)) #[])
def o200 (P : Params) : Obj := (.mk (.type "code") none (.fields #[(.str "move_text" 595), (.str "move_text" 596), (.str "/claim/cut.py" 597), (.int 160 0), (.int 1 0), (.int 0 0), (.int 0 0), (.int 3 0), (.ref 306), (.bool true), (.int 181 0), (.ref 307), .none, (.ref 308), (.ref 309), (.ref 310), (.int 599 0), (.int 160 0), (.str "/claim/cut.py" 600)]) #[])
def o201 (P : Params) : Obj := (.mk (.type "function") none (.func (fu (st 30) "move_text" "move_text" 3 [] .none .none .none (.str "jughouse.texts" 593) none (.ref 311) .none 0)) #[])
def o202 (P : Params) : Obj := (.mk .none none (.func (fu (st 31) "routine_text" "routine_text" 0 [] .none .none .none .none none .none .none 0)) #[])
def o203 (P : Params) : Obj := (.mk (.type "code") none (.fields #[(.str "routine_text" 602), (.str "routine_text" 603), (.str "/claim/cut.py" 604), (.int 166 0), (.int 1 0), (.int 0 0), (.int 0 0), (.int 3 0), (.ref 313), (.bool true), (.int 181 0), (.ref 314), .none, .none, .none, (.ref 315), (.int 605 0), (.int 166 0), (.str "/claim/cut.py" 606)]) #[])
def o204 (P : Params) : Obj := (.mk (.type "function") none (.func (fu (st 31) "routine_text" "routine_text" 3 [] .none .none .none (.str "jughouse.texts" 593) none (.ref 316) .none 0)) #[])
def o205 (P : Params) : Obj := (.mk (.type "tuple") none (.seq #[(.str "_law_script" 613), (.str "_law_k" 614)] 0) #[])
def o206 (P : Params) : Obj := (.mk .none none (.func (fu (st 33) "_law_cell_at" "_law_cell_at" 0 [] .none .none .none .none none .none .none 0)) #[])
def o207 (P : Params) : Obj := (.mk (.type "code") none (.fields #[(.str "_law_cell_at" 610), (.str "_law_cell_at" 611), (.str "/claim/cut.py" 612), (.int 169 0), (.int 2 0), (.int 0 0), (.int 0 0), (.int 3 0), (.ref 318), (.bool true), (.int 181 0), (.ref 319), .none, (.ref 320), (.ref 321), (.ref 322), (.int 615 0), (.int 169 0), (.str "/claim/cut.py" 616)]) #[])
def o208 (P : Params) : Obj := (.mk (.type "function") none (.func (fu (st 33) "_law_cell_at" "_law_cell_at" 3 [] .none .none .none (.str "law_jughouse_k01_moves" 608) none (.ref 323) .none 0)) #[])
def o209 (P : Params) : Obj := (.mk (.type "tuple") none (.seq #[(.str "_law_cell" 621), (.str "_law_k" 622), (.str "_law_many" 623), (.str "_law_primes" 624)] 0) #[])
def o210 (P : Params) : Obj := (.mk .none none (.func (fu (st 34) "_law_draw" "_law_draw" 0 [] .none .none .none .none none .none .none 0)) #[])
def o211 (P : Params) : Obj := (.mk (.type "code") none (.fields #[(.str "_law_draw" 618), (.str "_law_draw" 619), (.str "/claim/cut.py" 620), (.int 173 0), (.int 3 0), (.int 0 0), (.int 0 0), (.int 3 0), (.ref 325), (.bool true), (.int 181 0), (.ref 326), .none, (.ref 327), (.ref 328), (.ref 329), (.int 625 0), (.int 173 0), (.str "/claim/cut.py" 626)]) #[])
def o212 (P : Params) : Obj := (.mk (.type "function") none (.func (fu (st 34) "_law_draw" "_law_draw" 3 [] .none .none .none (.str "law_jughouse_k01_moves" 608) none (.ref 330) .none 0)) #[])
def o213 (P : Params) : Obj := (.mk .none none (.func (fu (st 35) "_law_sizes" "_law_sizes" 0 [] .none .none .none .none none .none .none 0)) #[])
def o214 (P : Params) : Obj := (.mk (.type "code") none (.fields #[(.str "_law_sizes" 628), (.str "_law_sizes" 629), (.str "/claim/cut.py" 630), (.int 176 0), (.int 1 0), (.int 0 0), (.int 0 0), (.int 3 0), (.ref 332), (.bool true), (.int 181 0), (.ref 333), .none, .none, .none, (.ref 334), (.int 631 0), (.int 176 0), (.str "/claim/cut.py" 632)]) #[])
def o215 (P : Params) : Obj := (.mk (.type "function") none (.func (fu (st 35) "_law_sizes" "_law_sizes" 3 [] .none .none .none (.str "law_jughouse_k01_moves" 608) none (.ref 335) .none 0)) #[])
def o216 (P : Params) : Obj := (.mk (.type "tuple") none (.seq #[(.str "_law_cell" 637), (.str "_law_sizes_here" 638), (.str "_law_state_here" 639), (.str "_law_k" 640), (.str "_law_kind" 641)] 0) #[])
def o217 (P : Params) : Obj := (.mk .none none (.func (fu (st 36) "_law_state" "_law_state" 0 [] .none .none .none .none none .none .none 0)) #[])
def o218 (P : Params) : Obj := (.mk (.type "code") none (.fields #[(.str "_law_state" 634), (.str "_law_state" 635), (.str "/claim/cut.py" 636), (.int 180 0), (.int 2 0), (.int 0 0), (.int 0 0), (.int 3 0), (.ref 337), (.bool true), (.int 181 0), (.ref 338), .none, (.ref 339), (.ref 340), (.ref 341), (.int 642 0), (.int 180 0), (.str "/claim/cut.py" 643)]) #[])
def o219 (P : Params) : Obj := (.mk (.type "function") none (.func (fu (st 36) "_law_state" "_law_state" 3 [] .none .none .none (.str "law_jughouse_k01_moves" 608) none (.ref 342) .none 0)) #[])
def o220 (P : Params) : Obj := (.mk .none none (.func (fu (st 37) "_law_all_moves" "_law_all_moves" 0 [] .none .none .none .none none .none .none 0)) #[])
def o221 (P : Params) : Obj := (.mk (.type "code") none (.fields #[(.str "_law_all_moves" 645), (.str "_law_all_moves" 646), (.str "/claim/cut.py" 647), (.int 186 0), (.int 2 0), (.int 0 0), (.int 0 0), (.int 3 0), (.ref 344), (.bool true), (.int 181 0), (.ref 345), .none, .none, .none, (.ref 346), (.int 648 0), (.int 186 0), (.str "/claim/cut.py" 649)]) #[])
def o222 (P : Params) : Obj := (.mk (.type "function") none (.func (fu (st 37) "_law_all_moves" "_law_all_moves" 3 [] .none .none .none (.str "law_jughouse_k01_moves" 608) none (.ref 347) .none 0)) #[])
def o223 (P : Params) : Obj := (.mk (.type "tuple") none (.seq #[(.str "_law_sizes_here" 654), (.str "_law_state_here" 655), (.str "_law_told_here" 656), (.str "_law_sort" 657), (.str "_law_one" 658), (.str "_law_other" 659), (.str "_law_made" 660)] 0) #[])
def o224 (P : Params) : Obj := (.mk .none none (.func (fu (st 38) "_law_behind" "_law_behind" 0 [] .none .none .none .none none .none .none 0)) #[])
def o225 (P : Params) : Obj := (.mk (.type "code") none (.fields #[(.str "_law_behind" 651), (.str "_law_behind" 652), (.str "/claim/cut.py" 653), (.int 194 0), (.int 3 0), (.int 0 0), (.int 0 0), (.int 3 0), (.ref 349), (.bool true), (.int 181 0), (.ref 350), .none, (.ref 351), (.ref 352), (.ref 353), (.int 661 0), (.int 194 0), (.str "/claim/cut.py" 662)]) #[])
def o226 (P : Params) : Obj := (.mk (.type "function") none (.func (fu (st 38) "_law_behind" "_law_behind" 3 [] .none .none .none (.str "law_jughouse_k01_moves" 608) none (.ref 354) .none 0)) #[])
def o227 (P : Params) : Obj := (.mk (.type "tuple") none (.seq #[(.str "_law_move" 667), (.str "_law_words" 668)] 0) #[])
def o228 (P : Params) : Obj := (.mk .none none (.func (fu (st 39) "_law_told" "_law_told" 0 [] .none .none .none .none none .none .none 0)) #[])
def o229 (P : Params) : Obj := (.mk (.type "code") none (.fields #[(.str "_law_told" 664), (.str "_law_told" 665), (.str "/claim/cut.py" 666), (.int 206 0), (.int 1 0), (.int 0 0), (.int 0 0), (.int 3 0), (.ref 356), (.bool true), (.int 181 0), (.ref 357), .none, (.ref 358), (.ref 359), (.ref 360), (.int 669 0), (.int 206 0), (.str "/claim/cut.py" 670)]) #[])
def o230 (P : Params) : Obj := (.mk (.type "function") none (.func (fu (st 39) "_law_told" "_law_told" 3 [] .none .none .none (.str "law_jughouse_k01_moves" 608) none (.ref 361) .none 0)) #[])
def o231 (P : Params) : Obj := (.mk .none none (.func (fu (st 40) "_law_states" "_law_states" 0 [] .none .none .none .none none .none .none 0)) #[])
def o232 (P : Params) : Obj := (.mk (.type "code") none (.fields #[(.str "_law_states" 672), (.str "_law_states" 673), (.str "/claim/cut.py" 674), (.int 211 0), (.int 1 0), (.int 0 0), (.int 0 0), (.int 3 0), (.ref 363), (.bool true), (.int 181 0), (.ref 364), .none, .none, .none, (.ref 365), (.int 675 0), (.int 211 0), (.str "/claim/cut.py" 676)]) #[])
def o233 (P : Params) : Obj := (.mk (.type "function") none (.func (fu (st 40) "_law_states" "_law_states" 3 [] .none .none .none (.str "law_jughouse_k01_moves" 608) none (.ref 366) .none 0)) #[])
def o234 (P : Params) : Obj := (.mk (.type "tuple") none (.seq #[(.str "_law_move" 681)] 0) #[])
def o235 (P : Params) : Obj := (.mk .none none (.func (fu (st 41) "_law_sorts" "_law_sorts" 0 [] .none .none .none .none none .none .none 0)) #[])
def o236 (P : Params) : Obj := (.mk (.type "code") none (.fields #[(.str "_law_sorts" 678), (.str "_law_sorts" 679), (.str "/claim/cut.py" 680), (.int 219 0), (.int 1 0), (.int 0 0), (.int 0 0), (.int 3 0), (.ref 368), (.bool true), (.int 181 0), (.ref 369), .none, (.ref 370), (.ref 371), (.ref 372), (.int 682 0), (.int 219 0), (.str "/claim/cut.py" 683)]) #[])
def o237 (P : Params) : Obj := (.mk (.type "function") none (.func (fu (st 41) "_law_sorts" "_law_sorts" 3 [] .none .none .none (.str "law_jughouse_k01_moves" 608) none (.ref 373) .none 0)) #[])
def o238 (P : Params) : Obj := (.mk .none none (.func (fu (st 42) "_law_whole" "_law_whole" 0 [] .none .none .none .none none .none .none 0)) #[])
def o239 (P : Params) : Obj := (.mk (.type "code") none (.fields #[(.str "_law_whole" 685), (.str "_law_whole" 686), (.str "/claim/cut.py" 687), (.int 221 0), (.int 1 0), (.int 0 0), (.int 0 0), (.int 3 0), (.ref 375), (.bool true), (.int 181 0), (.ref 376), .none, .none, .none, (.ref 377), (.int 688 0), (.int 221 0), (.str "/claim/cut.py" 689)]) #[])
def o240 (P : Params) : Obj := (.mk (.type "function") none (.func (fu (st 42) "_law_whole" "_law_whole" 3 [] .none .none .none (.str "law_jughouse_k01_moves" 608) none (.ref 378) .none 0)) #[])
def o241 (P : Params) : Obj := (.mk (.type "tuple") none (.seq #[(.str "_law_house" 694), (.str "_law_sizes_here" 695), (.str "_law_state_here" 696), (.str "_law_due" 697), (.str "_law_script" 698), (.str "_law_moves" 699), (.str "_law_now" 700), (.str "_law_k" 701), (.str "_law_at" 702), (.str "_law_kept" 703)] 0) #[])
def o242 (P : Params) : Obj := (.mk .none none (.func (fu (st 43) "_law_all_right" "_law_all_right" 0 [] .none .none .none .none none .none .none 0)) #[])
def o243 (P : Params) : Obj := (.mk (.type "code") none (.fields #[(.str "_law_all_right" 691), (.str "_law_all_right" 692), (.str "/claim/cut.py" 693), (.int 223 0), (.int 5 0), (.int 0 0), (.int 0 0), (.int 3 0), (.ref 380), (.bool true), (.int 181 0), (.ref 381), .none, (.ref 382), (.ref 383), (.ref 384), (.int 704 0), (.int 223 0), (.str "/claim/cut.py" 705)]) #[])
def o244 (P : Params) : Obj := (.mk (.type "function") none (.func (fu (st 43) "_law_all_right" "_law_all_right" 3 [] .none .none .none (.str "law_jughouse_k01_moves" 608) none (.ref 385) .none 0)) #[])
def o245 (P : Params) : Obj := (.mk .none none (.func (fu (st 44) "law" "law" 0 [] .none .none .none .none none .none .none 0)) #[])
def o246 (P : Params) : Obj := (.mk (.type "code") none (.fields #[(.str "law" 707), (.str "law" 708), (.str "/claim/cut.py" 709), (.int 232 0), (.int 1 0), (.int 0 0), (.int 0 0), (.int 3 0), (.ref 387), (.bool true), (.int 181 0), (.ref 388), .none, .none, .none, (.ref 389), (.int 710 0), (.int 232 0), (.str "/claim/cut.py" 711)]) #[])
def o247 (P : Params) : Obj := (.mk (.type "function") none (.func (fu (st 44) "law" "law" 3 [] .none .none .none (.str "law_jughouse_k01_moves" 608) none (.ref 390) .none 0)) #[])
abbrev N := BT.node
abbrev L := BT.nil
def lifeF : Life := (.mk [] [] [] 0 [] [] false #[] [] 0 false false false 0 [2000, 10, 10] false 0 true [] [] 0 false)
def drawnF : Drawn := (.mk 0 0 0 0)
def hA (P : Params) : Heap := ⟨Array.mk (boot_o_0 P :: boot_o_1 P :: boot_o_2 P :: boot_o_3 P :: boot_o_4 P :: boot_o_5 P :: boot_o_6 P :: boot_o_7 P :: boot_o_8 P :: boot_o_9 P :: boot_o_10 P :: boot_o_7 P :: 
  boot_o_8 P :: o11 P :: o12 P :: []), lifeF⟩
def sA (w : World) (os : OsState) : Shared := ⟨hA w.params, Array.mk [], drawnF, 187, os⟩
def tB (P : Params) : BT := (N (boot_o_0 P) (N (boot_o_1 P) (N (boot_o_3 P) (N (boot_o_7 P) L L) (N (boot_o_7 P) L L)) (N (boot_o_5 P) (N (boot_o_9 P) L L) (N (o11 P) L L))) (N (boot_o_2 P) (N (boot_o_4 P) (N (boot_o_8 P) L L) (N (boot_o_8 P) L L)) (N (boot_o_6 P) (N (boot_o_10 P) L L) (N (o12 P) L L))))
def sB (w : World) (os : OsState) : SharedT := ⟨tB w.params, 15, lifeF, Array.mk [], drawnF, 187, os⟩
def tC0 (P : Params) : BT := (N (boot_o_0 P) (N (boot_o_1 P) (N (o13 P) (N (boot_o_7 P) (N (o15 P) (N (boot_o_7 P) (N (o46 P) (N (boot_o_7 P) (N (boot_o_8 P) L L) (N (boot_o_7 P) L L)) (N (o126 P) (N (boot_o_8 P) L L) L)) (N (boot_o_7 P) (N (o103 P) (N (boot_o_7 P) L L) L) (N (o146 P) (N (o223 P) L L) L))) (N (boot_o_7 P) (N (boot_o_8 P) (N (o94 P) (N (boot_o_7 P) L L) L) (N (boot_o_7 P) (N (o214 P) L L) L)) (N (o73 P) (N (boot_o_8 P) (N (o195 P) L L) L) (N (o156 P) (N (o233 P) L L) L)))) (N (o20 P) (N (o32 P) (N (boot_o_7 P) (N (o87 P) (N (o169 P) L L) (N (o247 P) L L)) (N (o131 P) (N (o209 P) L L) L)) (N (o68 P) (N (o93 P) (N (boot_o_8 P) L L) L) (N (o151 P) (N (boot_o_7 P) L L) L))) (N (boot_o_7 P) (N (o59 P) (N (boot_o_7 P) (N (o178 P) L L) L) (N (o141 P) (N (o219 P) L L) L)) (N (o78 P) (N (o119 P) (N (o200 P) L L) L) (N (boot_o_7 P) (N (boot_o_7 P) L L) L))))) (N (boot_o_7 P) (N (boot_o_8 P) (N (boot_o_7 P) (N (boot_o_7 P) (N (o84 P) (N (o167 P) L L) (N (boot_o_7 P) L L)) (N (o128 P) (N (o207 P) L L) L)) (N (boot_o_7 P) (N (o107 P) (N (o185 P) L L) L) (N (boot_o_8 P) (N (o226 P) L L) L))) (N (o39 P) (N (o57 P) (N (o97 P) (N (boot_o_7 P) L L) L) (N (o137 P) (N (o216 P) L L) L)) (N (o75 P) (N (o117 P) (N (boot_o_8 P) L L) L) (N (boot_o_7 P) (N (boot_o_7 P) L L) L)))) (N (o24 P) (N (boot_o_7 P) (N (o52 P) (N (o91 P) (N (o172 P) L L) L) (N (boot_o_7 P) (N (o212 P) L L) L)) (N (boot_o_8 P) (N (o112 P) (N (o191 P) L L) L) (N (o153 P) (N (boot_o_7 P) L L) L))) (N (boot_o_7 P) (N (o62 P) (N (boot_o_7 P) (N (boot_o_8 P) L L) L) (N (boot_o_7 P) (N (o221 P) L L) L)) (N (boot_o_7 P) (N (o122 P) (N (o202 P) L L) L) (N (o162 P) (N (o240 P) L L) L)))))) (N (boot_o_5 P) (N (boot_o_9 P) (N (o17 P) (N (o27 P) (N (boot_o_8 P) (N (o83 P) (N (boot_o_7 P) L L) (N (o243 P) L L)) (N (o93 P) (N (boot_o_7 P) L L) L)) (N (o65 P) (N (o105 P) (N (o184 P) L L) L) (N (o148 P) (N (o224 P) L L) L))) (N (o37 P) (N (boot_o_7 P) (N (o95 P) (N (o175 P) L L) L) (N (o136 P) (N (boot_o_7 P) L L) L)) (N (boot_o_7 P) (N (boot_o_7 P) (N (o197 P) L L) L) (N (boot_o_8 P) (N (boot_o_8 P) L L) L)))) (N (o22 P) (N (o16 P) (N (o51 P) (N (o89 P) (N (o170 P) L L) L) (N (boot_o_8 P) (N (o210 P) L L) L)) (N (o70 P) (N (o111 P) (N (o189 P) L L) L) (N (boot_o_7 P) (N (o229 P) L L) L))) (N (o41 P) (N (o60 P) (N (o100 P) (N (o180 P) L L) L) (N (o143 P) (N (boot_o_8 P) L L) L)) (N (boot_o_8 P) (N (o120 P) (N (boot_o_7 P) L L) L) (N (o161 P) (N (o238 P) L L) L))))) (N (o11 P) (N (o19 P) (N (o30 P) (N (o49 P) (N (o86 P) (N (boot_o_7 P) L L) (N (o245 P) L L)) (N (o129 P) (N (boot_o_7 P) L L) L)) (N (o67 P) (N (o109 P) (N (o187 P) L L) L) (N (boot_o_7 P) (N (boot_o_8 P) L L) L))) (N (o16 P) (N (boot_o_7 P) (N (boot_o_8 P) (N (o177 P) L L) L) (N (o139 P) (N (o217 P) L L) L)) (N (o76 P) (N (boot_o_7 P) (N (boot_o_7 P) L L) L) (N (o159 P) (N (o236 P) L L) L)))) (N (o16 P) (N (o34 P) (N (o54 P) (N (o93 P) (N (boot_o_8 P) L L) L) (N (o134 P) (N (boot_o_8 P) L L) L)) (N (boot_o_7 P) (N (o114 P) (N (o193 P) L L) L) (N (o154 P) (N (o231 P) L L) L))) (N (o44 P) (N (boot_o_8 P) (N (o102 P) (N (o182 P) L L) L) (N (o145 P) (N (boot_o_7 P) L L) L)) (N (o81 P) (N (o124 P) (N (o204 P) L L) L) (N (o164 P) (N (boot_o_8 P) L L) L))))))) (N (boot_o_2 P) (N (boot_o_4 P) (N (boot_o_8 P) (N (o16 P) (N (boot_o_8 P) (N (boot_o_7 P) (N (boot_o_8 P) (N (o165 P) L L) (N (o242 P) L L)) (N (o127 P) (N (o205 P) L L) L)) (N (o64 P) (N (o104 P) (N (boot_o_8 P) L L) L) (N (o147 P) (N (boot_o_7 P) L L) L))) (N (o36 P) (N (o55 P) (N (boot_o_7 P) (N (o174 P) L L) L) (N (boot_o_8 P) (N (o215 P) L L) L)) (N (o74 P) (N (o115 P) (N (o196 P) L L) L) (N (boot_o_7 P) (N (boot_o_7 P) L L) L)))) (N (o21 P) (N (o25 P) (N (boot_o_8 P) (N (o88 P) (N (boot_o_7 P) L L) L) (N (boot_o_7 P) (N (boot_o_7 P) L L) L)) (N (o69 P) (N (o16 P) (N (o188 P) L L) L) (N (o152 P) (N (o228 P) L L) L))) (N (boot_o_8 P) (N (boot_o_7 P) (N (o99 P) (N (o179 P) L L) L) (N (o142 P) (N (boot_o_7 P) L L) L)) (N (boot_o_7 P) (N (boot_o_7 P) (N (o201 P) L L) L) (N (boot_o_8 P) (N (boot_o_8 P) L L) L))))) (N (o14 P) (N (o18 P) (N (o29 P) (N (o48 P) (N (o85 P) (N (o168 P) L L) (N (boot_o_8 P) L L)) (N (boot_o_7 P) (N (o208 P) L L) L)) (N (boot_o_8 P) (N (o108 P) (N (o186 P) L L) L) (N (o149 P) (N (boot_o_7 P) L L) L))) (N (o25 P) (N (o58 P) (N (boot_o_7 P) (N (boot_o_8 P) L L) L) (N (o138 P) (N (boot_o_7 P) L L) L)) (N (boot_o_7 P) (N (o118 P) (N (o198 P) L L) L) (N (o158 P) (N (o235 P) L L) L)))) (N (o25 P) (N (boot_o_8 P) (N (o53 P) (N (o92 P) (N (boot_o_7 P) L L) L) (N (o133 P) (N (boot_o_7 P) L L) L)) (N (o71 P) (N (o113 P) (N (o192 P) L L) L) (N (boot_o_7 P) (N (boot_o_8 P) L L) L))) (N (o43 P) (N (boot_o_7 P) (N (boot_o_8 P) (N (o181 P) L L) L) (N (boot_o_8 P) (N (o222 P) L L) L)) (N (o80 P) (N (o123 P) (N (o203 P) L L) L) (N (o163 P) (N (boot_o_7 P) L L) L)))))) (N (boot_o_6 P) (N (boot_o_10 P) (N (boot_o_7 P) (N (o28 P) (N (o47 P) (N (boot_o_7 P) (N (o166 P) L L) (N (o244 P) L L)) (N (o16 P) (N (o206 P) L L) L)) (N (o66 P) (N (o106 P) (N (boot_o_7 P) L L) L) (N (boot_o_7 P) (N (o225 P) L L) L))) (N (o38 P) (N (o56 P) (N (o96 P) (N (o176 P) L L) L) (N (boot_o_7 P) (N (boot_o_8 P) L L) L)) (N (o16 P) (N (o116 P) (N (boot_o_7 P) L L) L) (N (o157 P) (N (o234 P) L L) L)))) (N (o23 P) (N (o33 P) (N (boot_o_7 P) (N (o90 P) (N (o171 P) L L) L) (N (o132 P) (N (o211 P) L L) L)) (N (boot_o_7 P) (N (boot_o_7 P) (N (o190 P) L L) L) (N (boot_o_8 P) (N (o230 P) L L) L))) (N (o42 P) (N (o61 P) (N (o101 P) (N (boot_o_7 P) L L) L) (N (o144 P) (N (o220 P) L L) L)) (N (o79 P) (N (o121 P) (N (boot_o_8 P) L L) L) (N (boot_o_7 P) (N (o239 P) L L) L))))) (N (o12 P) (N (boot_o_7 P) (N (o31 P) (N (o50 P) (N (boot_o_7 P) (N (o16 P) L L) (N (o246 P) L L)) (N (o130 P) (N (boot_o_8 P) L L) L)) (N (boot_o_7 P) (N (o110 P) (N (boot_o_7 P) L L) L) (N (o150 P) (N (o227 P) L L) L))) (N (o40 P) (N (boot_o_8 P) (N (o98 P) (N (boot_o_7 P) L L) L) (N (o140 P) (N (o218 P) L L) L)) (N (o77 P) (N (boot_o_8 P) (N (o199 P) L L) L) (N (o160 P) (N (o237 P) L L) L)))) (N (o26 P) (N (o35 P) (N (boot_o_7 P) (N (o16 P) (N (o173 P) L L) L) (N (o135 P) (N (o213 P) L L) L)) (N (o72 P) (N (boot_o_7 P) (N (o194 P) L L) L) (N (o155 P) (N (o232 P) L L) L))) (N (o45 P) (N (o63 P) (N (boot_o_7 P) (N (o183 P) L L) L) (N (boot_o_7 P) (N (boot_o_8 P) L L) L)) (N (o82 P) (N (o125 P) (N (boot_o_7 P) L L) L) (N (boot_o_7 P) (N (o241 P) L L) L))))))))
def sC0 (w : World) (os : OsState) : SharedT := ⟨tC0 w.params, 392, lifeF, Array.mk [], drawnF, 713, os⟩
def hF (P : Params) : Heap := ⟨Array.mk (boot_o_0 P :: boot_o_1 P :: boot_o_2 P :: o13 P :: boot_o_4 P :: boot_o_5 P :: boot_o_6 P :: boot_o_7 P :: boot_o_8 P :: boot_o_9 P :: boot_o_10 P :: boot_o_7 P :: 
  o14 P :: o11 P :: o12 P :: o15 P :: o16 P :: o17 P :: boot_o_7 P :: boot_o_8 P :: o18 P :: o19 P :: boot_o_7 P :: o20 P :: 
  o21 P :: o22 P :: o23 P :: o24 P :: o25 P :: o16 P :: o26 P :: boot_o_7 P :: boot_o_8 P :: o27 P :: o28 P :: boot_o_7 P :: 
  o29 P :: o30 P :: o31 P :: o32 P :: o25 P :: o16 P :: o33 P :: boot_o_7 P :: boot_o_8 P :: o34 P :: o35 P :: boot_o_7 P :: 
  o36 P :: o37 P :: o38 P :: o39 P :: o25 P :: o16 P :: o40 P :: boot_o_7 P :: boot_o_8 P :: o41 P :: o42 P :: boot_o_7 P :: 
  o43 P :: o44 P :: o45 P :: o46 P :: boot_o_7 P :: boot_o_8 P :: o47 P :: boot_o_7 P :: o48 P :: o49 P :: o50 P :: boot_o_7 P :: 
  boot_o_8 P :: o51 P :: boot_o_7 P :: o52 P :: o53 P :: o54 P :: boot_o_7 P :: boot_o_8 P :: o55 P :: boot_o_7 P :: o56 P :: o57 P :: 
  o58 P :: boot_o_7 P :: boot_o_8 P :: o59 P :: boot_o_7 P :: o60 P :: o61 P :: o62 P :: boot_o_7 P :: boot_o_8 P :: o63 P :: boot_o_7 P :: 
  o64 P :: o65 P :: o66 P :: boot_o_7 P :: boot_o_8 P :: o67 P :: boot_o_7 P :: o68 P :: o69 P :: o70 P :: boot_o_7 P :: boot_o_8 P :: 
  o71 P :: boot_o_7 P :: o72 P :: o73 P :: o74 P :: boot_o_7 P :: o16 P :: o75 P :: boot_o_7 P :: o76 P :: o77 P :: o78 P :: 
  boot_o_7 P :: boot_o_8 P :: o79 P :: boot_o_7 P :: o80 P :: o81 P :: o82 P :: boot_o_7 P :: boot_o_8 P :: o83 P :: boot_o_7 P :: o84 P :: 
  o85 P :: o86 P :: boot_o_7 P :: o87 P :: o88 P :: o89 P :: o90 P :: o91 P :: o92 P :: o93 P :: o16 P :: o94 P :: 
  boot_o_7 P :: o95 P :: o96 P :: o97 P :: boot_o_7 P :: boot_o_8 P :: o98 P :: boot_o_7 P :: o99 P :: o100 P :: o101 P :: boot_o_7 P :: 
  boot_o_8 P :: o102 P :: boot_o_7 P :: o103 P :: o104 P :: o105 P :: o106 P :: o107 P :: o108 P :: o109 P :: o110 P :: o93 P :: 
  o16 P :: o111 P :: boot_o_7 P :: o112 P :: o113 P :: o114 P :: boot_o_7 P :: boot_o_8 P :: o115 P :: boot_o_7 P :: o116 P :: o117 P :: 
  o118 P :: boot_o_7 P :: boot_o_8 P :: o119 P :: boot_o_7 P :: o120 P :: o121 P :: o122 P :: o123 P :: o124 P :: o125 P :: o126 P :: 
  o127 P :: o93 P :: o16 P :: o128 P :: boot_o_7 P :: o129 P :: o130 P :: o131 P :: boot_o_7 P :: boot_o_8 P :: o132 P :: boot_o_7 P :: 
  o133 P :: o134 P :: o135 P :: boot_o_7 P :: boot_o_8 P :: o136 P :: boot_o_7 P :: o137 P :: o138 P :: o139 P :: o140 P :: o141 P :: 
  o142 P :: o143 P :: o144 P :: boot_o_7 P :: boot_o_8 P :: o145 P :: boot_o_7 P :: o146 P :: o147 P :: o148 P :: boot_o_7 P :: boot_o_8 P :: 
  o149 P :: boot_o_7 P :: o150 P :: o151 P :: o152 P :: boot_o_7 P :: boot_o_8 P :: o153 P :: boot_o_7 P :: o154 P :: o155 P :: o156 P :: 
  boot_o_7 P :: boot_o_8 P :: o157 P :: boot_o_7 P :: o158 P :: o159 P :: o160 P :: boot_o_7 P :: boot_o_8 P :: o161 P :: boot_o_7 P :: o162 P :: 
  o163 P :: o164 P :: boot_o_7 P :: boot_o_8 P :: o165 P :: boot_o_7 P :: o166 P :: o167 P :: o168 P :: boot_o_7 P :: o16 P :: o169 P :: 
  boot_o_7 P :: o170 P :: o171 P :: o172 P :: boot_o_7 P :: boot_o_8 P :: o173 P :: boot_o_7 P :: o174 P :: o175 P :: o176 P :: boot_o_7 P :: 
  boot_o_8 P :: o177 P :: boot_o_7 P :: o178 P :: o179 P :: o180 P :: boot_o_7 P :: boot_o_8 P :: o181 P :: o182 P :: o183 P :: boot_o_7 P :: 
  boot_o_8 P :: o184 P :: boot_o_7 P :: o185 P :: o186 P :: o187 P :: boot_o_7 P :: boot_o_8 P :: o188 P :: o189 P :: o190 P :: o191 P :: 
  o192 P :: o193 P :: o194 P :: o195 P :: o196 P :: o197 P :: boot_o_7 P :: boot_o_8 P :: o198 P :: boot_o_7 P :: o199 P :: o200 P :: 
  o201 P :: boot_o_7 P :: boot_o_8 P :: o202 P :: o203 P :: o204 P :: boot_o_7 P :: boot_o_8 P :: o205 P :: boot_o_7 P :: o206 P :: o207 P :: 
  o208 P :: boot_o_7 P :: boot_o_8 P :: o209 P :: boot_o_7 P :: o210 P :: o211 P :: o212 P :: boot_o_7 P :: boot_o_8 P :: o213 P :: o214 P :: 
  o215 P :: boot_o_7 P :: boot_o_8 P :: o216 P :: boot_o_7 P :: o217 P :: o218 P :: o219 P :: boot_o_7 P :: boot_o_8 P :: o220 P :: o221 P :: 
  o222 P :: boot_o_7 P :: boot_o_8 P :: o223 P :: boot_o_7 P :: o224 P :: o225 P :: o226 P :: boot_o_7 P :: boot_o_8 P :: o227 P :: boot_o_7 P :: 
  o228 P :: o229 P :: o230 P :: boot_o_7 P :: boot_o_8 P :: o231 P :: o232 P :: o233 P :: boot_o_7 P :: boot_o_8 P :: o234 P :: boot_o_7 P :: 
  o235 P :: o236 P :: o237 P :: boot_o_7 P :: boot_o_8 P :: o238 P :: o239 P :: o240 P :: boot_o_7 P :: boot_o_8 P :: o241 P :: boot_o_7 P :: 
  o242 P :: o243 P :: o244 P :: boot_o_7 P :: boot_o_8 P :: o245 P :: o246 P :: o247 P :: []), lifeF⟩
def sF (w : World) (os : OsState) : Shared := ⟨hF w.params, Array.mk [], drawnF, 713, os⟩
def KK (P : Params) : Frag := (nat_lit 2, boot_o_2 P) :: (nat_lit 3, o13 P) :: (nat_lit 15, o15 P) :: (nat_lit 22, boot_o_7 P) :: (nat_lit 23, o20 P) :: (nat_lit 24, o21 P) :: (nat_lit 25, o22 P) :: (nat_lit 28, o25 P) :: 
  (nat_lit 35, boot_o_7 P) :: (nat_lit 36, o29 P) :: (nat_lit 37, o30 P) :: (nat_lit 40, o25 P) :: (nat_lit 47, boot_o_7 P) :: (nat_lit 48, o36 P) :: (nat_lit 49, o37 P) :: (nat_lit 52, o25 P) :: 
  (nat_lit 59, boot_o_7 P) :: (nat_lit 60, o43 P) :: (nat_lit 61, o44 P) :: (nat_lit 64, boot_o_7 P) :: (nat_lit 66, o47 P) :: (nat_lit 67, boot_o_7 P) :: (nat_lit 69, o49 P) :: (nat_lit 70, o50 P) :: 
  (nat_lit 71, boot_o_7 P) :: (nat_lit 73, o51 P) :: (nat_lit 74, boot_o_7 P) :: (nat_lit 76, o53 P) :: (nat_lit 77, o54 P) :: (nat_lit 78, boot_o_7 P) :: (nat_lit 80, o55 P) :: (nat_lit 81, boot_o_7 P) :: 
  (nat_lit 83, o57 P) :: (nat_lit 84, o58 P) :: (nat_lit 85, boot_o_7 P) :: (nat_lit 87, o59 P) :: (nat_lit 88, boot_o_7 P) :: (nat_lit 90, o61 P) :: (nat_lit 91, o62 P) :: (nat_lit 92, boot_o_7 P) :: 
  (nat_lit 94, o63 P) :: (nat_lit 95, boot_o_7 P) :: (nat_lit 97, o65 P) :: (nat_lit 98, o66 P) :: (nat_lit 99, boot_o_7 P) :: (nat_lit 101, o67 P) :: (nat_lit 102, boot_o_7 P) :: (nat_lit 104, o69 P) :: 
  (nat_lit 105, o70 P) :: (nat_lit 106, boot_o_7 P) :: (nat_lit 108, o71 P) :: (nat_lit 109, boot_o_7 P) :: (nat_lit 111, o73 P) :: (nat_lit 112, o74 P) :: (nat_lit 120, boot_o_7 P) :: (nat_lit 122, o79 P) :: 
  (nat_lit 123, boot_o_7 P) :: (nat_lit 125, o81 P) :: (nat_lit 126, o82 P) :: (nat_lit 127, boot_o_7 P) :: (nat_lit 129, o83 P) :: (nat_lit 130, boot_o_7 P) :: (nat_lit 132, o85 P) :: (nat_lit 133, o86 P) :: 
  (nat_lit 134, boot_o_7 P) :: (nat_lit 135, o87 P) :: (nat_lit 136, o88 P) :: (nat_lit 137, o89 P) :: (nat_lit 138, o90 P) :: (nat_lit 141, o93 P) :: (nat_lit 148, boot_o_7 P) :: (nat_lit 150, o98 P) :: 
  (nat_lit 151, boot_o_7 P) :: (nat_lit 153, o100 P) :: (nat_lit 154, o101 P) :: (nat_lit 155, boot_o_7 P) :: (nat_lit 157, o102 P) :: (nat_lit 158, boot_o_7 P) :: (nat_lit 160, o104 P) :: (nat_lit 161, o105 P) :: 
  (nat_lit 162, o106 P) :: (nat_lit 163, o107 P) :: (nat_lit 164, o108 P) :: (nat_lit 167, o93 P) :: (nat_lit 174, boot_o_7 P) :: (nat_lit 176, o115 P) :: (nat_lit 177, boot_o_7 P) :: (nat_lit 179, o117 P) :: 
  (nat_lit 180, o118 P) :: (nat_lit 181, boot_o_7 P) :: (nat_lit 183, o119 P) :: (nat_lit 184, boot_o_7 P) :: (nat_lit 186, o121 P) :: (nat_lit 187, o122 P) :: (nat_lit 188, o123 P) :: (nat_lit 189, o124 P) :: 
  (nat_lit 190, o125 P) :: (nat_lit 193, o93 P) :: (nat_lit 200, boot_o_7 P) :: (nat_lit 202, o132 P) :: (nat_lit 203, boot_o_7 P) :: (nat_lit 205, o134 P) :: (nat_lit 206, o135 P) :: (nat_lit 207, boot_o_7 P) :: 
  (nat_lit 209, o136 P) :: (nat_lit 210, boot_o_7 P) :: (nat_lit 212, o138 P) :: (nat_lit 213, o139 P) :: (nat_lit 214, o140 P) :: (nat_lit 215, o141 P) :: (nat_lit 216, o142 P) :: (nat_lit 219, boot_o_7 P) :: 
  (nat_lit 221, o145 P) :: (nat_lit 222, boot_o_7 P) :: (nat_lit 224, o147 P) :: (nat_lit 225, o148 P) :: (nat_lit 226, boot_o_7 P) :: (nat_lit 228, o149 P) :: (nat_lit 229, boot_o_7 P) :: (nat_lit 231, o151 P) :: 
  (nat_lit 232, o152 P) :: (nat_lit 233, boot_o_7 P) :: (nat_lit 235, o153 P) :: (nat_lit 236, boot_o_7 P) :: (nat_lit 238, o155 P) :: (nat_lit 239, o156 P) :: (nat_lit 240, boot_o_7 P) :: (nat_lit 242, o157 P) :: 
  (nat_lit 243, boot_o_7 P) :: (nat_lit 245, o159 P) :: (nat_lit 246, o160 P) :: (nat_lit 247, boot_o_7 P) :: (nat_lit 249, o161 P) :: (nat_lit 250, boot_o_7 P) :: (nat_lit 252, o163 P) :: (nat_lit 253, o164 P) :: 
  (nat_lit 254, boot_o_7 P) :: (nat_lit 256, o165 P) :: (nat_lit 257, boot_o_7 P) :: (nat_lit 259, o167 P) :: (nat_lit 260, o168 P) :: (nat_lit 268, boot_o_7 P) :: (nat_lit 270, o173 P) :: (nat_lit 271, boot_o_7 P) :: 
  (nat_lit 273, o175 P) :: (nat_lit 274, o176 P) :: (nat_lit 275, boot_o_7 P) :: (nat_lit 277, o177 P) :: (nat_lit 278, boot_o_7 P) :: (nat_lit 280, o179 P) :: (nat_lit 281, o180 P) :: (nat_lit 282, boot_o_7 P) :: 
  (nat_lit 285, o182 P) :: (nat_lit 286, o183 P) :: (nat_lit 287, boot_o_7 P) :: (nat_lit 289, o184 P) :: (nat_lit 290, boot_o_7 P) :: (nat_lit 292, o186 P) :: (nat_lit 293, o187 P) :: (nat_lit 294, boot_o_7 P) :: 
  (nat_lit 297, o189 P) :: (nat_lit 298, o190 P) :: (nat_lit 299, o191 P) :: (nat_lit 300, o192 P) :: (nat_lit 301, o193 P) :: (nat_lit 302, o194 P) :: (nat_lit 303, o195 P) :: (nat_lit 306, boot_o_7 P) :: 
  (nat_lit 308, o198 P) :: (nat_lit 309, boot_o_7 P) :: (nat_lit 311, o200 P) :: (nat_lit 312, o201 P) :: (nat_lit 313, boot_o_7 P) :: (nat_lit 316, o203 P) :: (nat_lit 317, o204 P) :: (nat_lit 318, boot_o_7 P) :: 
  (nat_lit 320, o205 P) :: (nat_lit 321, boot_o_7 P) :: (nat_lit 323, o207 P) :: (nat_lit 324, o208 P) :: (nat_lit 325, boot_o_7 P) :: (nat_lit 327, o209 P) :: (nat_lit 328, boot_o_7 P) :: (nat_lit 330, o211 P) :: 
  (nat_lit 331, o212 P) :: (nat_lit 332, boot_o_7 P) :: (nat_lit 335, o214 P) :: (nat_lit 336, o215 P) :: (nat_lit 337, boot_o_7 P) :: (nat_lit 339, o216 P) :: (nat_lit 340, boot_o_7 P) :: (nat_lit 342, o218 P) :: 
  (nat_lit 343, o219 P) :: (nat_lit 344, boot_o_7 P) :: (nat_lit 347, o221 P) :: (nat_lit 348, o222 P) :: (nat_lit 349, boot_o_7 P) :: (nat_lit 351, o223 P) :: (nat_lit 352, boot_o_7 P) :: (nat_lit 354, o225 P) :: 
  (nat_lit 355, o226 P) :: (nat_lit 356, boot_o_7 P) :: (nat_lit 358, o227 P) :: (nat_lit 359, boot_o_7 P) :: (nat_lit 361, o229 P) :: (nat_lit 362, o230 P) :: (nat_lit 363, boot_o_7 P) :: (nat_lit 366, o232 P) :: 
  (nat_lit 367, o233 P) :: (nat_lit 368, boot_o_7 P) :: (nat_lit 370, o234 P) :: (nat_lit 371, boot_o_7 P) :: (nat_lit 373, o236 P) :: (nat_lit 374, o237 P) :: (nat_lit 375, boot_o_7 P) :: (nat_lit 378, o239 P) :: 
  (nat_lit 379, o240 P) :: (nat_lit 380, boot_o_7 P) :: (nat_lit 382, o241 P) :: (nat_lit 383, boot_o_7 P) :: (nat_lit 385, o243 P) :: (nat_lit 386, o244 P) :: (nat_lit 387, boot_o_7 P) :: (nat_lit 390, o246 P) :: 
  (nat_lit 391, o247 P) :: []
def keysK : List Addr := 2 :: 3 :: 15 :: 22 :: 23 :: 24 :: 25 :: 28 :: 35 :: 36 :: 37 :: 40 :: 47 :: 48 :: 49 :: 52 :: 59 :: 60 :: 61 :: 64 :: 66 :: 67 :: 69 :: 70 :: 
  71 :: 73 :: 74 :: 76 :: 77 :: 78 :: 80 :: 81 :: 83 :: 84 :: 85 :: 87 :: 88 :: 90 :: 91 :: 92 :: 94 :: 95 :: 97 :: 98 :: 99 :: 101 :: 102 :: 104 :: 
  105 :: 106 :: 108 :: 109 :: 111 :: 112 :: 120 :: 122 :: 123 :: 125 :: 126 :: 127 :: 129 :: 130 :: 132 :: 133 :: 134 :: 135 :: 136 :: 137 :: 138 :: 141 :: 148 :: 150 :: 
  151 :: 153 :: 154 :: 155 :: 157 :: 158 :: 160 :: 161 :: 162 :: 163 :: 164 :: 167 :: 174 :: 176 :: 177 :: 179 :: 180 :: 181 :: 183 :: 184 :: 186 :: 187 :: 188 :: 189 :: 
  190 :: 193 :: 200 :: 202 :: 203 :: 205 :: 206 :: 207 :: 209 :: 210 :: 212 :: 213 :: 214 :: 215 :: 216 :: 219 :: 221 :: 222 :: 224 :: 225 :: 226 :: 228 :: 229 :: 231 :: 
  232 :: 233 :: 235 :: 236 :: 238 :: 239 :: 240 :: 242 :: 243 :: 245 :: 246 :: 247 :: 249 :: 250 :: 252 :: 253 :: 254 :: 256 :: 257 :: 259 :: 260 :: 268 :: 270 :: 271 :: 
  273 :: 274 :: 275 :: 277 :: 278 :: 280 :: 281 :: 282 :: 285 :: 286 :: 287 :: 289 :: 290 :: 292 :: 293 :: 294 :: 297 :: 298 :: 299 :: 300 :: 301 :: 302 :: 303 :: 306 :: 
  308 :: 309 :: 311 :: 312 :: 313 :: 316 :: 317 :: 318 :: 320 :: 321 :: 323 :: 324 :: 325 :: 327 :: 328 :: 330 :: 331 :: 332 :: 335 :: 336 :: 337 :: 339 :: 340 :: 342 :: 
  343 :: 344 :: 347 :: 348 :: 349 :: 351 :: 352 :: 354 :: 355 :: 356 :: 358 :: 359 :: 361 :: 362 :: 363 :: 366 :: 367 :: 368 :: 370 :: 371 :: 373 :: 374 :: 375 :: 378 :: 
  379 :: 380 :: 382 :: 383 :: 385 :: 386 :: 387 :: 390 :: 391 :: []
def loose : List Str := Str.ofString "JugError" :: Str.ofString "BadHouse" :: Str.ofString "BadState" :: Str.ofString "BadMove" :: Str.ofString "MOST_JUGS" :: Str.ofString "MOST_SIZE" :: Str.ofString "is_number" :: Str.ofString "is_jug" :: 
  Str.ofString "held_in" :: Str.ofString "check_jug" :: Str.ofString "check_house_has" :: Str.ofString "check_house_can_tap" :: Str.ofString "with_amount" :: Str.ofString "Move" :: Str.ofString "Pour" :: Str.ofString "Fill" :: 
  Str.ofString "Empty" :: Str.ofString "moves_in" :: Str.ofString "done_all" :: Str.ofString "MOST_STATES" :: Str.ofString "sizes_in" :: Str.ofString "count_states" :: Str.ofString "pours_among" :: Str.ofString "with_one_more" :: 
  Str.ofString "House" :: Str.ofString "move_text" :: Str.ofString "routine_text" :: Str.ofString "_law_cell_at" :: Str.ofString "_law_draw" :: Str.ofString "_law_sizes" :: Str.ofString "_law_state" :: Str.ofString "_law_all_moves" :: 
  Str.ofString "_law_behind" :: Str.ofString "_law_told" :: Str.ofString "_law_states" :: Str.ofString "_law_sorts" :: Str.ofString "_law_whole" :: Str.ofString "_law_all_right" :: []
def env : Env := { scope := pg.main.scope, locals := mainNs, globals := mainNs, cells := [], code := (.ref 13), frame := some 14 }
abbrev cE : Code := .body (behindTheImports pg) env
abbrev pos0 : Pos := (.mk 0 0 0 0)
abbrev posB : Pos := (.mk 0 0 0 0)
abbrev posQ : Pos := (.mk 0 0 0 0)
abbrev ann : Option Value := (some (.ref 6))

abbrev s0 (w : World) (os : OsState) : Shared := ⟨boot_heap w.params, Array.mk [], boot_drawn, boot_toks, os⟩
theorem pre_ (w : World) (os : OsState) : topGo treeTable pg w 11 ann 12 (s0 w os) (topStub pg) = some (sA w os, ⟨denote treeTable cE, cE, pos0, [topFrame posQ]⟩) := by
  rewrite [Fast.te15667345088766844465, Fast.te14364793385576792824, Fast.te11892475500146522536]
  kernel_rfl
theorem block_ (w : World) (os : OsState) : segRun treeTable pg w 11 ann 1 1 (sA w os) (blockOf (behindTheImports pg) env cE pos0 [topFrame posQ]) = some (.next, (sB w os).abs, cE, posB) := by
  rewrite [Fast.te14374325043358763698, Fast.te14364793385576792824]
  kernel_rfl
abbrev pos_0 : Pos := (.mk 232 0 263 94)
theorem run_0 (w : World) (os : OsState) : segRunT treeTable pg w 11 ann 1 3165 (sB w os) (piecesOf (behindTheImports pg) env cE posB [topFrame posQ]) = some (.next, sC0 w os, cE, pos_0) := by
  rewrite [Fast.te10110043849684766642, Fast.te14364793385576792824]
  kernel_rfl
theorem fin_ (w : World) (os : OsState) : topRun treeTable pg w 11 ann 2 (sC0 w os).abs ⟨doneF .next, cE, pos_0, [topFrame posQ]⟩ = some (sF w os) := by
  rewrite [Fast.te14082659384304107361, Fast.te14364793385576792824]
  kernel_rfl
theorem top_ (w : World) (os : OsState) : topRun treeTable pg w 11 ann (12 + (1 + (3165 + 2))) (s0 w os) (topStub pg) = some (sF w os) := by
  refine go_top (pre_ w os) (piece_block (block_ w os) ?_)
  have h := piece_app (segRun_of (run_0 w os)) (piece_nil (fin_ w os))
  rwa [List.append_nil] at h
def qq : Program := { pg with main := { pg.main with body := [st 44] } }
theorem keys_ (P : Params) : keysK = (KK P).map (·.1) := by kernel_rfl
theorem open_ : ∀ w : World, (fencedOpening treeTable pg w 6454).map (fun s => (s.heap, s.gens, s.drawn, s.toks)) = some (boot_heap w.params, Array.mk [], boot_drawn, boot_toks) :=
  boot_open (by kernel_rfl) (by decide) (fun s => by kernel_rfl)
theorem size_ (w : World) : ((boot_heap w.params).isNs mainGlobals && (Array.mk [] : Array GenState).size == 0, (boot_heap w.params).objs.size, (boot_heap w.params).nsMap mainGlobals "__annotations__") = (true, 11, ann) := by kernel_rfl
abbrev rr : RowW := OpenRow.toRowW (OpenLaw.row PySem.Challenge.rw_jughouse_k01_moves)
def Xt (s : Shared) : Bool := xlAt qq [] s && recOk (RowW.records rr) s
theorem look1 (w : World) (os : OsState) : (staticsOk (importedModules pg.main.body) (boot_heap w.params) (hF w.params) && namesBound pg (hF w.params) && gensDone (sF w os) && laidKept (boot_heap w.params) (hF w.params)) = true := by kernel_rfl
theorem look2 (w : World) (os : OsState) : openSeen qq loose (importedModules pg.main.body) Xt true (sF w os) = openGood qq loose := by
  rewrite [Fast.te4187177175401517315]
  kernel_rfl
theorem look3 (w : World) (os : OsState) : Hook.obs (kHook KK keysK keys_) (sF w os) = Hook.val (kHook KK keysK keys_) w := by kernel_rfl
theorem left_ : LeftO pg qq loose Xt (Hook.obs (kHook KK keysK keys_)) (Hook.val (kHook KK keysK keys_)) 6454 :=
  LeftO.of_pieces open_ size_ top_ (by decide) (fun w => funext fun os => looks_pair (look1 w os) (looks_pair (look2 w os) (look3 w os)))
end Hd
end
open PySem PySem.W PyProof.Rows
set_option maxRecDepth 100000 in
set_option maxHeartbeats 0 in
theorem PySem.Challenge.cw_jughouse_k01_moves_holds : PySem.Challenge.rw_jughouse_k01_moves.Holds := by
  w_on; o_law
  refine holds_open (N := 6454)
    (q := Hd.qq) (loose := Hd.loose) (Xt := Hd.Xt)
    (XP := XL Hd.qq []) (YP := Hook.says (kHook Hd.KK Hd.keysK Hd.keys_))
    Hd.left_ (Hook.of (kHook Hd.KK Hd.keysK Hd.keys_)) (Hook.keeps (kHook Hd.KK Hd.keysK Hd.keys_))
    (fun s e => xl_of s (Bool.and_eq_true_iff.mp e).1)
    XL.keeps (by rfl) (by rfl) (by rfl)
    (fun s e => recFacts_of (Bool.and_eq_true_iff.mp e).2)
    (by rfl) (by assumption) (by decide +kernel)
    ⟨rfl, rfl, rfl, rfl, rfl, by decide +kernel⟩ ?hw ?hc
  (case hw => w_witness2)
  k_fill
  refine Jug.walk (l := PySem.Challenge.rw_jughouse_k01_moves) rfl rfl (fun w h Y => PySem.W.kIn_of Y) ?F
  case F =>
    intro w mg fa h KX G hmg
    refine' Jug.all_mk KX G hmg ?z_isinstance ?z_int ?z_bool ?z_tuple ?z_list ?z_len ?z_zip ?z_range ?z_min ?z_str ?z_any ?z_MOST_JUGS ?z_MOST_SIZE ?z_MOST_STATES ?a_Pour ?pg_Pour ?hd_Pour ?po_Pour ?sa_Pour ?mk_Pour ?kc_Pour ?n_Pour_one ?n_Pour_other ?ha_Pour ?hm_Pour ?a_Fill ?pg_Fill ?hd_Fill ?po_Fill ?sa_Fill ?mk_Fill ?kc_Fill ?n_Fill_jug ?ha_Fill ?hm_Fill ?a_Empty ?pg_Empty ?hd_Empty ?po_Empty ?sa_Empty ?mk_Empty ?kc_Empty ?n_Empty_jug ?ha_Empty ?hm_Empty ?a_House ?pg_House ?hd_House ?po_House ?sa_House ?mk_House ?kc_House ?n_House_jug_sizes ?n_House_tap ?a_Move ?pg_Move ?hd_Move ?po_Move ?sa_Move ?hn ?htk ?k_Fill_Pour ?k_Empty_Pour ?k_Empty_Fill ?k_Pour_Fill ?k_Pour_Empty ?k_Fill_Empty ?k_Pour_Move ?k_Fill_Move ?k_Empty_Move ?a_is_number ?l_is_number ?c_is_number ?kp_is_number ?a_is_jug ?l_is_jug ?c_is_jug ?kp_is_jug ?a_sizes_House ?i_sizes ?l_sizes ?c_sizes ?kp_sizes ?a_held_in ?l_held_in ?c_held_in ?kp_held_in ?a_with_amount ?l_with_amount ?c_with_amount ?kp_with_amount ?a_check_jug ?l_check_jug ?c_check_jug ?kp_check_jug ?a_check_house_has ?l_check_house_has ?c_check_house_has ?kp_check_house_has ?a_check_house_can_tap ?l_check_house_can_tap ?c_check_house_can_tap ?kp_check_house_can_tap ?a_Pi_Pour ?i_Pi ?l_Pi ?c_Pi ?kp_Pi ?a_Fi_Fill ?i_Fi ?l_Fi ?c_Fi ?kp_Fi ?a_Ei_Empty ?i_Ei ?l_Ei ?c_Ei ?kp_Ei ?a_Ph_Pour ?i_Ph ?l_Ph ?c_Ph ?kp_Ph ?a_Fh_Fill ?i_Fh ?l_Fh ?c_Fh ?kp_Fh ?a_Eh_Empty ?i_Eh ?l_Eh ?c_Eh ?kp_Eh ?a_done_Pour ?a_done_Fill ?a_done_Empty ?i_done ?l_done ?c_done ?kp_done ?a_moves_in ?l_moves_in ?c_moves_in ?kp_moves_in ?a_done_all ?l_done_all ?c_done_all ?kp_done_all ?a_count_states ?l_count_states ?c_count_states ?kp_count_states ?a_sizes_in ?l_sizes_in ?c_sizes_in ?kp_sizes_in ?a_Hi_House ?i_Hi ?l_Hi ?c_Hi ?kp_Hi ?a_empty_House ?i_empty ?l_empty ?c_empty ?kp_empty ?a_pours_among ?l_pours_among ?c_pours_among ?kp_pours_among ?a_with_one_more ?l_with_one_more ?c_with_one_more ?kp_with_one_more ?a_states_House ?i_states ?l_states ?c_states ?kp_states ?a_moves_House ?i_moves ?l_moves ?c_moves ?kp_moves ?a_move_text ?l_move_text ?c_move_text ?kp_move_text ?a_routine_text ?l_routine_text ?c_routine_text ?kp_routine_text ?a_cell_at ?l_cell_at ?c_cell_at ?kp_cell_at ?a_draw ?l_draw ?c_draw ?kp_draw ?a_lsizes ?l_lsizes ?c_lsizes ?kp_lsizes ?a_lstate ?l_lstate ?c_lstate ?kp_lstate ?a_all_moves ?l_all_moves ?c_all_moves ?kp_all_moves ?a_behind ?l_behind ?c_behind ?kp_behind ?a_told ?l_told ?c_told ?kp_told ?a_lstates ?l_lstates ?c_lstates ?kp_lstates ?a_sorts ?l_sorts ?c_sorts ?kp_sorts ?a_whole ?l_whole ?c_whole ?kp_whole ?a_all_right ?l_all_right ?c_all_right ?kp_all_right ?a_law ?l_law ?c_law ?kp_law
    (case z_isinstance => k_is)
    (case z_int => k_is)
    (case z_bool => k_is)
    (case z_tuple => k_is)
    (case z_list => k_is)
    (case z_len => k_is)
    (case z_zip => k_is)
    (case z_range => k_is)
    (case z_min => k_is)
    (case z_str => k_is)
    (case z_any => k_is)
    (case z_MOST_JUGS => k_is)
    (case z_MOST_SIZE => k_is)
    (case z_MOST_STATES => k_is)
    (case a_Pour => k_is)
    (case pg_Pour => k_is)
    (case hd_Pour => k_is)
    (case po_Pour => k_is)
    (case sa_Pour => k_is)
    (case mk_Pour => k_is)
    (case kc_Pour => k_is)
    (case n_Pour_one => k_is)
    (case n_Pour_other => k_is)
    (case ha_Pour => k_is)
    (case hm_Pour => k_is)
    (case a_Fill => k_is)
    (case pg_Fill => k_is)
    (case hd_Fill => k_is)
    (case po_Fill => k_is)
    (case sa_Fill => k_is)
    (case mk_Fill => k_is)
    (case kc_Fill => k_is)
    (case n_Fill_jug => k_is)
    (case ha_Fill => k_is)
    (case hm_Fill => k_is)
    (case a_Empty => k_is)
    (case pg_Empty => k_is)
    (case hd_Empty => k_is)
    (case po_Empty => k_is)
    (case sa_Empty => k_is)
    (case mk_Empty => k_is)
    (case kc_Empty => k_is)
    (case n_Empty_jug => k_is)
    (case ha_Empty => k_is)
    (case hm_Empty => k_is)
    (case a_House => k_is)
    (case pg_House => k_is)
    (case hd_House => k_is)
    (case po_House => k_is)
    (case sa_House => k_is)
    (case mk_House => k_is)
    (case kc_House => k_is)
    (case n_House_jug_sizes => k_is)
    (case n_House_tap => k_is)
    (case a_Move => k_is)
    (case pg_Move => k_is)
    (case hd_Move => k_is)
    (case po_Move => k_is)
    (case sa_Move => k_is)
    (case hn => k_is)
    (case htk => k_is)
    (case k_Fill_Pour => kit_is)
    (case k_Empty_Pour => kit_is)
    (case k_Empty_Fill => kit_is)
    (case k_Pour_Fill => kit_is)
    (case k_Pour_Empty => kit_is)
    (case k_Fill_Empty => kit_is)
    (case k_Pour_Move => kit_is)
    (case k_Fill_Move => kit_is)
    (case k_Empty_Move => kit_is)
    (case a_is_number => k_is)
    (case l_is_number => k_is)
    (case c_is_number => k_is)
    (case kp_is_number => k_is)
    (case a_is_jug => k_is)
    (case l_is_jug => k_is)
    (case c_is_jug => k_is)
    (case kp_is_jug => k_is)
    (case a_sizes_House => k_is)
    (case i_sizes => k_is)
    (case l_sizes => k_is)
    (case c_sizes => k_is)
    (case kp_sizes => k_is)
    (case a_held_in => k_is)
    (case l_held_in => k_is)
    (case c_held_in => k_is)
    (case kp_held_in => k_is)
    (case a_with_amount => k_is)
    (case l_with_amount => k_is)
    (case c_with_amount => k_is)
    (case kp_with_amount => k_is)
    (case a_check_jug => k_is)
    (case l_check_jug => k_is)
    (case c_check_jug => k_is)
    (case kp_check_jug => k_is)
    (case a_check_house_has => k_is)
    (case l_check_house_has => k_is)
    (case c_check_house_has => k_is)
    (case kp_check_house_has => k_is)
    (case a_check_house_can_tap => k_is)
    (case l_check_house_can_tap => k_is)
    (case c_check_house_can_tap => k_is)
    (case kp_check_house_can_tap => k_is)
    (case a_Pi_Pour => k_is)
    (case i_Pi => k_is)
    (case l_Pi => k_is)
    (case c_Pi => k_is)
    (case kp_Pi => k_is)
    (case a_Fi_Fill => k_is)
    (case i_Fi => k_is)
    (case l_Fi => k_is)
    (case c_Fi => k_is)
    (case kp_Fi => k_is)
    (case a_Ei_Empty => k_is)
    (case i_Ei => k_is)
    (case l_Ei => k_is)
    (case c_Ei => k_is)
    (case kp_Ei => k_is)
    (case a_Ph_Pour => k_is)
    (case i_Ph => k_is)
    (case l_Ph => k_is)
    (case c_Ph => k_is)
    (case kp_Ph => k_is)
    (case a_Fh_Fill => k_is)
    (case i_Fh => k_is)
    (case l_Fh => k_is)
    (case c_Fh => k_is)
    (case kp_Fh => k_is)
    (case a_Eh_Empty => k_is)
    (case i_Eh => k_is)
    (case l_Eh => k_is)
    (case c_Eh => k_is)
    (case kp_Eh => k_is)
    (case a_done_Pour => k_is)
    (case a_done_Fill => k_is)
    (case a_done_Empty => k_is)
    (case i_done => k_is)
    (case l_done => k_is)
    (case c_done => k_is)
    (case kp_done => k_is)
    (case a_moves_in => k_is)
    (case l_moves_in => k_is)
    (case c_moves_in => k_is)
    (case kp_moves_in => k_is)
    (case a_done_all => k_is)
    (case l_done_all => k_is)
    (case c_done_all => k_is)
    (case kp_done_all => k_is)
    (case a_count_states => k_is)
    (case l_count_states => k_is)
    (case c_count_states => k_is)
    (case kp_count_states => k_is)
    (case a_sizes_in => k_is)
    (case l_sizes_in => k_is)
    (case c_sizes_in => k_is)
    (case kp_sizes_in => k_is)
    (case a_Hi_House => k_is)
    (case i_Hi => k_is)
    (case l_Hi => k_is)
    (case c_Hi => k_is)
    (case kp_Hi => k_is)
    (case a_empty_House => k_is)
    (case i_empty => k_is)
    (case l_empty => k_is)
    (case c_empty => k_is)
    (case kp_empty => k_is)
    (case a_pours_among => k_is)
    (case l_pours_among => k_is)
    (case c_pours_among => k_is)
    (case kp_pours_among => k_is)
    (case a_with_one_more => k_is)
    (case l_with_one_more => k_is)
    (case c_with_one_more => k_is)
    (case kp_with_one_more => k_is)
    (case a_states_House => k_is)
    (case i_states => k_is)
    (case l_states => k_is)
    (case c_states => k_is)
    (case kp_states => k_is)
    (case a_moves_House => k_is)
    (case i_moves => k_is)
    (case l_moves => k_is)
    (case c_moves => k_is)
    (case kp_moves => k_is)
    (case a_move_text => k_is)
    (case l_move_text => k_is)
    (case c_move_text => k_is)
    (case kp_move_text => k_is)
    (case a_routine_text => k_is)
    (case l_routine_text => k_is)
    (case c_routine_text => k_is)
    (case kp_routine_text => k_is)
    (case a_cell_at => k_is)
    (case l_cell_at => k_is)
    (case c_cell_at => k_is)
    (case kp_cell_at => k_is)
    (case a_draw => k_is)
    (case l_draw => k_is)
    (case c_draw => k_is)
    (case kp_draw => k_is)
    (case a_lsizes => k_is)
    (case l_lsizes => k_is)
    (case c_lsizes => k_is)
    (case kp_lsizes => k_is)
    (case a_lstate => k_is)
    (case l_lstate => k_is)
    (case c_lstate => k_is)
    (case kp_lstate => k_is)
    (case a_all_moves => k_is)
    (case l_all_moves => k_is)
    (case c_all_moves => k_is)
    (case kp_all_moves => k_is)
    (case a_behind => k_is)
    (case l_behind => k_is)
    (case c_behind => k_is)
    (case kp_behind => k_is)
    (case a_told => k_is)
    (case l_told => k_is)
    (case c_told => k_is)
    (case kp_told => k_is)
    (case a_lstates => k_is)
    (case l_lstates => k_is)
    (case c_lstates => k_is)
    (case kp_lstates => k_is)
    (case a_sorts => k_is)
    (case l_sorts => k_is)
    (case c_sorts => k_is)
    (case kp_sorts => k_is)
    (case a_whole => k_is)
    (case l_whole => k_is)
    (case c_whole => k_is)
    (case kp_whole => k_is)
    (case a_all_right => k_is)
    (case l_all_right => k_is)
    (case c_all_right => k_is)
    (case kp_all_right => k_is)
    (case a_law => k_is)
    (case l_law => k_is)
    (case c_law => k_is)
    (case kp_law => k_is)

