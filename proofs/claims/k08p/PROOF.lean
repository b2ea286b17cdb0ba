import PyProof.Rows.All
import Wide.All
import OpenK.AllK
import Wide.FinOn
import Lean
import PyProof.EqAt
import PyProof.EqKinds
import PyProof.TupleCall
import PyProof.NeKinds
import PyProof.Rows.ZipGen
import KE.KIntText
import PyProof.ListRange
import KE.LcSums
import PyProof.Rows.SetFrom
import PyProof.SetRoads
import OpenK.KOwn
import KE.KIsAll
import PyProof.ExcAttrAll.ValueError
import KE.KNest
import KE.KLam
import KE.KNestM
import KE.KDictList
import KE.KDictSum
import KE.KRevIter
import KE.KRangeStep
import KE.KSorted
import KE.KItemsList
import PyProof.Rows.MinMaxN
import PyProof.Rows.Range3
import KE.KSortAsk
import KE.KSortTup
import PySem.Challenge.RW_jughouse_k08_refused
set_option Elab.async false
set_option linter.all false
set_option maxRecDepth 100000
namespace L2
open PySem PySem.Spec PyProof.Rows
abbrev Key := Sum Int Str
def vI : Key → Value → Bool
 | .inl k, v => Value.isInt k v
 | .inr x, v => Value.isStrOf x v
def bF3 (w : World) : Key → Int
 | .inl k => hashInt k
 | .inr x => hashStr w x
theorem dN : ∀ {k : Key} {v : Value}, vI k v = true → (∃ i t, k = Sum.inl i ∧ v = Value.int i t) ∨ (∃ x t, k = Sum.inr x ∧ v = Value.str x t)
 | .inl i, v, h => by
   obtain ⟨t, e⟩ := Value.isInt_shape (k := i) (v := v) h
   exact .inl ⟨i, t, rfl, e⟩
 | .inr x, v, h => by
   obtain ⟨t, e⟩ := Value.isStrOf_shape (x := x) (v := v) h
   exact .inr ⟨x, t, rfl, e⟩
theorem aH2 (i : Int) (t : Tok) : vI (.inl i) (.int i t) = true := by simp [vI, Value.isInt]
theorem aH1 (x : Str) (t : Tok) : vI (.inr x) (.str x t) = true := by simp [vI, Value.isStrOf]
theorem aZ3 (a b : Int) : decide ((Sum.inl a : Key) = Sum.inl b) = (a == b) := by
 by_cases e : a = b
 · subst e; simp
 · have h : ¬ (Sum.inl a : Key) = Sum.inl b := fun q => e (Sum.inl.inj q)
   rw [decide_eq_false h]
   exact (beq_eq_false_iff_ne.mpr e).symm
theorem aZ0 (a b : Str) : decide ((Sum.inr a : Key) = Sum.inr b) = decide (a = b) := by
 by_cases e : a = b
 · subst e; simp
 · have h : ¬ (Sum.inr a : Key) = Sum.inr b := fun q => e (Sum.inr.inj q)
   rw [decide_eq_false h, decide_eq_false e]
theorem aZ2 (a : Int) (b : Str) : decide ((Sum.inl a : Key) = Sum.inr b) = false := decide_eq_false (fun q => nomatch q)
theorem aZ1 (a : Str) (b : Int) : decide ((Sum.inr a : Key) = Sum.inl b) = false := decide_eq_false (fun q => nomatch q)
def dM (prog : Program) (w : World) : PySem.KeyKind prog w Key where
 is := vI
 hash := bF3 w
 inj := fun v a b ha hb => by
   rcases dN ha with ⟨i, t, rfl, rfl⟩ | ⟨x, t, rfl, rfl⟩
   · rcases dN hb with ⟨j, u, rfl, e⟩ | ⟨y, u, rfl, e⟩
     · injection e with e1 _; rw [e1]
     · exact nomatch e
   · rcases dN hb with ⟨j, u, rfl, e⟩ | ⟨y, u, rfl, e⟩
     · exact nomatch e
     · injection e with e1 _; rw [e1]
 byValue := fun k v h => by
   rcases dN h with ⟨i, t, rfl, rfl⟩ | ⟨x, t, rfl, rfl⟩ <;> rfl
 pyHash := fun hv h => by
   rcases dN hv with ⟨i, t, rfl, rfl⟩ | ⟨x, t, rfl, rfl⟩
   · exact wpAny_pyHash_int h
   · exact wpAny_pyHash_str h
 eqBool := fun hu hv h => by
   rcases dN hu with ⟨i, t, rfl, rfl⟩ | ⟨x, t, rfl, rfl⟩
   · rcases dN hv with ⟨j, u, rfl, rfl⟩ | ⟨y, u, rfl, rfl⟩
     · rw [aZ3] at h; exact wpAny_eqBool_int h
     · rw [aZ2] at h; exact SeqAt.EqAt.int_str i t y u _ _ _ _ h
   · rcases dN hv with ⟨j, u, rfl, rfl⟩ | ⟨y, u, rfl, rfl⟩
     · rw [aZ1] at h; exact SeqAt.EqAt.str_int x t j u _ _ _ _ h
     · rw [aZ0] at h; exact wpAny_eqBool_str h
 «strs» := fun k x t v h => by
   rcases dN h with ⟨i, u, rfl, e⟩ | ⟨y, u, rfl, e⟩
   · exact nomatch e
   · injection e with e1 _
     subst e1
     cases v <;> rfl
theorem yR (prog : Program) (w : World) (i : Int) (t : Tok) : (dM prog w).is (.inl i) (.int i t) = true := aH2 i t
theorem yQ (prog : Program) (w : World) (x : Str) (t : Tok) : (dM prog w).is (.inr x) (.str x t) = true := aH1 x t
end L2
namespace L2
open PySem PySem.Spec PyProof.Rows
inductive V where
 | non | bl (b : Bool) | int (i : Int) | str (x : Str) | byt (b : Array UInt8) | flt (b : UInt64) | ref (a : Addr) | ty (n : String)
 deriving DecidableEq
def bY : V → Value → Prop
 | .non, u => u = Value.none
 | .bl b, u => u = Value.bool b
 | .int i, u => ∃ t, u = Value.int i t
 | .str x, u => ∃ t, u = Value.str x t
 | .byt b, u => ∃ t, u = Value.bytes b t
 | .flt b, u => ∃ t, u = Value.float b t
 | .ref a, u => u = Value.ref a
 | .ty n, u => u = Value.type n
abbrev Vals : List V → List Value → Prop := Paired bY
theorem Vals.length {xs : List V} {us : List Value} (r : Vals xs us) : xs.length = us.length := Paired.length r
theorem Vals.get : ∀ {xs : List V} {us : List Value} {i : Nat} {x : V}, Vals xs us → xs[i]? = some x → ∃ u, us[i]? = some u ∧ bY x u
 | _, _, _, _, .nil, e => by simp at e
 | _, _, 0, _, .cons r _, e => by simp at e; subst e; exact ⟨_, rfl, r⟩
 | _, _, i + 1, x, .cons _ t, e => by
   obtain ⟨u, h1, h2⟩ := Vals.get (i := i) (x := x) t (by simpa using e)
   exact ⟨u, by simpa using h1, h2⟩
theorem Vals.set {x : V} {u : Value} (r : bY x u) : ∀ {xs : List V} {us : List Value} (i : Nat), Vals xs us → Vals (xs.set i x) (us.set i u)
 | _, _, _, .nil => .nil
 | _, _, 0, .cons _ t => .cons r t
 | _, _, i + 1, .cons q t => .cons q (Vals.set r i t)
theorem Vals.append : ∀ {xs ys : List V} {us ws : List Value}, Vals xs us → Vals ys ws → Vals (xs ++ ys) (us ++ ws)
 | _, _, _, _, .nil, s => s
 | _, _, _, _, .cons r t, s => .cons r (Vals.append t s)
def oY : Option V → Option Value → Prop
 | some v, some u => bY v u
 | none, none => True
 | _, _ => False
def KV {κ : Type} : List (κ × V) → List (κ × Value) → Prop := Paired fun (p : κ × V) (q : κ × Value) => p.1 = q.1 ∧ bY p.2 q.2
def kV : Key → V
 | .inl i => .int i
 | .inr x => .str x
inductive HO where
 | lst (xs : List V)
 | tup (xs : List V)
 | dK (kvs : List (Key × V)) | dT (kvs : List (List Key × V))
 | set (S : Int → Bool) (n : Nat)
 | ins (C dx : Addr) (fs : List (Str × V))
 | own (x : Addr)
 | xd (fs : List (Str × V))
 | met (f x : Addr)
 | rng (lo hi : Int)
 | frz (o : Obj) (u : HO)
 | tbl (ps : Array Value)
 | ext (φ : Heap → Prop)
abbrev Hp := Addr → Option HO
def upd (H : Hp) (a : Addr) (o : HO) : Hp := fun b => if b = a then some o else H b
theorem aD {H : Hp} {a : Addr} {o : HO} : upd H a o a = some o := by unfold upd; rw [if_pos rfl]
theorem aI {H : Hp} {a b : Addr} {o : HO} (h : b ≠ a) : upd H a o b = H b := by unfold upd; rw [if_neg h]
theorem aR3 {H : Hp} {a : Addr} {o u : HO} : upd (upd H a o) a u = upd H a u := by
 funext b; unfold upd; split <;> rfl
theorem yM {H : Hp} {a b : Addr} {o u : HO} (h : H a = some o) (h' : H b = some u) (d : o ≠ u) : a ≠ b := by
 intro e; subst e; rw [h] at h'; exact d (Option.some.inj h')
theorem aJ {H : Hp} {a b : Addr} {o : HO} (h : H a = some o) (h' : H b = none) : a ≠ b := by
 intro e; subst e; rw [h] at h'; cases h'
section
variable (P : Program) (w : World)
def bN (H : Hp) (h : Heap) (a : Addr) : HO → Prop
 | .lst xs => xs.length ≤ sizeLine ∧ ∃ (its : List Value) (n : Nat), Vals xs its ∧ h.get? a = some { cls := .type "list", data := .seq its.toArray n }
 | .tup xs => xs.length ≤ sizeLine ∧ ∃ its : List Value, Vals xs its ∧ IsTup h a its.toArray
 | .dK kvs => kvs.length ≤ sizeLine ∧ (a == sysModules) = false ∧ ∃ vs, KV kvs vs ∧ h.DictOf (dM P w) a vs
 | .dT kvs => kvs.length ≤ sizeLine ∧ (a == sysModules) = false ∧ ∃ xs : List (List Key × Addr × Value),
     Paired (fun (p : List Key × V) (q : List Key × Addr × Value) => p.1 = q.1 ∧ H q.2.1 = some (.tup (p.1.map kV)) ∧ bY p.2 q.2.2) kvs xs ∧
     ∃ o es ep, h.get? a = some o ∧ o.ExactDict ∧ o.data = .dict es ep ∧ es.toList = xs.map (entryOfKey (tupleKind (dM P w))) ∧ (xs.map (·.1)).Nodup
 | .set S n => h.SetOf (intKind P w) a S n
 | .ins C dx fs => H dx = some (.own a) ∧ fs.length ≤ 1000 ∧ dx ≠ a ∧ h.get? a = some (W.instObj C dx) ∧
     ∃ mA, h.Ns1 dx mA ∧ (∀ f, oY (fs.lookup f) (mA f)) ∧ PySem.Within mA (fs.map (·.1))
 | .own _ => ∃ o, h.get? a = some o
 | .xd fs => ∃ mA, h.Ns1 a mA ∧ ∀ f, oY (fs.lookup f) (mA f)
 | .rng lo hi => ∃ t u v, h.get? a = some { cls := .type "range", data := .fields #[.int lo t, .int hi u, .int 1 v] }
 | .frz o u => h.get? a = some o ∧ bN H h a u
 | .tbl ps => h.get? a = some { cls := .none, data := .fields ps }
 | .met f x => h.get? a = some (W.methodObj (.ref f) (.ref x))
 | .ext φ => φ h ∧ (∃ o, h.get? a = some o) ∧ ∀ h1 h2 : Heap, φ h1 → (∀ o, h1.get? a = some o → h2.get? a = some o) → φ h2
def HOk (H : Hp) (h : Heap) : Prop := ∀ a o, H a = some o → bN P w H h a o
end
section
variable {P : Program} {w : World} {H H' : Hp} {h h' : Heap} {a : Addr} {o : HO}
theorem bN.lt (x : bN P w H h a o) : a < h.objs.size := by
 cases o with
 | lst xs => obtain ⟨_, _, _, _, e⟩ := x; exact Heap.lt_size e
 | tup xs => obtain ⟨_, _, _, p⟩ := x; exact p.lt
 | dK kvs => obtain ⟨_, _, _, _, o, _, _, e, _⟩ := x; exact Heap.lt_size e
 | dT kvs => obtain ⟨_, _, _, _, o, _, _, e, _⟩ := x; exact Heap.lt_size e
 | set S n => obtain ⟨o, _, _, _, e, _⟩ := x; exact Heap.lt_size e
 | ins C dx fs => obtain ⟨_, _, _, e, _⟩ := x; exact Heap.lt_size e
 | own y => obtain ⟨_, e⟩ := x; exact Heap.lt_size e
 | xd fs => obtain ⟨_, ⟨_, _, _, e, _⟩, _⟩ := x; exact Heap.lt_size e
 | rng lo hi => obtain ⟨_, _, _, e⟩ := x; exact Heap.lt_size e
 | frz ob u => obtain ⟨e, _⟩ := x; exact Heap.lt_size e
 | tbl ps => exact Heap.lt_size (show h.get? a = some _ from x)
 | met f y => exact Heap.lt_size (show h.get? a = some _ from x)
 | ext φ => obtain ⟨_, ⟨_, e⟩, _⟩ := x; exact Heap.lt_size e
theorem Paired.mapP {α β : Type} {F G : α → β → Prop} : ∀ {l₁ : List α} {l₂ : List β}, Paired F l₁ l₂ → (∀ a b, F a b → G a b) → Paired G l₁ l₂
 | _, _, .nil, _ => .nil
 | _, _, .cons r t, f => .cons (f _ _ r) (Paired.mapP t f)
theorem bN.stay (x : bN P w H h a o) (k : ∀ b u, (b = a ∨ H b = some (.own a)) → h.get? b = some u → h'.get? b = some u)
   (ho : ∀ b, H b = some (.own a) → H' b = some (.own a)) (ht : ∀ b xs, H b = some (.tup xs) → H' b = some (.tup xs)) : bN P w H' h' a o := by
 induction o with
 | lst xs => obtain ⟨z, its, n, r, e⟩ := x; exact ⟨z, its, n, r, k _ _ (.inl rfl) e⟩
 | tup xs => obtain ⟨z, its, r, ob, e, c⟩ := x; exact ⟨z, its, r, ob, k _ _ (.inl rfl) e, c⟩
 | dK kvs => obtain ⟨z, y, vs, r, ob, es, ep, e, c⟩ := x; exact ⟨z, y, vs, r, ob, es, ep, k _ _ (.inl rfl) e, c⟩
 | dT kvs =>
   obtain ⟨z, y, xs, r, ob, es, ep, e, c⟩ := x
   exact ⟨z, y, xs, Paired.mapP r fun p q z => ⟨z.1, ht _ _ z.2.1, z.2.2⟩, ob, es, ep, k _ _ (.inl rfl) e, c⟩
 | set S n => obtain ⟨ob, es, ep, t, e, c⟩ := x; exact ⟨ob, es, ep, t, k _ _ (.inl rfl) e, c⟩
 | ins C dx fs =>
   obtain ⟨d, z, ne, e, mA, ⟨od, es, ep, e2, c⟩, r⟩ := x
   exact ⟨ho _ d, z, ne, k _ _ (.inl rfl) e, mA, ⟨od, es, ep, k _ _ (.inr d) e2, c⟩, r⟩
 | own y => obtain ⟨ob, e⟩ := x; exact ⟨ob, k _ _ (.inl rfl) e⟩
 | xd fs => obtain ⟨mA, ⟨od, es, ep, e, c⟩, r⟩ := x; exact ⟨mA, ⟨od, es, ep, k _ _ (.inl rfl) e, c⟩, r⟩
 | rng lo hi => obtain ⟨t, u, v, e⟩ := x; exact ⟨t, u, v, k _ _ (.inl rfl) e⟩
 | frz ob u ih => obtain ⟨e, q⟩ := x; exact ⟨k _ _ (.inl rfl) e, ih q⟩
 | tbl ps =>
   have e : h.get? a = some { cls := .none, data := .fields ps } := x
   show h'.get? a = some { cls := .none, data := .fields ps }
   exact k a _ (.inl rfl) e
 | met f y =>
   have e : h.get? a = some (W.methodObj (.ref f) (.ref y)) := x
   show h'.get? a = some (W.methodObj (.ref f) (.ref y))
   exact k a _ (.inl rfl) e
 | ext φ => obtain ⟨p, ⟨o, e⟩, st⟩ := x; exact ⟨st _ _ p fun o q => k _ _ (.inl rfl) q, ⟨o, k _ _ (.inl rfl) e⟩, st⟩
theorem HOk.lt (x : HOk P w H h) (e : H a = some o) : a < h.objs.size := (x a o e).lt
theorem HOk.fresh (x : HOk P w H h) (e : h.objs.size ≤ a) : H a = none := by
 cases q : H a with
 | none => rfl
 | some u => exact absurd (Nat.lt_of_lt_of_le (x.lt q) e) (Nat.lt_irrefl _)
theorem HOk.kept (x : HOk P w H h) (k : ∀ b u, h.get? b = some u → h'.get? b = some u) : HOk P w H h' := fun a o e =>
 (x a o e).stay (fun b u _ q => k b u q) (fun _ q => q) fun _ _ q => q
theorem HOk.laid (x : HOk P w H h) (k : ∀ b u, h.get? b = some u → h'.get? b = some u) (hp : h.objs.size ≤ a) (new : bN P w (upd H a o) h' a o) : HOk P w (upd H a o) h' := fun b u e => by
 have hn := x.fresh hp
 by_cases hb : b = a
 · subst hb; rw [aD] at e; cases e; exact new
 · rw [aI hb] at e
   exact (x b u e).stay (fun c v _ q => k c v q) (fun c q => by rw [aI (aJ q hn)]; exact q) fun c xs q => by rw [aI (aJ q hn)]; exact q
end
def Rd (H : Hp) (a : Addr) (u : HO) : Prop := H a = some u ∨ ∃ o, H a = some (.frz o u)
theorem Rd.ok {P : Program} {w : World} {H : Hp} {h : Heap} {a : Addr} {u : HO} (r : Rd H a u) (x : HOk P w H h) : bN P w H h a u := by
 rcases r with r | ⟨o, r⟩
 · exact x a u r
 · obtain ⟨_, q⟩ := x a _ r
   exact q
def Mut : Option HO → Prop
 | some (.lst _) => True
 | some (.dK _) => True
 | some (.dT _) => True
 | some (.set _ _) => True
 | some (.ins _ _ _) => True
 | some (.ext _) => True
 | _ => False
section
variable {P : Program} {w : World} {H : Hp} {h h' : Heap} {x e : Addr} {o' : HO}
theorem HOk.write (ok : HOk P w H h) (mu : Mut (H x)) (he : e = x ∨ H e = some (.own x)) (k : ∀ b u, b ≠ e → h.get? b = some u → h'.get? b = some u) (heo : ∃ u, h'.get? e = some u)
   (new : bN P w (upd H x o') h' x o') : HOk P w (upd H x o') h' := fun b u q => by
 have nown : ∀ c y, H c = some (.own y) → c ≠ x := fun c y r z => by subst z; rw [r] at mu; exact mu
 have ntup : ∀ c xs, H c = some (.tup xs) → c ≠ x := fun c xs r z => by subst z; rw [r] at mu; exact mu
 by_cases hb : b = x
 · subst hb; rw [aD] at q; cases q; exact new
 · rw [aI hb] at q
   by_cases hbe : b = e
   · have q' : H b = some (.own x) := by
       rcases he with z | z
       · exact absurd (hbe.trans z) hb
       · rw [hbe]; exact z
     rw [q] at q'; cases q'
     obtain ⟨v, hv⟩ := heo
     exact ⟨v, by rw [hbe]; exact hv⟩
   · refine (ok b u q).stay (fun c v hc r => k c v ?_ r) (fun c r => by rw [aI (nown c b r)]; exact r) fun c xs r => by rw [aI (ntup c xs r)]; exact r
     rcases hc with rfl | hc
     · exact hbe
     · rintro rfl
       rcases he with z | z
       · exact nown c b hc z
       · rw [hc] at z; cases z; exact hb rfl
end
structure Un (fs ex : List Addr) (H H' : Hp) (h h' : Heap) : Prop where
 keep : ∀ b o, h.get? b = some o → H b = none → b ∉ fs → b ∉ ex → h'.get? b = some o
 slot : ∀ b o, h.get? b = some o → H b = none → b ∈ fs → b ∉ ex → ∃ sl, h'.get? b = some { o with slots := sl }
 free : ∀ b o, h.get? b = some o → H b = none → b ∉ ex → H' b = none
 there : ∀ b o, h.get? b = some o → b ∉ ex → ∃ o', h'.get? b = some o'
 tups : ∀ b xs, H b = some (.tup xs) → H' b = some (.tup xs)
 frzs : ∀ b o u, H b = some (.frz o u) → H' b = some (.frz o u)
 tbls : ∀ b ps, H b = some (.tbl ps) → ∃ more, H' b = some (.tbl (ps ++ more))
section
variable {fs fs' ex ex' : List Addr} {H H1 H2 : Hp} {h h1 h2 h' : Heap} {a x e : Addr} {o : HO}
theorem Un.any (u : Un fs ex H H1 h h1) {b : Addr} {ob : Obj} (q : h.get? b = some ob) (n : H b = none) (hx : b ∉ ex) : ∃ sl, h1.get? b = some { ob with slots := sl } := by
 by_cases hb : b ∈ fs
 · exact u.slot b ob q n hb hx
 · exact ⟨ob.slots, u.keep b ob q n hb hx⟩
theorem Un.kept (k : ∀ b u, h.get? b = some u → h'.get? b = some u) : Un fs ex H H h h' :=
 ⟨fun b ob q _ _ _ => k b ob q, fun b ob q _ _ _ => ⟨ob.slots, k b ob q⟩, fun _ _ _ n _ => n, fun b ob q _ => ⟨ob, k b ob q⟩, fun _ _ q => q, fun _ _ _ q => q, fun _ ps q => ⟨#[], by rw [q]; simp⟩⟩
theorem Un.refl : Un fs ex H H h h := Un.kept fun _ _ q => q
theorem Un.laid (k : ∀ b u, h.get? b = some u → h'.get? b = some u) (hp : h.objs.size ≤ a) (hn : H a = none) : Un fs ex H (upd H a o) h h' where
 keep := fun b u q _ _ _ => k b u q
 slot := fun b u q _ _ _ => ⟨u.slots, k b u q⟩
 free := fun b u q n _ => by rw [aI (Nat.ne_of_lt (Nat.lt_of_lt_of_le (Heap.lt_size q) hp))]; exact n
 there := fun b u q _ => ⟨u, k b u q⟩
 tups := fun b xs q => by rw [aI (aJ q hn)]; exact q
 frzs := fun b u xs q => by rw [aI (aJ q hn)]; exact q
 tbls := fun b ps q => ⟨#[], by rw [aI (aJ q hn), q]; simp⟩
theorem Un.write (mu : Mut (H x)) (he : e = x ∨ H e = some (.own x)) (k : ∀ b u, b ≠ e → h.get? b = some u → h'.get? b = some u) (heo : ∃ u, h'.get? e = some u) : Un fs ex H (upd H x o) h h' := by
 have hx : ∀ b, H b = none → b ≠ x := fun b n z => by subst z; rw [n] at mu; exact mu
 have hb : ∀ b, H b = none → b ≠ e := fun b n z => by
   subst z
   rcases he with r | r
   · exact hx b n r
   · rw [n] at r; cases r
 have hm : ∀ b u, H b = some u → ¬ Mut (some u) → b ≠ x := fun b u q nm z => by subst z; rw [q] at mu; exact nm mu
 refine ⟨fun b u q n _ _ => k b u (hb b n) q, fun b u q n _ _ => ⟨u.slots, k b u (hb b n) q⟩, fun b u q n _ => by rw [aI (hx b n)]; exact n, fun b u q _ => ?_,
   fun b xs q => by rw [aI (hm b _ q fun z => z)]; exact q, fun b u xs q => by rw [aI (hm b _ q fun z => z)]; exact q, fun b ps q => ⟨#[], by rw [aI (hm b _ q fun z => z), q]; simp⟩⟩
 by_cases hbe : b = e
 · subst hbe; exact heo
 · exact ⟨u, k b u hbe q⟩
end
def trk (h : Heap) (H : Hp) : List Addr := (List.range h.objs.size).filter fun a => (H a).isSome
def uI (h : Heap) (H : Hp) : Heap := W.hideAll h (trk h H)
theorem aH5 (h : Heap) (H : Hp) : (uI h H).objs.size = h.objs.size := W.hideAll_size _ _
theorem aP1 {h : Heap} {H : Hp} {b : Addr} {o : Obj} (e : h.get? b = some o) (n : H b = none) : (uI h H).get? b = some o :=
 W.hideAll_get _ e fun hm => by
   have q : (H b).isSome = true := (List.mem_filter.mp hm).2
   rw [n] at q; simp at q
theorem aT3 {h : Heap} {H : Hp} {b : Addr} {o : Obj} (e : (uI h H).get? b = some o) : h.get? b = some o ∧ H b = none := by
 have e' : h.get? b = some o := W.of_hideAll (trk h H) e
 refine ⟨e', ?_⟩
 cases q : H b with
 | none => rfl
 | some x =>
   have hm : b ∈ trk h H := List.mem_filter.mpr ⟨List.mem_range.mpr (Heap.lt_size e'), by simp [q]⟩
   have z : (uI h H).get? b = none := W.hideAll_none (trk h H) hm
   rw [z] at e; cases e
end L2
namespace L2
open PySem PySem.Spec PyProof.Rows
structure Mod (K : W.Frag) (mg : Str → Option Value) (base : Heap) : Prop where
 kin : K.In base
 glob : base.Ns mainGlobals mg
 blt : ∃ mb, base.Ns builtinsNs mb ∧ ∀ x : Str, x ≠ "__name__" → mb x = bootBuiltins x
 nolimit : base.NoLimit
structure Cx where
 prog : Program
 w : World
 K : W.Frag
 mg : Str → Option Value
 base : Heap
 A : Around
 N : List Str
 s₀ : Shared
 H₀ : Hp
 env : Env
 outer : List Env
 stack : List Env
 ex : List Addr
 fn : Str → Bool
 calm : Bool
 pn : List (Addr × Obj)
 xe : Value → Shared → Prop
def frs (l : List Env) : List Addr := l.filterMap (·.frame)
abbrev Cx.fs (X : Cx) : List Addr := frs X.outer
def Vis (sc : Scope) (x : Str) : Prop := sc.names.lookup x = some .local ∨ sc.names.lookup x = some .cell ∨ sc.names.lookup x = some .free
def Loc (sc : Scope) (x : Str) : Prop := sc.names.lookup x = some .local ∨ sc.names.lookup x = some .cell
def Look (env : Env) (h : Heap) (m : Str → Option Value) (x : Str) (u : Value) : Prop :=
 (env.kindOf x = some .local ∧ m x = some u) ∨ ((env.kindOf x = some .cell ∨ env.kindOf x = some .free) ∧ ∃ c, env.cells.lookup x = some c ∧ h.IsCell c (some u))
structure Cx.Ok (X : Cx) : Prop where
 mod : Mod X.K X.mg X.base
 kind : X.env.scope.kind = .function
 glob : X.env.globals = mainGlobals
 blt : X.env.builtins = builtinsNs
 above : X.s₀.heap.objs.size ≤ X.env.locals
 inj : ∀ x y c, X.env.cells.lookup x = some c → X.env.cells.lookup y = some c → x = y
 has : ∀ x, (X.env.kindOf x = some .cell ∨ X.env.kindOf x = some .free) → ∃ c, X.env.cells.lookup x = some c
 cab : ∀ x c, X.fn x = true → X.env.cells.lookup x = some c → X.s₀.heap.objs.size ≤ c
 hd : X.calm = true → X.A.handled = none
 frames : X.A.frames = some X.stack
 stk : X.stack = X.outer ∨ (X.stack = X.env :: X.outer ∧ X.env.frame = some X.env.locals)
 exf : ∀ b ∈ X.ex, b ≠ X.env.locals ∧ ∀ x c, X.env.cells.lookup x = some c → c ≠ b
 bs : ∀ b o, X.base.get? b = some o → X.s₀.heap.get? b = some o ∧ X.H₀ b = none
 bsz : X.base.objs.size ≤ X.s₀.heap.objs.size
 noex : ∀ b o, X.base.get? b = some o → b ∉ X.ex
 exfs : ∀ b ∈ X.ex, b ∉ X.fs
 funs : X.s₀.heap.FunFrames X.base X.outer
 frf : ∀ b ∈ X.fs, X.H₀ b = none
structure Inv (X : Cx) (pins : List (Addr × Obj)) (σ : List (Option V)) (H : Hp) (s : Shared) : Prop where
 ok : X.Ok
 os : s.os = X.s₀.os
 bare : AllBare s.gens
 base : Un X.fs X.ex X.H₀ H X.s₀.heap s.heap
 loc : ∃ m, s.heap.Ns X.env.locals m ∧ ∀ (i : Nat) (x : Str) (v : V), X.N[i]? = some x → σ[i]? = some (some v) → Vis X.env.scope x → ∃ u, bY v u ∧ Look X.env s.heap m x u
 cell : ∀ x c, X.env.cells.lookup x = some c → ∃ v, s.heap.IsCell c v
 free : H X.env.locals = none
 freeC : ∀ x c, X.env.cells.lookup x = some c → H c = none
 pin : ∀ p ∈ X.pn ++ pins, s.heap.get? p.1 = some p.2 ∧ H p.1 = none ∧ p.1 ≠ X.env.locals ∧ p.1 ∉ X.fs ∧ ∀ v, p.2.data ≠ .cell v
 hok : HOk X.prog X.w H s.heap
 len : σ.length = X.N.length
section
variable {X : Cx} {pins : List (Addr × Obj)} {σ : List (Option V)} {H H' : Hp} {s : Shared} {h' : Heap}
theorem Cx.Ok.nofr (ok : X.Ok) {b : Addr} {o : Obj} (e : X.base.get? b = some o) : b ∉ X.fs := fun hb => by
 have := (ok.funs.mem hb).1
 rw [e] at this; cases this
theorem Inv.bs (I : Inv X pins σ H s) : ∀ b o, X.base.get? b = some o → s.heap.get? b = some o ∧ H b = none := fun b o e =>
 ⟨I.base.keep b o (I.ok.bs b o e).1 (I.ok.bs b o e).2 (I.ok.nofr e) (I.ok.noex b o e), I.base.free b o (I.ok.bs b o e).1 (I.ok.bs b o e).2 (I.ok.noex b o e)⟩
theorem Inv.bk (I : Inv X pins σ H s) : ∀ b o, X.base.get? b = some o → s.heap.get? b = some o := fun b o e => (I.bs b o e).1
theorem Inv.mod (I : Inv X pins σ H s) : Mod X.K X.mg X.base := I.ok.mod
theorem Inv.kIn (I : Inv X pins σ H s) : X.K.In s.heap := I.ok.mod.kin.keeps I.bk
theorem Inv.lt (I : Inv X pins σ H s) : X.env.locals < s.heap.objs.size := let ⟨_, hn, _⟩ := I.loc; hn.lt
theorem Inv.sz (I : Inv X pins σ H s) : X.s₀.heap.objs.size ≤ s.heap.objs.size := Nat.le_trans I.ok.above (Nat.le_of_lt I.lt)
theorem Inv.nofs (I : Inv X pins σ H s) {a : Addr} (h : s.heap.objs.size ≤ a) : a ∉ X.fs := fun hb => by
 obtain ⟨_, o, ho, _⟩ := I.ok.funs.mem hb
 exact absurd (Nat.lt_of_lt_of_le (Heap.lt_size ho) (Nat.le_trans I.sz h)) (Nat.lt_irrefl _)
theorem Inv.cne (I : Inv X pins σ H s) : ∀ x c, X.env.cells.lookup x = some c → c ≠ X.env.locals := fun x c e z => by
 obtain ⟨v, o, ho, hd⟩ := I.cell x c e
 obtain ⟨m, ⟨o', es, ep, ho', hd', _⟩, _⟩ := I.loc
 rw [z, ho'] at ho; cases ho; rw [hd'] at hd; cases hd
theorem Inv.funs (I : Inv X pins σ H s) : s.heap.FunFrames X.base X.outer := by
 have all : ∀ (l : List Env), (∀ b ∈ frs l, b ∈ X.fs) → X.s₀.heap.FunFrames X.base l → s.heap.FunFrames X.base l := by
   intro l
   induction l with
   | nil => intro _ _; trivial
   | cons env r ih =>
     intro hs hl
     obtain ⟨hk, ⟨L, o, hf, hn, ho, hd⟩, hr⟩ := hl
     have hL : L ∈ X.fs := hs L (by unfold frs; rw [List.filterMap_cons, hf]; exact List.mem_cons_self)
     obtain ⟨sl, e⟩ := I.base.slot L o ho (I.ok.frf L hL) hL fun z => I.ok.exfs L z hL
     exact ⟨hk, ⟨L, _, hf, hn, e, hd⟩, ih (fun b hb => hs b (by unfold frs; rw [List.filterMap_cons, hf]; exact List.mem_cons_of_mem _ hb)) hr⟩
 exact all X.outer (fun _ hb => hb) I.ok.funs
theorem Inv.stack (I : Inv X pins σ H s) : s.heap.FunFrames X.base X.stack := by
 rcases I.ok.stk with e | ⟨e, hf⟩
 · rw [e]; exact I.funs
 · rw [e]
   obtain ⟨m, hn, _⟩ := I.loc
   refine .cons (by rw [I.ok.kind]; decide) hf hn ?_ I.funs
   exact Heap.get?_none_of_le (Nat.le_trans I.ok.bsz I.ok.above)
theorem Inv.stkSub (I : Inv X pins σ H s) : ∀ b ∈ frs X.stack, b ∈ X.env.locals :: X.fs := fun b hb => by
 rcases I.ok.stk with e | ⟨e, hf⟩
 · rw [e] at hb; exact List.mem_cons_of_mem _ hb
 · rw [e] at hb
   unfold frs at hb
   rw [List.filterMap_cons, hf] at hb
   exact hb
theorem Inv.stkFree (I : Inv X pins σ H s) : ∀ b ∈ frs X.stack, H b = none := fun b hb => by
 rcases List.mem_cons.mp (I.stkSub b hb) with e | hb
 · rw [e]; exact I.free
 · obtain ⟨_, o, ho, _⟩ := I.ok.funs.mem hb
   exact I.base.free b o ho (I.ok.frf b hb) fun z => I.ok.exfs b z hb
theorem Inv.step {g' : Array GenState} {t' : Nat} {d' : Drawn} {ch : List Addr} (I : Inv X pins σ H s)
   (hch : ∀ b ∈ ch, (b ∈ X.ex ∨ X.s₀.heap.objs.size ≤ b) ∧ b ≠ X.env.locals ∧ (∀ x c, X.env.cells.lookup x = some c → c ≠ b) ∧ ∀ p ∈ X.pn ++ pins, p.1 ≠ b)
   (keep : ∀ b o, b ≠ X.env.locals → b ∉ X.fs → b ∉ ch → s.heap.get? b = some o → H b = none → h'.get? b = some o)
   (slot : ∀ b o, b ≠ X.env.locals → b ∈ X.fs → b ∉ ch → s.heap.get? b = some o → H b = none → ∃ sl, h'.get? b = some { o with slots := sl }) (free : ∀ b o, b ∉ ch → s.heap.get? b = some o → H b = none → H' b = none)
   (there : ∀ b o, b ∉ ch → s.heap.get? b = some o → ∃ o', h'.get? b = some o')
   (tups : ∀ b xs, H b = some (.tup xs) → H' b = some (.tup xs)) (frzs : ∀ b o u, H b = some (.frz o u) → H' b = some (.frz o u)) (tbls : ∀ b ps, H b = some (.tbl ps) → ∃ more, H' b = some (.tbl (ps ++ more)))
   (ns : ∀ m, s.heap.Ns X.env.locals m → h'.Ns X.env.locals m) (hok : HOk X.prog X.w H' h') (hg : AllBare g') :
   Inv X pins σ H' { s with heap := h', gens := g', drawn := d', toks := t' } := by
 have neL : ∀ b o, X.s₀.heap.get? b = some o → b ≠ X.env.locals := fun b o e => Nat.ne_of_lt (Nat.lt_of_lt_of_le (Heap.lt_size e) I.ok.above)
 have neC : ∀ b o, X.s₀.heap.get? b = some o → b ∉ X.ex → b ∉ ch := fun b o e hx hb => by
   rcases (hch b hb).1 with z | z
   · exact hx z
   · exact absurd (Nat.lt_of_lt_of_le (Heap.lt_size e) z) (Nat.lt_irrefl _)
 have cellK : ∀ x c, X.env.cells.lookup x = some c → ∀ v, s.heap.IsCell c v → h'.IsCell c v := fun x c e v ⟨o, ho, hd⟩ => by
   have nch : c ∉ ch := fun z => (hch c z).2.2.1 x c e rfl
   by_cases hc : c ∈ X.fs
   · obtain ⟨sl, q⟩ := slot c o (I.cne x c e) hc nch ho (I.freeC x c e)
     exact ⟨_, q, hd⟩
   · exact ⟨o, keep c o (I.cne x c e) hc nch ho (I.freeC x c e), hd⟩
 refine ⟨I.ok, I.os, hg, ⟨fun b o e n hb hx => ?_, fun b o e n hb hx => ?_, fun b o e n hx => ?_, fun b o e hx => ?_, fun b xs e => tups b xs (I.base.tups b xs e), fun b o xs e => frzs b o xs (I.base.frzs b o xs e), fun b ps e => ?_⟩, ?_, fun x c e => ?_, ?_, fun x c e => ?_, fun p hp => ?_, hok, I.len⟩
 · exact keep b o (neL b o e) hb (neC b o e hx) (I.base.keep b o e n hb hx) (I.base.free b o e n hx)
 · obtain ⟨sl, e1⟩ := I.base.slot b o e n hb hx
   obtain ⟨sl', e2⟩ := slot b _ (neL b o e) hb (neC b o e hx) e1 (I.base.free b o e n hx)
   exact ⟨sl', e2⟩
 · obtain ⟨o', e1⟩ := I.base.there b o e hx
   exact free b o' (neC b o e hx) e1 (I.base.free b o e n hx)
 · obtain ⟨o', e1⟩ := I.base.there b o e hx
   exact there b o' (neC b o e hx) e1
 · obtain ⟨m1, e1⟩ := I.base.tbls b ps e
   obtain ⟨m2, e2⟩ := tbls b _ e1
   exact ⟨m1 ++ m2, by rw [e2, Array.append_assoc]⟩
 · obtain ⟨m, hn, hl⟩ := I.loc
   refine ⟨m, ns m hn, fun i x v e1 e2 e3 => ?_⟩
   obtain ⟨u, r, l⟩ := hl i x v e1 e2 e3
   refine ⟨u, r, ?_⟩
   rcases l with l | ⟨k, c, e, z⟩
   · exact .inl l
   · exact .inr ⟨k, c, e, cellK x c e _ z⟩
 · obtain ⟨v, z⟩ := I.cell x c e
   exact ⟨v, cellK x c e v z⟩
 · obtain ⟨m, ⟨o, _, _, ho, _⟩, _⟩ := I.loc
   exact free _ o (fun z => (hch _ z).2.1 rfl) ho I.free
 · obtain ⟨v, o, ho, hd⟩ := I.cell x c e
   exact free c o (fun z => (hch c z).2.2.1 x c e rfl) ho (I.freeC x c e)
 · obtain ⟨e, n, ne, nf, d⟩ := I.pin p hp
   have nch : p.1 ∉ ch := fun z => (hch p.1 z).2.2.2 p hp rfl
   exact ⟨keep p.1 p.2 ne nf nch e n, free p.1 p.2 nch e n, ne, nf, d⟩
theorem Inv.un {t' : Nat} (I : Inv X pins σ H s) (u : Un X.fs [] H H' s.heap h') (hok : HOk X.prog X.w H' h') : Inv X pins σ H' { s with heap := h', toks := t' } := by
 obtain ⟨m, ⟨o, es, ep, ho, r⟩, _⟩ := id I.loc
 obtain ⟨sl, hL⟩ := u.any ho I.free (by simp)
 exact I.step (g' := s.gens) (d' := s.drawn) (ch := []) (fun _ z => nomatch z) (fun b o _ hb _ e n => u.keep b o e n hb (by simp)) (fun b o _ hb _ e n => u.slot b o e n hb (by simp)) (fun b o _ e n => u.free b o e n (by simp)) (fun b o _ e => u.there b o e (by simp)) u.tups u.frzs u.tbls (fun m' hm => by
   obtain ⟨o', es', ep', ho', r'⟩ := hm
   rw [ho] at ho'; cases ho'
   exact ⟨_, es', ep', hL, r'⟩) hok I.bare
theorem Inv.call {g' : Array GenState} {t' : Nat} {d' : Drawn} {ch : List Addr} (I : Inv X pins σ H s) (u : Un (frs X.stack) ch H H' s.heap h') (hok : HOk X.prog X.w H' h') (hg : AllBare g')
   (hch : ∀ b ∈ ch, (b ∈ X.ex ∨ X.s₀.heap.objs.size ≤ b) ∧ b ≠ X.env.locals ∧ (∀ x c, X.env.cells.lookup x = some c → c ≠ b) ∧ ∀ p ∈ X.pn ++ pins, p.1 ≠ b) :
   Inv X pins σ H' { s with heap := h', gens := g', drawn := d', toks := t' } := by
 obtain ⟨m, ⟨o, es, ep, ho, r⟩, _⟩ := id I.loc
 obtain ⟨sl, hL⟩ := u.any ho I.free fun z => (hch _ z).2.1 rfl
 exact I.step (ch := ch) hch (fun b o hL hb hc e n => u.keep b o e n (fun z => (List.mem_cons.mp (I.stkSub b z)).elim hL hb) hc) (fun b o _ _ hc e n => u.any e n hc) (fun b o hc e n => u.free b o e n hc) (fun b o hc e => u.there b o e hc) u.tups u.frzs u.tbls (fun m' hm => by
   obtain ⟨o', es', ep', ho', r'⟩ := hm
   rw [ho] at ho'; cases ho'
   exact ⟨_, es', ep', hL, r'⟩) hok hg
theorem Inv.turned {t' : Nat} {it : Addr} (I : Inv X pins σ H s) (k : ∀ b o, b ≠ it → s.heap.get? b = some o → h'.get? b = some o) (hn : H it = none) (hL : it ≠ X.env.locals)
   (h1 : it ∈ X.ex ∨ X.s₀.heap.objs.size ≤ it) (h2 : ∀ x c, X.env.cells.lookup x = some c → c ≠ it) (h3 : ∀ p ∈ X.pn ++ pins, p.1 ≠ it) : Inv X pins σ H { s with heap := h', toks := t' } := by
 have nit : ∀ b u, H b = some u → b ≠ it := fun b u e z => by rw [z, hn] at e; cases e
 refine I.step (g' := s.gens) (d' := s.drawn) (ch := [it]) (fun b hb => ?_) (fun b o _ _ hc e _ => k b o (fun z => hc (by simp [z])) e) (fun b o _ _ hc e _ => ⟨o.slots, k b o (fun z => hc (by simp [z])) e⟩) (fun _ _ _ _ n => n)
   (fun b o hc e => ⟨o, k b o (fun z => hc (by simp [z])) e⟩) (fun _ _ e => e) (fun _ _ _ e => e) (fun b ps e => ⟨#[], by rw [e]; simp⟩) (fun m hm => ?_) (fun b u e => ?_) I.bare
 · have e : b = it := by simpa using hb
   subst e
   exact ⟨h1, hL, h2, h3⟩
 · obtain ⟨o, es, ep, ho, r⟩ := hm
   exact ⟨o, es, ep, k _ o (Ne.symm hL) ho, r⟩
 · refine (I.hok b u e).stay (fun c v hc q => k c v ?_ q) (fun _ q => q) fun _ _ q => q
   rcases hc with z | z
   · rw [z]; exact nit b u e
   · exact nit c _ z
theorem Inv.tok (I : Inv X pins σ H s) (t : Nat) : Inv X pins σ H { s with toks := t } := I.un (h' := s.heap) (t' := t) Un.refl I.hok
theorem Inv.kept {t' : Nat} (I : Inv X pins σ H s) (k : ∀ b u, s.heap.get? b = some u → h'.get? b = some u) : Inv X pins σ H { s with heap := h', toks := t' } := I.un (Un.kept k) (I.hok.kept k)
theorem Inv.laid {a : Addr} {o : HO} {t' : Nat} (I : Inv X pins σ H s) (k : ∀ b u, s.heap.get? b = some u → h'.get? b = some u) (hp : s.heap.objs.size ≤ a) (new : bN X.prog X.w (upd H a o) h' a o) :
   Inv X pins σ (upd H a o) { s with heap := h', toks := t' } := I.un (Un.laid k hp (I.hok.fresh hp)) (I.hok.laid k hp new)
theorem Inv.write {x e : Addr} {o : HO} {t' : Nat} (I : Inv X pins σ H s) (mu : Mut (H x)) (he : e = x ∨ H e = some (.own x)) (k : ∀ b u, b ≠ e → s.heap.get? b = some u → h'.get? b = some u) (heo : ∃ u, h'.get? e = some u)
   (new : bN X.prog X.w (upd H x o) h' x o) : Inv X pins σ (upd H x o) { s with heap := h', toks := t' } := I.un (Un.write mu he k heo) (I.hok.write mu he k heo new)
theorem Inv.weak {σ' : List (Option V)} (I : Inv X pins σ H s) (hl : σ'.length = σ.length) (w : ∀ (i : Nat) v, σ'[i]? = some (some v) → σ[i]? = some (some v)) : Inv X pins σ' H s :=
 ⟨I.ok, I.os, I.bare, I.base, let ⟨m, hn, hl'⟩ := I.loc; ⟨m, hn, fun i x v e1 e2 e3 => hl' i x v e1 (w i v e2) e3⟩, I.cell, I.free, I.freeC, I.pin, I.hok, hl.trans I.len⟩
theorem Inv.pins_of {pins' : List (Addr × Obj)} (I : Inv X pins σ H s) (h : ∀ p ∈ pins', s.heap.get? p.1 = some p.2 ∧ H p.1 = none ∧ p.1 ≠ X.env.locals ∧ p.1 ∉ X.fs ∧ ∀ v, p.2.data ≠ .cell v) : Inv X pins' σ H s :=
 ⟨I.ok, I.os, I.bare, I.base, I.loc, I.cell, I.free, I.freeC, fun p hp => (List.mem_append.mp hp).elim (fun z => I.pin p (List.mem_append_left _ z)) (h p), I.hok, I.len⟩
theorem sJ {N : List Str} (hN : N.Nodup) {i j : Nat} {x : Str} (a : N[i]? = some x) (b : N[j]? = some x) : i = j := by
 obtain ⟨h1, e1⟩ := List.getElem?_eq_some_iff.mp a
 obtain ⟨h2, e2⟩ := List.getElem?_eq_some_iff.mp b
 exact (List.getElem_inj hN).mp (e1.trans e2.symm)
theorem aE8 {M : Model} {A : Around} {E : Value → Shared → Prop} {i : Nat} {x : Str} {v : V} {u : Value} {Q : Unit → Shared → Prop} (I : Inv X pins σ H s) (hN : X.N.Nodup) (hi : X.N[i]? = some x) (hx : Loc X.env.scope x) (r : bY v u)
   (h : ∀ s', Inv X pins (σ.set i (some v)) H s' → (∃ a, Heap.SameBut a s.heap s'.heap ∧ (a = X.env.locals ∨ X.env.cells.lookup x = some a)) → Q () s') (hf : X.fn x = true ∨ X.env.scope.names.lookup x = some .local := by first | exact .inl rfl | exact .inr rfl | assumption) : wpAny M A (storeName X.env x u) Q E s := by
 obtain ⟨m, hn, hl⟩ := id I.loc
 have hcls : (X.env.scope.kind == .class || (X.env.scope.kind == .module && X.env.locals != X.env.globals)) = false := by rw [I.ok.kind]; rfl
 have hiσ : i < σ.length := by rw [I.len]; exact (List.getElem?_eq_some_iff.mp hi).1
 have cne := I.cne
 have tracked : ∀ {a : Addr} {h' : Heap}, (∃ o, s.heap.get? a = some o ∧ H a = none) → Heap.SameBut a s.heap h' → HOk X.prog X.w H h' := fun {a h'} ha hs b ob e => by
   obtain ⟨_, _, hfree⟩ := ha
   refine (I.hok b ob e).stay (fun c w' hc q => (hs.2 c ?_).trans q) (fun _ q => q) fun _ _ q => q
   rintro rfl
   rcases hc with rfl | hc
   · rw [hfree] at e; cases e
   · rw [hfree] at hc; cases hc
 rcases hx with hk | hk
 · refine wpAny_storeName_local hk hn (fun h' hn' hs => ?_) hcls
   obtain ⟨oL, _, _, hoL, _⟩ := id hn
   refine h _ ⟨I.ok, I.os, I.bare, ⟨fun b o e n hb hx => ?_, fun b o e n hb hx => ?_, I.base.free, fun b o e hx => ?_, I.base.tups, I.base.frzs, I.base.tbls⟩, ⟨_, hn', fun j y v' e1 e2 e3 => ?_⟩, fun y c e => ?_, I.free, I.freeC, fun p hp => ?_, tracked ⟨oL, hoL, I.free⟩ hs, by simpa using I.len⟩ ⟨_, hs, .inl rfl⟩
   · exact (hs.2 b (Nat.ne_of_lt (Nat.lt_of_lt_of_le (Heap.lt_size e) I.ok.above))).trans (I.base.keep b o e n hb hx)
   · obtain ⟨sl, e1⟩ := I.base.slot b o e n hb hx
     exact ⟨sl, (hs.2 b (Nat.ne_of_lt (Nat.lt_of_lt_of_le (Heap.lt_size e) I.ok.above))).trans e1⟩
   · obtain ⟨o', e1⟩ := I.base.there b o e hx
     exact ⟨o', (hs.2 b (Nat.ne_of_lt (Nat.lt_of_lt_of_le (Heap.lt_size e) I.ok.above))).trans e1⟩
   · by_cases hj : j = i
     · subst hj
       rw [hi] at e1; cases e1
       rw [List.getElem?_set_self hiσ] at e2
       cases e2
       exact ⟨u, r, .inl ⟨hk, by simp⟩⟩
     · rw [List.getElem?_set_ne (Ne.symm hj)] at e2
       obtain ⟨u', r', q⟩ := hl j y v' e1 e2 e3
       refine ⟨u', r', ?_⟩
       rcases q with ⟨k, e⟩ | ⟨k, c, e, z⟩
       · refine .inl ⟨k, ?_⟩
         have : y ≠ x := fun e => hj (sJ hN e1 (e ▸ hi))
         simp [this, e]
       · exact .inr ⟨k, c, e, z.sameBut hs (cne y c e)⟩
   · obtain ⟨w', z⟩ := I.cell y c e
     exact ⟨w', z.sameBut hs (cne y c e)⟩
   · obtain ⟨e, n, ne, nf, d⟩ := I.pin p hp
     exact ⟨(hs.2 p.1 ne).trans e, n, ne, nf, d⟩
 · have hfn : X.fn x = true := by
     rcases hf with z | z
     · exact z
     · rw [z] at hk; cases hk
   obtain ⟨c, hc⟩ := I.ok.has x (.inl hk)
   obtain ⟨w', z⟩ := I.cell x c hc
   refine wpAny_storeName_cell I.ok.kind hk hc z (fun h' hc' hs => ?_)
   obtain ⟨oc, hoc, hocd⟩ := id z
   refine h { s with heap := h' } ⟨I.ok, I.os, I.bare, ⟨fun b o e n hb hx => ?_, fun b o e n hb hx => ?_, I.base.free, fun b o e hx => ?_, I.base.tups, I.base.frzs, I.base.tbls⟩, ⟨m, hn.sameBut hs (Ne.symm (cne x c hc)), fun j y v' e1 e2 e3 => ?_⟩, fun y c' e => ?_, I.free, I.freeC, fun p hp => ?_, tracked ⟨oc, hoc, I.freeC x c hc⟩ hs, by simpa using I.len⟩ ⟨c, hs, .inr hc⟩
   · exact (hs.2 b (Nat.ne_of_lt (Nat.lt_of_lt_of_le (Heap.lt_size e) (I.ok.cab x c hfn hc)))).trans (I.base.keep b o e n hb hx)
   · obtain ⟨sl, e1⟩ := I.base.slot b o e n hb hx
     exact ⟨sl, (hs.2 b (Nat.ne_of_lt (Nat.lt_of_lt_of_le (Heap.lt_size e) (I.ok.cab x c hfn hc)))).trans e1⟩
   · obtain ⟨o', e1⟩ := I.base.there b o e hx
     exact ⟨o', (hs.2 b (Nat.ne_of_lt (Nat.lt_of_lt_of_le (Heap.lt_size e) (I.ok.cab x c hfn hc)))).trans e1⟩
   · by_cases hj : j = i
     · subst hj
       rw [hi] at e1; cases e1
       rw [List.getElem?_set_self hiσ] at e2
       cases e2
       exact ⟨u, r, .inr ⟨.inl hk, c, hc, hc'⟩⟩
     · rw [List.getElem?_set_ne (Ne.symm hj)] at e2
       obtain ⟨u', r', q⟩ := hl j y v' e1 e2 e3
       refine ⟨u', r', ?_⟩
       rcases q with q | ⟨k, c', e, z'⟩
       · exact .inl q
       · refine .inr ⟨k, c', e, z'.sameBut hs ?_⟩
         rintro rfl
         exact hj (sJ hN e1 (I.ok.inj _ _ _ e hc ▸ hi))
   · by_cases hcc : c' = c
     · subst hcc; exact ⟨_, hc'⟩
     · obtain ⟨w2, z2⟩ := I.cell y c' e
       exact ⟨w2, z2.sameBut hs hcc⟩
   · obtain ⟨e, n, ne, nf, d⟩ := I.pin p hp
     refine ⟨(hs.2 p.1 ?_).trans e, n, ne, nf, d⟩
     intro q
     rw [q, hoc] at e
     have q' : oc = p.2 := Option.some.inj e
     exact d w' (by rw [← q']; exact hocd)
theorem kO {M : Model} {A : Around} {E : Value → Shared → Prop} {i : Nat} {x : Str} {v : V} {u : Value} {Q : Unit → Shared → Prop} (I : Inv X pins σ H s) (hN : X.N.Nodup) (hi : X.N[i]? = some x) (hx : Loc X.env.scope x) (r : bY v u)
   (h : ∀ s', Inv X pins (σ.set i (some v)) H s' → Q () s') (hf : X.fn x = true ∨ X.env.scope.names.lookup x = some .local := by first | exact .inl rfl | exact .inr rfl | assumption) : wpAny M A (storeName X.env x u) Q E s :=
 aE8 I hN hi hx r (fun s' I' _ => h s' I') hf
theorem Inv.call' {s' : Shared} {ch : List Addr} (I : Inv X pins σ H s) (ho : s'.os = s.os) (u : Un (frs X.stack) ch H H' s.heap s'.heap) (hok : HOk X.prog X.w H' s'.heap) (hg : AllBare s'.gens)
   (hch : ∀ b ∈ ch, (b ∈ X.ex ∨ X.s₀.heap.objs.size ≤ b) ∧ b ≠ X.env.locals ∧ (∀ x c, X.env.cells.lookup x = some c → c ≠ b) ∧ ∀ p ∈ X.pn ++ pins, p.1 ≠ b) : Inv X pins σ H' s' := by
 obtain ⟨h', g', d', t', o'⟩ := s'
 have e : o' = s.os := ho
 subst e
 exact I.call (g' := g') (t' := t') (d' := d') u hok hg hch
end
abbrev XK := Value → Option Addr → Hp → Prop
abbrev St := List (Option V)
abbrev VK := V → Hp → Prop
abbrev TE := St → Hp → VK → Prop
abbrev TT := St → Hp → (Bool → Hp → Prop) → Prop
abbrev TA := St → Hp → (List V → Hp → Prop) → Prop
structure Ends where
 nx : St → Hp → Prop
 rt : VK
 bk : St → Hp → Prop := fun _ _ => False
 ct : St → Hp → Prop := fun _ _ => False
abbrev TS := Ends → St → Hp → Prop
def EP (X : Cx) (pins : List (Addr × Obj)) (σ : St) (Q : VK) (u : Value) (s' : Shared) : Prop := ∃ v H', Inv X pins σ H' s' ∧ bY v u ∧ Q v H'
def TP (X : Cx) (pins : List (Addr × Obj)) (σ : St) (Q : Bool → Hp → Prop) (b : Bool) (s' : Shared) : Prop := ∃ H', Inv X pins σ H' s' ∧ Q b H'
def AP (X : Cx) (pins : List (Addr × Obj)) (σ : St) (Q : List V → Hp → Prop) (us : List Value) (s' : Shared) : Prop := ∃ vs H', Inv X pins σ H' s' ∧ Vals vs us ∧ Q vs H'
def SP (X : Cx) (pins : List (Addr × Obj)) (D : Ends) (f : Flow) (s' : Shared) : Prop :=
 match f with
 | .next => ∃ σ' H', Inv X pins σ' H' s' ∧ D.nx σ' H'
 | .brk => ∃ σ' H', Inv X pins σ' H' s' ∧ D.bk σ' H'
 | .cont => ∃ σ' H', Inv X pins σ' H' s' ∧ D.ct σ' H'
 | .ret u => ∃ v σ' H', Inv X pins σ' H' s' ∧ bY v u ∧ D.rt v H'
def PE (X : Cx) (e : Expr) (t : TE) : Prop :=
 ∀ (pins : List (Addr × Obj)) (s : Shared) (σ : St) (H : Hp) (Q : VK), Inv X pins σ H s → t σ H Q → wpAny (model X.prog X.w) X.A (eval e X.env) (EP X pins σ Q) X.xe s
def PT (X : Cx) (e : Expr) (t : TT) : Prop :=
 ∀ (pins : List (Addr × Obj)) (s : Shared) (σ : St) (H : Hp) (Q : Bool → Hp → Prop), Inv X pins σ H s → t σ H Q → wpAny (model X.prog X.w) X.A (isTrue e X.env (eval e X.env)) (TP X pins σ Q) X.xe s
def PW (X : Cx) (e : Expr) (t : TT) : Prop :=
 ∀ (whole : Sem Value) (pins : List (Addr × Obj)) (s : Shared) (σ : St) (H : Hp) (Q : Bool → Hp → Prop), Inv X pins σ H s → t σ H Q → wpAny (model X.prog X.w) X.A (isTrue e X.env whole) (TP X pins σ Q) X.xe s
theorem PW.pt {X : Cx} {e : Expr} {t : TT} (h : PW X e t) : PT X e t := h _
def PA (X : Cx) (es : List Expr) (t : TA) : Prop :=
 ∀ (pos : Pos) (pins : List (Addr × Obj)) (s : Shared) (σ : St) (H : Hp) (Q : List V → Hp → Prop), Inv X pins σ H s → t σ H Q → wpAny (model X.prog X.w) X.A (spliced (backTo pos (starEach es X.env))) (AP X pins σ Q) X.xe s
def PS (X : Cx) (st : Stmt) (t : TS) : Prop :=
 ∀ (pins : List (Addr × Obj)) (s : Shared) (σ : St) (H : Hp) (D : Ends), Inv X pins σ H s → t D σ H → wpAny (model X.prog X.w) X.A (exec st X.env) (SP X pins D) X.xe s
def PSs (X : Cx) (st : List Stmt) (t : TS) : Prop :=
 ∀ (pins : List (Addr × Obj)) (s : Shared) (σ : St) (H : Hp) (D : Ends), Inv X pins σ H s → t D σ H → wpAny (model X.prog X.w) X.A (execs st X.env) (SP X pins D) X.xe s
theorem thn {α : Type} {t : Sem α} {Q Q' : α → Shared → Prop} {M : Model} {A : Around} {E : Value → Shared → Prop} {s : Shared} (h : wpAny M A t Q E s) (hQ : ∀ a s, Q a s → Q' a s) : wpAny M A t Q' E s := wpAny_mono h hQ fun _ _ x => x
end L2
namespace L2
open PySem PySem.Spec PyProof.Rows
section
variable {X : Cx}
def bB1 (i : Nat) : TE := fun σ H Q => ∃ v, σ[i]? = some (some v) ∧ Q v H
def tC (v : V) : TE := fun _ H Q => Q v H
theorem aL3 {i : Nat} {x : Str} {pos : Pos} (hN : X.N[i]? = some x) (hv : Vis X.env.scope x) (hd : (x == ("__debug__" : Str)) = false := by decide) (hcd : (x == ("__classdict__" : Str)) = false := by decide) : PE X (.Name x pos) (bB1 i) := by
 intro pins s σ H Q I h
 obtain ⟨v, e, h⟩ := h
 obtain ⟨m, hn, hl⟩ := I.loc
 obtain ⟨u, r, l⟩ := hl i x v hN e hv
 have fin : EP X pins σ Q u s := ⟨v, H, I, r, h⟩
 rcases l with ⟨hk, hm⟩ | ⟨hk, c, hc, hcell⟩
 · exact wpAny_Name (wpAny_loadName_local I.ok.kind hk hn hm fin) hd
 · rcases hk with hk | hk
   · exact wpAny_Name (wpAny_loadName_cell I.ok.kind hk hc hcell fin) hd
   · exact wpAny_Name (wpAny_loadName_free I.ok.kind hk hc hcell fin hcd) hd
theorem aE {i j pos} : PE X (.Constant (.int i) j pos) (tC (.int i)) := fun _ _ _ H _ I h => wpAny_Constant_int ⟨.int i, H, I.tok _, ⟨_, rfl⟩, h⟩
theorem cL {b j pos} : PE X (.Constant (.bool b) j pos) (tC (.bl b)) := fun _ _ _ H _ I h => Constant_bool ⟨.bl b, H, I, rfl, h⟩
theorem fN {j pos} : PE X (.Constant .none j pos) (tC .non) := fun _ _ _ H _ I h => Constant_none ⟨.non, H, I, rfl, h⟩
theorem iG {x j pos} : PE X (.Constant (.str x) j pos) (tC (.str x)) := fun _ _ _ H _ I h => Calls.Constant_str ⟨.str x, H, I.tok _, ⟨_, rfl⟩, h⟩
def Gl (X : Cx) (x : Str) : Prop := X.env.kindOf x = some .globalImplicit
theorem iU {E : Value → Shared → Prop} {pins : List (Addr × Obj)} {s : Shared} {σ : St} {H : Hp} {x : Str} {u : Value} {pos : Pos} {Q : Value → Shared → Prop} (I : Inv X pins σ H s) (hg : Gl X x) (hm : X.mg x = some u) (h : Q u s)
   (hd : (x == ("__debug__" : Str)) = false := by decide) : wpAny (model X.prog X.w) X.A (eval (.Name x pos) X.env) Q E s :=
 Calls.Name_function_global I.ok.kind hg (Calls.loadGlobal_global (by rw [I.ok.glob]; exact I.mod.glob.keeps I.bk) hm h) hd
theorem lG {E : Value → Shared → Prop} {pins : List (Addr × Obj)} {s : Shared} {σ : St} {H : Hp} {x : Str} {u : Value} {pos : Pos} {Q : Value → Shared → Prop} (I : Inv X pins σ H s) (hg : Gl X x) (hm : X.mg x = none) (hv : bootBuiltins x = some u) (h : Q u s)
   (hn : x ≠ "__name__" := by decide) (hd : (x == ("__debug__" : Str)) = false := by decide) : wpAny (model X.prog X.w) X.A (eval (.Name x pos) X.env) Q E s := by
 obtain ⟨mb, h1, h2⟩ := I.mod.blt
 exact Calls.Name_function_global I.ok.kind hg (Calls.loadGlobal_builtin (by rw [I.ok.glob]; exact I.mod.glob.keeps I.bk) hm (by rw [I.ok.blt]; exact h1.keeps I.bk) ((h2 x hn).trans hv) h) hd
theorem bB {x : Str} {v : V} {u : Value} {pos : Pos} (hg : Gl X x) (hm : X.mg x = some u) (r : bY v u) (hd : (x == ("__debug__" : Str)) = false := by decide) : PE X (.Name x pos) (tC v) :=
 fun _ _ _ H _ I h => iU I hg hm ⟨v, H, I, r, h⟩ hd
theorem dL {x : Str} {v : V} {u : Value} {pos : Pos} (hg : Gl X x) (hm : X.mg x = none) (hv : bootBuiltins x = some u) (r : bY v u) (hn : x ≠ "__name__" := by decide) (hd : (x == ("__debug__" : Str)) = false := by decide) : PE X (.Name x pos) (tC v) :=
 fun _ _ _ H _ I h => lG I hg hm hv ⟨v, H, I, r, h⟩ hn hd
variable {a b : Expr} {ta tb : TE} {pos : Pos}
def PC (X : Cx) (op : CmpOp) (a b : Expr) (t : TE) : Prop :=
 ∀ (pins : List (Addr × Obj)) (s : Shared) (σ : St) (H : Hp) (Q : VK), Inv X pins σ H s → t σ H Q →
   wpAny (model X.prog X.w) X.A (eval a X.env) (fun v s₁ => wpAny (model X.prog X.w) X.A (eval b X.env) (fun u s₂ => wpAny (model X.prog X.w) X.A (compareOp op v u) (EP X pins σ Q) X.xe s₂) X.xe s₁) X.xe s
def tB (t : TE) : TT := fun σ H Q => t σ H fun x H1 => ∃ c, x = .bl c ∧ Q c H1
theorem aW8 {op : CmpOp} {t : TE} (h : PC X op a b t) (h1 : behindInMarks op b = false := by first | exact nobehind _ (by decide) (by decide) | rfl) : PT X (.Compare a [op] [b] pos) (tB t) := by
 intro pins s σ H Q I hw
 refine wpAny_isTrue_Compare1 (thn (h pins s σ H _ I hw) fun v s1 h1 => thn h1 fun u s2 h2 => thn h2 fun c s3 ⟨x, H1, I1, r1, q1⟩ => ?_) h1
 obtain ⟨d, rfl, q⟩ := q1
 cases r1
 exact wpAny_truthy_bool ⟨H1, I1, q⟩
theorem bK {e : Expr} {t : TE} (h : PE X e t) (he : ∀ whole, isTrue e X.env whole = (do let v ← whole; standAt e.pos; holding [v] (truthy v)) := by intro _; rfl) : PT X e (tB t) := by
 intro pins s σ H Q I hw
 refine isTrue_plain (thn (h pins s σ H _ I hw) fun v s1 ⟨x, H1, I1, r1, q1⟩ => ?_) (he _)
 obtain ⟨d, rfl, q⟩ := q1
 cases r1
 exact wpAny_truthy_bool ⟨H1, I1, q⟩
variable {tA tB' : TT} {rest : List Expr}
def tOr (t u : TT) : TT := fun σ H Q => t σ H fun c H1 => if c = true then Q true H1 else u σ H1 Q
def bD6 (t : TT) : TT := fun σ H Q => t σ H fun c H1 => Q (!c) H1
theorem zK (ha : PT X a tA) : PW X (.BoolOp .Or [a] pos) tA := by
 intro wh pins s σ H Q I h
 refine isTrue_or (thn (ha pins s σ H Q I h) fun c s1 e => ?_)
 cases c with
 | false => exact isTrue_or_nil e
 | true => exact e
theorem aK8 (ha : PT X a tA) (hb : PW X (.BoolOp .Or (b :: rest) pos) tB') : PW X (.BoolOp .Or (a :: b :: rest) pos) (tOr tA tB') := by
 intro wh pins s σ H Q I h
 refine isTrue_or (thn (ha pins s σ H _ I h) fun c s1 ⟨H1, I1, q1⟩ => ?_)
 cases c with
 | true => exact ⟨H1, I1, q1⟩
 | false => exact hb wh pins s1 σ H1 Q I1 q1
theorem bJ (ha : PT X a tA) : PT X (.UnaryOp .Not a pos) (bD6 tA) := by
 intro pins s σ H Q I h
 exact isTrue_not (ha pins s σ H (fun c H1 => Q (!c) H1) I h)
def bB6 (ta tb : TE) : TE := fun σ H Q => ta σ H fun x H1 => ∃ c, x = .bl c ∧ if c = true then tb σ H1 Q else Q (.bl false) H1
def bB2 (ta : TE) : TE := fun σ H Q => ta σ H fun x H1 => ∃ c, x = .bl c ∧ Q (.bl (!c)) H1
theorem vZ {op} {t : TE} (h : PE X a t) : PE X (.BoolOp op [a] pos) t := fun pins s σ H Q I hw => BoolOp_one (h pins s σ H Q I hw)
theorem pP (ha : PE X a ta) (hb : PE X (.BoolOp .And (b :: rest) pos) tb) : PE X (.BoolOp .And (a :: b :: rest) pos) (bB6 ta tb) := by
 intro pins s σ H Q I h
 refine BoolOp_and (thn (ha pins s σ H _ I h) fun v s1 ⟨x, H1, I1, r1, q1⟩ => ?_)
 obtain ⟨c, rfl, q1⟩ := q1
 cases r1
 refine wpAny_truthy_bool ?_
 cases c with
 | true => exact hb pins s1 σ H1 Q I1 q1
 | false => exact ⟨.bl false, H1, I1, rfl, q1⟩
theorem aL4 (ha : PE X a ta) : PE X (.UnaryOp .Not a pos) (bB2 ta) := by
 intro pins s σ H Q I h
 refine UnaryOp_ (thn (ha pins s σ H _ I h) fun v s1 ⟨x, H1, I1, r1, q1⟩ => ?_)
 obtain ⟨c, rfl, q1⟩ := q1
 cases r1
 exact not_of (wpAny_truthy_bool ⟨.bl (!c), H1, I1, rfl, q1⟩)
def tIf (t : TT) (ta tb : TE) : TE := fun σ H Q => t σ H fun c H1 => if c = true then ta σ H1 Q else tb σ H1 Q
theorem xW {c : Expr} (hc : PT X c tA) (ha : PE X a ta) (hb : PE X b tb) : PE X (.IfExp c a b pos) (tIf tA ta tb) := by
 intro pins s σ H Q I h
 refine wpAny_IfExp (thn (hc pins s σ H _ I h) fun d s1 ⟨H1, I1, q1⟩ => ?_)
 cases d with
 | true => exact ha pins s1 σ H1 Q I1 q1
 | false => exact hb pins s1 σ H1 Q I1 q1
end
end L2
namespace L2
open PySem PySem.Spec PyProof.Rows
def SqL (K : W.Frag) (H : Hp) (a : Addr) (xs : List V) : Prop :=
 Rd H a (.lst xs) ∨
   ∃ (o : Obj) (its : Array Value) (n : Nat), K.lookup a = some o ∧ o.cls = .type "list" ∧ o.dict = none ∧ o.data = .seq its n ∧ its.size ≤ sizeLine ∧ Vals xs its.toList
def SqT (K : W.Frag) (H : Hp) (a : Addr) (xs : List V) : Prop :=
 Rd H a (.tup xs) ∨
   ∃ (o : Obj) (its : Array Value) (n : Nat), K.lookup a = some o ∧ o.cls = .type "tuple" ∧ o.data = .seq its n ∧ its.size ≤ sizeLine ∧ Vals xs its.toList
def bG3 : Value → Option V
 | .none => some .non
 | .bool b => some (.bl b)
 | .int i _ => some (.int i)
 | .str x _ => some (.str x)
 | .bytes b _ => some (.byt b)
 | .float b _ => some (.flt b)
 | .ref a => some (.ref a)
 | .type n => some (.ty n)
 | _ => none
theorem bY.abs {x : V} {u : Value} (r : bY x u) : bG3 u = some x := by
 cases x with
 | non => cases r; rfl
 | bl _ => cases r; rfl
 | int _ => obtain ⟨t, rfl⟩ := r; rfl
 | str _ => obtain ⟨t, rfl⟩ := r; rfl
 | byt _ => obtain ⟨t, rfl⟩ := r; rfl
 | flt _ => obtain ⟨t, rfl⟩ := r; rfl
 | ref _ => cases r; rfl
 | ty _ => cases r; rfl
theorem bY.inj {x y : V} {u : Value} (r : bY x u) (q : bY y u) : x = y := Option.some.inj (r.abs.symm.trans q.abs)
theorem Vals.inj : ∀ {xs ys : List V} {us : List Value}, Vals xs us → Vals ys us → xs = ys
 | _, _, _, .nil, .nil => rfl
 | _, _, _, .cons r t, .cons r' t' => by rw [r.inj r', Vals.inj t t']
section
variable {X : Cx} {pins : List (Addr × Obj)} {σ : St} {H : Hp} {s : Shared} {a : Addr} {xs ys : List V}
theorem SqL.of {K : W.Frag} (h : H a = some (.lst xs)) : SqL K H a xs := .inl (.inl h)
theorem SqT.of {K : W.Frag} (h : H a = some (.tup xs)) : SqT K H a xs := .inl (.inl h)
theorem Inv.list (I : Inv X pins σ H s) (h : SqL X.K H a xs) : ∃ its : List Value, Vals xs its ∧ PlainL s.heap a its.toArray ∧ xs.length ≤ sizeLine := by
 rcases h with h | ⟨o, its, n, hk, hc, hd, hs, hz, r⟩
 · obtain ⟨z, its, n, r, e⟩ := h.ok I.hok
   exact ⟨its, r, ⟨_, n, e, rfl, rfl, rfl⟩, z⟩
 · refine ⟨its.toList, r, ⟨o, n, I.kIn a o hk, hc, hd, by simpa using hs⟩, ?_⟩
   have e := r.length
   simp only [Array.length_toList] at e
   omega
theorem Inv.tuple (I : Inv X pins σ H s) (h : SqT X.K H a xs) : ∃ its : List Value, Vals xs its ∧ IsTup s.heap a its.toArray ∧ xs.length ≤ sizeLine := by
 rcases h with h | ⟨o, its, n, hk, hc, hs, hz, r⟩
 · obtain ⟨z, its, r, p⟩ := h.ok I.hok
   exact ⟨its, r, p, z⟩
 · refine ⟨its.toList, r, ⟨o, I.kIn a o hk, hc, n, by simpa using hs⟩, ?_⟩
   have e := r.length
   simp only [Array.length_toList] at e
   omega
theorem Inv.list_inj (I : Inv X pins σ H s) (h : SqL X.K H a xs) (h' : SqL X.K H a ys) : xs = ys := by
 obtain ⟨its, r, ⟨o, n, e, _, _, d⟩, _⟩ := I.list h
 obtain ⟨its', r', ⟨o', n', e', _, _, d'⟩, _⟩ := I.list h'
 rw [e] at e'; cases e'
 rw [d] at d'
 injection d' with d1 _
 have : its = its' := by simpa using congrArg Array.toList d1
 subst this
 exact r.inj r'
theorem Inv.tuple_inj (I : Inv X pins σ H s) (h : SqT X.K H a xs) (h' : SqT X.K H a ys) : xs = ys := by
 obtain ⟨its, r, ⟨o, e, _, n, d⟩, _⟩ := I.tuple h
 obtain ⟨its', r', ⟨o', e', _, n', d'⟩, _⟩ := I.tuple h'
 rw [e] at e'; cases e'
 rw [d] at d'
 injection d' with d1 _
 have : its = its' := by simpa using congrArg Array.toList d1
 subst this
 exact r.inj r'
end
abbrev Cx.wish (X : Cx) (E : Value → Shared → Prop) : Cx := { X with xe := E }
abbrev Cx.nox (X : Cx) : Cx := X.wish fun _ _ => False
theorem Cx.Ok.wish {X : Cx} (ok : X.Ok) (E : Value → Shared → Prop) : (X.wish E).Ok :=
 ⟨ok.mod, ok.kind, ok.glob, ok.blt, ok.above, ok.inj, ok.has, ok.cab, ok.hd, ok.frames, ok.stk, ok.exf, ok.bs, ok.bsz, ok.noex, ok.exfs, ok.funs, ok.frf⟩
theorem Cx.Ok.unwish {X : Cx} {E : Value → Shared → Prop} (ok : (X.wish E).Ok) : X.Ok :=
 ⟨ok.mod, ok.kind, ok.glob, ok.blt, ok.above, ok.inj, ok.has, ok.cab, ok.hd, ok.frames, ok.stk, ok.exf, ok.bs, ok.bsz, ok.noex, ok.exfs, ok.funs, ok.frf⟩
section
variable {X : Cx} {pins : List (Addr × Obj)} {σ : St} {H : Hp} {s : Shared} {E : Value → Shared → Prop}
theorem Inv.wish (I : Inv X pins σ H s) (E : Value → Shared → Prop) : Inv (X.wish E) pins σ H s := ⟨I.ok.wish E, I.os, I.bare, I.base, I.loc, I.cell, I.free, I.freeC, I.pin, I.hok, I.len⟩
theorem Inv.unwish (I : Inv (X.wish E) pins σ H s) : Inv X pins σ H s := ⟨I.ok.unwish, I.os, I.bare, I.base, I.loc, I.cell, I.free, I.freeC, I.pin, I.hok, I.len⟩
theorem SP.unwish {D : Ends} {f : Flow} {s' : Shared} (h : SP (X.wish E) pins D f s') : SP X pins D f s' := by
 cases f with
 | next => obtain ⟨σ', H', I, q⟩ := h; exact ⟨σ', H', I.unwish, q⟩
 | brk => obtain ⟨σ', H', I, q⟩ := h; exact ⟨σ', H', I.unwish, q⟩
 | cont => obtain ⟨σ', H', I, q⟩ := h; exact ⟨σ', H', I.unwish, q⟩
 | ret u => obtain ⟨v, σ', H', I, r, q⟩ := h; exact ⟨v, σ', H', I.unwish, r, q⟩
theorem PSs.nox {st : List Stmt} {t : TS} (h : PSs X.nox st t) : PSs X st t := fun pins s σ H D I hw =>
 wpAny_mono (h pins s σ H D (I.wish _) hw) (fun _ _ q => q.unwish) fun _ _ z => False.elim z
end
section
variable {X : Cx} {st : Stmt} {rest : List Stmt} {t u : TS} {e : Expr} {te : TE} {pos : Pos}
def aU5 : TS := fun D σ H => D.nx σ H
def bD4 (t u : TS) : TS := fun D σ H => t { D with nx := u D } σ H
theorem aL : PSs X [] aU5 := fun _ _ σ H _ I h => wpAny_execs_nil ⟨σ, H, I, h⟩
theorem aC (h1 : PS X st t) (h2 : PSs X rest u) : PSs X (st :: rest) (bD4 t u) := by
 intro pins s σ H D I h
 refine wpAny_execs_cons (thn (h1 pins s σ H { D with nx := u D } I h) fun f s1 q => ?_)
 cases f with
 | next =>
   obtain ⟨σ', H', I', q⟩ := q
   exact h2 pins s1 σ' H' D I' q
 | ret v => exact q
 | brk => exact q
 | cont => exact q
theorem aH (h1 : PS X st t) : PSs X [st] t := by
 intro pins s σ H D I h
 refine wpAny_execs_cons (thn (h1 pins s σ H D I h) fun f s1 q => ?_)
 cases f with
 | next => exact wpAny_execs_nil q
 | ret v => exact q
 | brk => exact q
 | cont => exact q
theorem Inv.quiet {pins : List (Addr × Obj)} {σ : St} {H : Hp} {s : Shared} (I : Inv X pins σ H s) : interactive X.env = false := by simp [interactive, I.ok.kind]
def bB4 (te : TE) : TS := fun D σ H => te σ H fun _ H1 => D.nx σ H1
theorem aW (he : PE X e te) (hs : swapsWith e none pos.line X.env = pure false := by rfl) : PS X (.Expr e pos) (bB4 te) := by
 intro pins s σ H D I h
 exact wpAny_Expr_any (thn (he pins s σ H _ I h) fun v s1 ⟨x, H1, I1, r1, q1⟩ => ⟨σ, H1, I1, q1⟩) I.quiet hs
def bD5 (te : TE) : TS := fun D σ H => te σ H D.rt
theorem aP (he : PE X e te) : PS X (.Return (some e) pos) (bD5 te) := by
 intro pins s σ H D I h
 exact wpAny_Return_some (thn (he pins s σ H _ I h) fun v s1 ⟨x, H1, I1, r1, q1⟩ => ⟨x, σ, H1, I1, r1, q1⟩)
def bB3 (c : TT) (t u : TS) : TS := fun D σ H => c σ H fun b H1 => if b = true then t D σ H1 else u D σ H1
theorem aT {c : Expr} {a b : List Stmt} {tc : TT} (hc : PT X c tc) (ha : PSs X a t) (hb : PSs X b u) : PS X (.If c a b pos) (bB3 tc t u) := by
 intro pins s σ H D I h
 refine wpAny_If (thn (hc pins s σ H _ I h) fun d s1 ⟨H1, I1, q1⟩ => ?_)
 cases d with
 | true => exact ha pins s1 σ H1 D I1 q1
 | false => exact hb pins s1 σ H1 D I1 q1
def aI9 : TS := fun _ _ _ => False
theorem aG {sts : List Stmt} : PSs X sts aI9 := fun _ _ _ _ _ _ h => h.elim
end
abbrev TG := V → St → Hp → (St → Hp → Prop) → Prop
abbrev TGs := List V → St → Hp → (St → Hp → Prop) → Prop
def PG (X : Cx) (target : Expr) (t : TG) : Prop :=
 ∀ (pins : List (Addr × Obj)) (s : Shared) (σ : St) (H : Hp) (v : V) (u : Value) (Q : St → Hp → Prop), Inv X pins σ H s → bY v u → t v σ H Q →
   wpAny (model X.prog X.w) X.A (assign target X.env u) (fun _ s' => ∃ σ' H', Inv X pins σ' H' s' ∧ Q σ' H') X.xe s
def PGs (X : Cx) (ts : List Expr) (t : TGs) : Prop :=
 ∀ (pins : List (Addr × Obj)) (s : Shared) (σ : St) (H : Hp) (vs : List V) (us : List Value) (Q : St → Hp → Prop), Inv X pins σ H s → Vals vs us → t vs σ H Q →
   wpAny (model X.prog X.w) X.A (assignInOrder ((assignEach ts X.env).map (·.2)) us) (fun _ s' => ∃ σ' H', Inv X pins σ' H' s' ∧ Q σ' H') X.xe s
abbrev TSet := V → V → V → Hp → (Hp → Prop) → Prop
def PSet (X : Cx) (t : TSet) : Prop :=
 ∀ (pins : List (Addr × Obj)) (s : Shared) (σ : St) (H : Hp) (o i v : V) (ov iv u : Value) (Q : Hp → Prop), Inv X pins σ H s → bY o ov → bY i iv → bY v u → t o i v H Q →
   wpAny (model X.prog X.w) X.A (setItem ov iv u) (fun _ s' => ∃ H', Inv X pins σ H' s' ∧ Q H') X.xe s
abbrev TIp := V → V → Hp → VK → Prop
def PIp (X : Cx) (op : Operator) (t : TIp) : Prop :=
 ∀ (pins : List (Addr × Obj)) (s : Shared) (σ : St) (H : Hp) (x y : V) (v u : Value) (Q : VK), Inv X pins σ H s → bY x v → bY y u → t x y H Q →
   wpAny (model X.prog X.w) X.A (inplaceOp op v u) (EP X pins σ Q) X.xe s
section
variable {X : Cx} {pos : Pos}
def aV4 (i : Nat) : TG := fun v σ H Q => Q (σ.set i (some v)) H
theorem bT {i : Nat} {x : Str} (hN : X.N.Nodup) (hi : X.N[i]? = some x) (hx : Loc X.env.scope x) (hf : X.fn x = true ∨ X.env.scope.names.lookup x = some .local := by first | exact .inl rfl | exact .inr rfl | assumption) : PG X (.Name x pos) (aV4 i) := by
 intro pins s σ H v u Q I r h
 exact wpAny_assign_Name (kO I hN hi hx r (fun s' I' => ⟨_, H, I', h⟩) hf)
def bF9 : TGs := fun vs σ H Q => vs = [] ∧ Q σ H
def bD0 (t : TG) (u : TGs) : TGs := fun vs σ H Q => ∃ v r, vs = v :: r ∧ t v σ H fun σ' H' => u r σ' H' Q
theorem aB7 : PGs X [] bF9 := by
 intro pins s σ H vs us Q I r h
 obtain ⟨e, h⟩ := h
 subst e
 cases r
 exact assignInOrder_nil ⟨σ, H, I, h⟩
theorem oP {e : Expr} {es : List Expr} {t : TG} {u : TGs} (h1 : PG X e t) (h2 : PGs X es u)
   (hs : (assignEach (e :: es) X.env).map (·.2) = assign e X.env :: (assignEach es X.env).map (·.2) := by rfl) : PGs X (e :: es) (bD0 t u) := by
 intro pins s σ H vs us Q I r h
 obtain ⟨v, vr, e1, h⟩ := h
 subst e1
 cases r with
 | cons r rr =>
   rw [hs]
   refine assignInOrder_cons (thn (h1 pins s σ H _ _ _ I r h) fun _ s1 ⟨σ1, H1, I1, q1⟩ => ?_)
   exact h2 pins s1 σ1 H1 _ _ Q I1 rr q1
def bF7 (K : W.Frag) (n : Nat) (t : TGs) : TG := fun v σ H Q => ∃ a xs, v = .ref a ∧ SqT K H a xs ∧ xs.length = n ∧ t xs σ H Q
theorem aL2 {es : List Expr} {k : Nat} {t : TGs} {n : Nat} (hc : X.calm = true) (h : PGs X es t)
   (hn : (assignEach es X.env).length = n := by rfl) (hst : (assignEach es X.env).findIdx? (·.1) = none := by rfl) : PG X (.Tuple es k pos) (bF7 X.K n t) := by
 intro pins s σ H v u Q I r hw
 obtain ⟨a, xs, e1, hq, hl, hw⟩ := hw
 subst e1
 cases r
 obtain ⟨its, rv, ht, hz⟩ := I.tuple hq
 refine assign_Tuple_tuple (I.ok.hd hc) ht (by simp [hn, ← hl, rv.length]) hst fun h' hx => ?_
 have I1 : Inv X pins σ H { s with heap := h' } := I.kept (t' := s.toks) fun b o e => hx b o (Nat.ne_of_lt (Heap.lt_size e)) e
 exact h pins _ σ H xs _ Q I1 (by simpa using rv) hw
def bF8 (to ti : TE) (t : TSet) : TG := fun v σ H Q => to σ H fun o H1 => ti σ H1 fun i H2 => t o i v H2 fun H3 => Q σ H3
theorem aX2 {o i : Expr} {to ti : TE} {t : TSet} (ho : PE X o to) (hi : PE X i ti) (hs : PSet X t)
   (ha : ∀ v, assign (.Subscript o i pos) X.env v = (do
     let ov ← holding [v] (eval o X.env)
     let iv ← holding [v, ov] (eval i X.env)
     standAt pos
     holding [v, ov, iv] (setItem ov iv v)
     release [v, ov, iv] []) := by intro _; rfl) : PG X (.Subscript o i pos) (bF8 to ti t) := by
 intro pins s σ H v u Q I r h
 rw [ha]
 refine wpAny_bind (wpAny_holding (thn (ho pins s σ H _ I h) fun ov s1 ⟨x, H1, I1, r1, q1⟩ => ?_))
 refine wpAny_bind (wpAny_holding (thn (hi pins s1 σ H1 _ I1 q1) fun iv s2 ⟨y, H2, I2, r2, q2⟩ => ?_))
 refine wpAny_bind (wpAny_standAt (wpAny_bind (wpAny_holding (thn (hs pins s2 σ H2 x y v ov iv u _ I2 r1 r2 r q2) fun _ s3 ⟨H3, I3, q3⟩ => ?_))))
 exact wpAny_release ⟨σ, H3, I3, q3⟩
def bB5 (te : TE) (g : TG) : TS := fun D σ H => te σ H fun x H1 => g x σ H1 D.nx
theorem aX1 {tg e : Expr} {te : TE} {g : TG} (he : PE X e te) (hg : PG X tg g) (hs : swapsWithSole [tg] e pos.line X.env = pure false := by rfl) (hw : swappedStores [tg] e X.env = pure none := by rfl)
   (h1 : (assignEach [tg] X.env).map (·.2) = [assign tg X.env] := by rfl) : PS X (.Assign [tg] e pos) (bB5 te g) := by
 intro pins s σ H D I h
 refine wpAny_Assign_stores (thn (he pins s σ H _ I h) fun v s1 ⟨x, H1, I1, r1, q1⟩ => ?_) hs hw
 rw [h1]
 exact thn (hg pins s1 σ H1 x v _ I1 r1 q1) fun _ s2 q => q
theorem aM {i : Nat} {x : Str} {e : Expr} {te : TE} {pos' : Pos} (hN : X.N.Nodup) (hi : X.N[i]? = some x) (hx : Loc X.env.scope x) (he : PE X e te) (hs : swapsWith e (some (.Name x pos')) pos.line X.env = pure false := by rfl) (hf : X.fn x = true ∨ X.env.scope.names.lookup x = some .local := by first | exact .inl rfl | exact .inr rfl | assumption) :
   PS X (.Assign [.Name x pos'] e pos) (bB5 te (aV4 i)) := by
 intro pins s σ H D I h
 refine wpAny_Assign_Name (thn (he pins s σ H _ I h) fun v s1 ⟨y, H1, I1, r1, q1⟩ => ?_) hs
 exact kO I1 hN hi hx r1 (fun s2 I2 => ⟨_, H1, I2, q1⟩) hf
def bE1 (i : Nat) (te : TE) (ti : TIp) : TS := fun D σ H => ∃ x, σ[i]? = some (some x) ∧ te σ H fun y H1 => ti x y H1 fun z H2 => D.nx (σ.set i (some z)) H2
theorem aX0 {i : Nat} {x : Str} {e : Expr} {te : TE} {op : Operator} {ti : TIp} {pos' : Pos} (hN : X.N.Nodup) (hi : X.N[i]? = some x) (hx : Loc X.env.scope x) (he : PE X e te) (ho : PIp X op ti) (hf : X.fn x = true ∨ X.env.scope.names.lookup x = some .local := by first | exact .inl rfl | exact .inr rfl | assumption) :
   PS X (.AugAssign (.Name x pos') op e pos) (bE1 i te ti) := by
 intro pins s σ H D I h
 obtain ⟨v, e1, h⟩ := h
 obtain ⟨m, hn, hl⟩ := I.loc
 have vis : Vis X.env.scope x := by rcases hx with k | k; exact .inl k; exact .inr (.inl k)
 obtain ⟨u, r, l⟩ := hl i x v hi e1 vis
 refine wpAny_AugAssign_Name ?_
 have go : wpAny (model X.prog X.w) X.A (eval e X.env) (fun w s₂ => wpAny (model X.prog X.w) X.A (inplaceOp op u w) (fun r s₃ => wpAny (model X.prog X.w) X.A (storeName X.env x r) (fun _ => SP X pins D .next) X.xe s₃) X.xe s₂) X.xe s := by
   refine thn (he pins s σ H _ I h) fun w s1 ⟨y, H1, I1, r1, q1⟩ => ?_
   refine thn (ho pins s1 σ H1 v y u w _ I1 r r1 q1) fun z s2 ⟨zv, H2, I2, r2, q2⟩ => ?_
   exact kO I2 hN hi hx r2 (fun s3 I3 => ⟨_, H2, I3, q2⟩) hf
 rcases l with ⟨hk, hm⟩ | ⟨hk, c, hc, hcell⟩
 · exact wpAny_loadName_local I.ok.kind hk hn hm go
 · rcases hk with hk | hk
   · exact wpAny_loadName_cell I.ok.kind hk hc hcell go
   · rcases hx with k | k
     · have : X.env.scope.names.lookup x = some .free := hk
       rw [k] at this; cases this
     · have : X.env.scope.names.lookup x = some .free := hk
       rw [k] at this; cases this
def ipI (f : Int → Int → Int) : TIp := fun x y H Q => ∃ i j, x = .int i ∧ y = .int j ∧ Q (.int (f i j)) H
theorem aZ5 : PIp X .Add (ipI fun i j => i + j) := by
 intro pins s σ H x y v u Q I r1 r2 h
 obtain ⟨i, j, e1, e2, q⟩ := h
 subst e1; subst e2
 obtain ⟨t, rfl⟩ := r1
 obtain ⟨t', rfl⟩ := r2
 exact iadd_int ⟨.int _, H, I.tok _, ⟨_, rfl⟩, q⟩
end
section
variable {X : Cx} {pos : Pos}
def aW3 (c : TT) (tb : TS) : TS := fun D σ H => ∃ W : Nat → St → Hp → Prop, (∃ m, W m σ H) ∧ ∀ m σ H, W m σ H →
 c σ H fun b H1 => if b = true then ∃ N : St → Hp → Prop, (∀ σ' H', N σ' H' → ∃ m', m' < m ∧ W m' σ' H') ∧ tb { D with nx := N, ct := N, bk := D.nx } σ H1 else D.nx σ H1
theorem aL0 {c : Expr} {body : List Stmt} {tc : TT} {tb : TS} (hp : PassesOwn (model X.prog X.w) X.A X.env X.xe) (hc : PT X c tc) (hb : PSs X body tb) : PS X (.While c body [] pos) (aW3 tc tb) := by
 intro pins s σ H D I h
 obtain ⟨W, ⟨m0, w0⟩, turn⟩ := h
 refine wpAny_While (codeAny_whileLoop (fun n s' => ∃ σ' H', Inv X pins σ' H' s' ∧ W n σ' H') ?_ m0 ⟨σ, H, I, w0⟩)
 rintro n s1 ⟨σ1, H1, I1, w1⟩
 refine wpAny_passesOwn hp (thn (hc pins s1 σ1 H1 _ I1 (turn n σ1 H1 w1)) fun b s2 ⟨H2, I2, q2⟩ => ?_)
 cases b with
 | true =>
   obtain ⟨N, hN, q2⟩ := q2
   rw [if_pos rfl]
   refine wpAny_passesOwn hp (thn (hb pins s2 σ1 H2 _ I2 q2) fun f s3 q3 => ?_)
   cases f with
   | next =>
     obtain ⟨σ3, H3, I3, n3⟩ := q3
     obtain ⟨m', hm, w3⟩ := hN σ3 H3 n3
     exact ⟨m', hm, σ3, H3, I3, w3⟩
   | cont =>
     obtain ⟨σ3, H3, I3, n3⟩ := q3
     obtain ⟨m', hm, w3⟩ := hN σ3 H3 n3
     exact ⟨m', hm, σ3, H3, I3, w3⟩
   | brk => exact q3
   | ret v => exact q3
 | false =>
   rw [if_neg Bool.false_ne_true]
   exact wpAny_execs_nil ⟨σ1, H2, I2, q2⟩
end
structure It where
 go : Nat → Hp → Prop
 yld : Nat → Hp → V → Hp → Prop
 stop : Nat → Hp → Prop
def uN (X : Cx) (pins : List (Addr × Obj)) (H : Hp) (b : Addr) : Prop :=
 H b = none ∧ b ≠ X.env.locals ∧ b ∉ X.fs ∧ (b ∈ X.ex ∨ X.s₀.heap.objs.size ≤ b) ∧ (∀ x c, X.env.cells.lookup x = some c → c ≠ b) ∧ ∀ p ∈ X.pn ++ pins, p.1 ≠ b
theorem Inv.fpOk {X : Cx} {pins : List (Addr × Obj)} {σ : St} {H H' : Hp} {s : Shared} {b : Addr} (I : Inv X pins σ H s) (hb : s.heap.objs.size ≤ b) (hn : H' b = none) : uN X pins H' b := by
 refine ⟨hn, Nat.ne_of_gt (Nat.lt_of_lt_of_le I.lt hb), I.nofs hb, .inr (Nat.le_trans I.sz hb), fun x c e z => ?_, fun p hp z => ?_⟩
 · obtain ⟨v, q⟩ := I.cell x c e
   exact absurd (Nat.lt_of_lt_of_le q.lt (by rw [z]; exact hb)) (Nat.lt_irrefl _)
 · exact absurd (Nat.lt_of_lt_of_le (Heap.lt_size (I.pin p hp).1) (by rw [z]; exact hb)) (Nat.lt_irrefl _)
structure Turn (P : Program) (w : World) (K : W.Frag) (tg : Expr) (J : It) (fp : List Addr) (it : Addr) (tn : Nat → Heap → Prop) : Prop where
 mem : it ∈ fp
 obj : ∀ i h, tn i h → ∀ b ∈ fp, ∃ o, h.get? b = some o ∧ ∀ v, o.data ≠ .cell v
 keep : ∀ i h h', tn i h → (∀ b ∈ fp, ∀ o, h.get? b = some o → h'.get? b = some o) → tn i h'
 item : ∀ (X : Cx), X.prog = P → X.w = w → X.K = K → X.calm = true → ∀ (i : Nat) (pins : List (Addr × Obj)) (s : Shared) (σ : St) (H : Hp) (E : Value → Shared → Prop), Inv X pins σ H s → (∀ b ∈ fp, uN X pins H b) → tn i s.heap → J.go i H →
   wpAny (model P w) X.A (pyNext (.ref it)) (fun r s1 => ∃ u, r = some u ∧
     wpAny (model P w) X.A (letOwnedTupleGo tg (.ref it) u) (fun _ s2 => ∃ x H', Inv X pins σ H' s2 ∧ bY x u ∧ J.yld i H x H' ∧ tn (i + 1) s2.heap ∧ ∀ b ∈ fp, H' b = none) E s1) E s
 done : ∀ (X : Cx), X.prog = P → X.w = w → X.K = K → X.calm = true → ∀ (i : Nat) (pins : List (Addr × Obj)) (s : Shared) (σ : St) (H : Hp) (E : Value → Shared → Prop), Inv X pins σ H s → (∀ b ∈ fp, uN X pins H b) → tn i s.heap → J.stop i H →
   wpAny (model P w) X.A (pyNext (.ref it)) (fun r s1 => r = none ∧ Inv X pins σ H s1) E s
 self : ∀ (A : Around) (i : Nat) (s : Shared) (Q : Value → Shared → Prop) (E : Value → Shared → Prop), tn i s.heap → Q (.ref it) s → wpAny (model P w) A (pyIter (.ref it)) Q E s
abbrev TI := St → Hp → (It → Hp → Prop) → Prop
def PIE (X : Cx) (pins : List (Addr × Obj)) (σ : St) (tg : Expr) (R : It → Hp → Prop) (itv : Value) (s2 : Shared) : Prop :=
 ∃ (it : Addr) (fp : List Addr) (tn : Nat → Heap → Prop) (J : It) (H' : Hp), itv = .ref it ∧ Inv X pins σ H' s2 ∧ Turn X.prog X.w X.K tg J fp it tn ∧ tn 0 s2.heap ∧ (∀ b ∈ fp, uN X pins H' b) ∧ R J H'
def PI (X : Cx) (tg iter : Expr) (wi : TI) : Prop :=
 ∀ (pins : List (Addr × Obj)) (s : Shared) (σ : St) (H : Hp) (R : It → Hp → Prop), Inv X pins σ H s → wi σ H R →
   wpAny (model X.prog X.w) X.A (eval iter X.env) (fun v s1 => wpAny (model X.prog X.w) X.A (pyIter v) (PIE X pins σ tg R) X.xe s1) X.xe s
theorem aD6 {M : Model} {A : Around} {E : Value → Shared → Prop} {s : Shared} {tg : Expr} {it : Addr} {u : Value} {o : Obj} {n : String} {vs : Array Value} {Q : Unit → Shared → Prop} (ho : s.heap.get? it = some o) (hc : o.cls = .type n) (hd : o.data = .fields vs)
   (hn : ["enumerate", "zip", "dict_itemiterator", "dict_reverseitemiterator", "odict_iterator", "itertools.zip_longest", "itertools.pairwise"].contains n = false) (hQ : Q () s) : wpAny M A (letOwnedTupleGo tg (.ref it) u) Q E s := by
 unfold letOwnedTupleGo
 cases tg <;> first
   | exact wpAny_pure hQ
   | (cases u <;> first
       | exact wpAny_pure hQ
       | (refine wpAny_bind (wpAny_load ho ?_)
          rw [hc, hd]
          show wpAny M A (if (["enumerate", "zip", "dict_itemiterator", "dict_reverseitemiterator", "odict_iterator", "itertools.zip_longest", "itertools.pairwise"].contains n && vs[0]? == some (rawInt _)) = true then _ else _) Q E s
          rw [if_neg (by intro h; rw [hn, Bool.false_and] at h; cases h)]
          exact wpAny_pure hQ))
def Itl (K : W.Frag) (a : Addr) : It :=
 ⟨fun i H => ∃ xs x, SqL K H a xs ∧ xs[i]? = some x, fun i H x H' => H' = H ∧ ∀ xs, SqL K H a xs → xs[i]? = some x, fun i H => ∃ xs, SqL K H a xs ∧ xs.length ≤ i⟩
def Itt (K : W.Frag) (a : Addr) : It :=
 ⟨fun i H => ∃ xs x, SqT K H a xs ∧ xs[i]? = some x, fun i H x H' => H' = H ∧ ∀ xs, SqT K H a xs → xs[i]? = some x, fun i H => ∃ xs, SqT K H a xs ∧ xs.length ≤ i⟩
def Itr (lo : Int) (n : Nat) : It := ⟨fun i _ => i < n, fun i H x H' => H' = H ∧ x = .int (lo + i), fun i _ => n ≤ i⟩
theorem aE7 {P : Program} {w : World} {K : W.Frag} {tg : Expr} (a it : Addr) : Turn P w K tg (Itl K a) [it] it (fun i h => h.IsListIter it a i) where
 mem := by simp
 obj := fun i h st b hb => by
   have e : b = it := by simpa using hb
   subst e
   obtain ⟨o, e, c, d⟩ := st
   exact ⟨o, e, fun v z => by rw [d] at z; cases z⟩
 keep := fun i h h' st k => st.at fun o e => k it (by simp) o e
 item := by
   intro X hP hw hK hc i pins s σ H E I hf st hg
   subst hP hw hK
   obtain ⟨xs, x, hq, hx⟩ := hg
   obtain ⟨its, rv, p, hz⟩ := I.list hq
   obtain ⟨u, hu, ru⟩ := rv.get hx
   obtain ⟨f0, f1, f2, f3, f4, f5⟩ := hf it (by simp)
   refine wpAny_pyNext_list_item st p.isList (x := u) (by simpa using hu) fun h' st' sb => ?_
   have I1 : Inv X pins σ H { s with heap := h' } := I.turned (t' := s.toks) (fun b o hb e => (sb.2 b hb).trans e) f0 f1 f3 f4 f5
   obtain ⟨o, e, c, d⟩ := id st'
   exact ⟨u, rfl, aD6 (s := { s with heap := h' }) e c d (by decide) ⟨x, H, I1, ru, ⟨rfl, fun ys hy => by rw [I.list_inj hy hq]; exact hx⟩, st', fun b hb => (hf b hb).1⟩⟩
 done := by
   intro X hP hw hK hc i pins s σ H E I hf st hg
   subst hP hw hK
   obtain ⟨xs, hq, hx⟩ := hg
   obtain ⟨its, rv, p, hz⟩ := I.list hq
   obtain ⟨f0, f1, f2, f3, f4, f5⟩ := hf it (by simp)
   have hl := rv.length
   exact wpAny_pyNext_list_end (I.ok.hd hc) st p.isList (by simp; omega) fun h' eb => ⟨rfl, I.turned (t' := s.toks) (fun b o hb e => eb b o hb e) f0 f1 f3 f4 f5⟩
 self := fun _ _ _ _ _ st h => wpAny_pyIter_listiter st h
theorem zC {P : Program} {w : World} {K : W.Frag} {tg : Expr} (a it : Addr) : Turn P w K tg (Itt K a) [it] it (fun i h => h.IsTupleIter it a i) where
 mem := by simp
 obj := fun i h st b hb => by
   have e : b = it := by simpa using hb
   subst e
   obtain ⟨o, e, c, d⟩ := st
   exact ⟨o, e, fun v z => by rw [d] at z; cases z⟩
 keep := fun i h h' st k => st.at fun o e => k it (by simp) o e
 item := by
   intro X hP hw hK hc i pins s σ H E I hf st hg
   subst hP hw hK
   obtain ⟨xs, x, hq, hx⟩ := hg
   obtain ⟨its, rv, p, hz⟩ := I.tuple hq
   obtain ⟨u, hu, ru⟩ := rv.get hx
   obtain ⟨f0, f1, f2, f3, f4, f5⟩ := hf it (by simp)
   refine wpAny_pyNext_tuple_item st (show s.heap.IsTuple a its.toArray from p) (x := u) (by simpa using hu) fun h' st' sb => ?_
   have I1 : Inv X pins σ H { s with heap := h' } := I.turned (t' := s.toks) (fun b o hb e => (sb.2 b hb).trans e) f0 f1 f3 f4 f5
   obtain ⟨o, e, c, d⟩ := id st'
   exact ⟨u, rfl, aD6 (s := { s with heap := h' }) e c d (by decide) ⟨x, H, I1, ru, ⟨rfl, fun ys hy => by rw [I.tuple_inj hy hq]; exact hx⟩, st', fun b hb => (hf b hb).1⟩⟩
 done := by
   intro X hP hw hK hc i pins s σ H E I hf st hg
   subst hP hw hK
   obtain ⟨xs, hq, hx⟩ := hg
   obtain ⟨its, rv, p, hz⟩ := I.tuple hq
   obtain ⟨f0, f1, f2, f3, f4, f5⟩ := hf it (by simp)
   have hl := rv.length
   exact wpAny_pyNext_tuple_end (I.ok.hd hc) st (show s.heap.IsTuple a its.toArray from p) (by simp; omega) fun h' eb => ⟨rfl, I.turned (t' := s.toks) (fun b o hb e => eb b o hb e) f0 f1 f3 f4 f5⟩
 self := fun _ _ _ _ _ st h => wpAny_pyIter_tupleiter st h
theorem zD {P : Program} {w : World} {K : W.Frag} {tg : Expr} (it : Addr) (lo : Int) (n : Nat) : Turn P w K tg (Itr lo n) [it] it (fun i h => IsRangeIter h it (lo + (i : Nat) * 1) ((n : Int) - (i : Nat)) 1) where
 mem := by simp
 obj := fun i h st b hb => by
   have e : b = it := by simpa using hb
   subst e
   exact ⟨_, st, fun v z => by
     have z' : Data.fields _ = Data.cell v := z
     cases z'⟩
 keep := fun i h h' st k => k it (by simp) _ st
 item := by
   intro X hP hw hK hc i pins s σ H E I hf st hg
   subst hP hw hK
   obtain ⟨f0, f1, f2, f3, f4, f5⟩ := hf it (by simp)
   have W := Walks.range (prog := X.prog) (w := X.w) (I.ok.hd hc) it lo 1 n
   refine W.item i s _ _ hg st fun v h' tk hv st' kk => ?_
   obtain ⟨t, rfl⟩ := hv
   have I1 : Inv X pins σ H { s with heap := h', toks := tk } := I.turned (fun b o hb e => kk b o (by simpa using hb) e) f0 f1 f3 f4 f5
   refine ⟨_, rfl, aD6 (s := { s with heap := h', toks := tk }) (n := "range_iterator") st' rfl rfl (by decide) ⟨.int (lo + i), H, I1, ⟨t, ?_⟩, ⟨rfl, rfl⟩, st', fun b hb => (hf b hb).1⟩⟩
   rw [Int.mul_one]
 done := by
   intro X hP hw hK hc i pins s σ H E I hf st hg
   subst hP hw hK
   obtain ⟨f0, f1, f2, f3, f4, f5⟩ := hf it (by simp)
   exact wpAny_pyNext_range_end (I.ok.hd hc) st (by have : n ≤ i := hg; omega) fun h' eb => ⟨rfl, I.turned (t' := s.toks) (fun b o hb e => eb b o hb e) f0 f1 f3 f4 f5⟩
 self := fun _ _ _ _ _ st h => wpAny_pyIter_rangeiter st h
end L2
namespace L2
open PySem PySem.Spec PyProof.Rows
section
variable {X : Cx} {tg : Expr}
def bC9 (K : W.Frag) (tl : TE) : TI := fun σ H R => tl σ H fun x H1 => ∃ a, x = .ref a ∧ (∃ xs, SqL K H1 a xs) ∧ R (Itl K a) H1
def bF6 (K : W.Frag) (tl : TE) : TI := fun σ H R => tl σ H fun x H1 => ∃ a, x = .ref a ∧ (∃ xs, SqT K H1 a xs) ∧ R (Itt K a) H1
theorem dI {l : Expr} {tl : TE} (hl : PE X l tl) : PI X tg l (bC9 X.K tl) := by
 intro pins s σ H R I h
 refine thn (hl pins s σ H _ I h) fun v s1 ⟨x, H1, I1, r1, q1⟩ => ?_
 obtain ⟨a, e, ⟨xs, hq⟩, q⟩ := q1
 subst e
 cases r1
 obtain ⟨its, rv, p, hz⟩ := I1.list hq
 refine wpAny_pyIter_list p.isList ?_
 refine ⟨s1.heap.objs.size, [s1.heap.objs.size], _, _, H1, rfl, I1.kept (t' := s1.toks) fun b o e => Heap.get?_push_of_some _ e, aE7 a _, ⟨_, Heap.get?_push_size _ rfl, rfl, rfl⟩, fun b hb => ?_, q⟩
 have e : b = s1.heap.objs.size := by simpa using hb
 subst e
 exact I1.fpOk (Nat.le_refl _) (I1.hok.fresh (Nat.le_refl _))
theorem vY {l : Expr} {tl : TE} (hl : PE X l tl) : PI X tg l (bF6 X.K tl) := by
 intro pins s σ H R I h
 refine thn (hl pins s σ H _ I h) fun v s1 ⟨x, H1, I1, r1, q1⟩ => ?_
 obtain ⟨a, e, ⟨xs, hq⟩, q⟩ := q1
 subst e
 cases r1
 obtain ⟨its, rv, p, hz⟩ := I1.tuple hq
 refine wpAny_pyIter_tuple (show s1.heap.IsTuple a its.toArray from p) ?_
 refine ⟨s1.heap.objs.size, [s1.heap.objs.size], _, _, H1, rfl, I1.kept (t' := s1.toks) fun b o e => Heap.get?_push_of_some _ e, zC a _, ⟨_, Heap.get?_push_size _ rfl, rfl, rfl⟩, fun b hb => ?_, q⟩
 have e : b = s1.heap.objs.size := by simpa using hb
 subst e
 exact I1.fpOk (Nat.le_refl _) (I1.hok.fresh (Nat.le_refl _))
theorem aK7 {pins : List (Addr × Obj)} {σ : St} {H : Hp} {s : Shared} {R : It → Hp → Prop} {E : Value → Shared → Prop} {lo hi : Int} {t u v : Tok} {tk : Nat} (I : Inv X pins σ H s) (h1 : -(2 ^ 62) ≤ lo) (h2 : lo < 2 ^ 62) (h3 : -(2 ^ 62) ≤ hi) (h4 : hi < 2 ^ 62)
   (q : R (Itr lo (hi - lo).toNat) H) : wpAny (model X.prog X.w) X.A (pyIter (.ref s.heap.objs.size)) (PIE X pins σ tg R) E { s with heap := s.heap.push { cls := .type "range", data := .fields #[.int lo t, .int hi u, .int 1 v] }, toks := tk } := by
 refine wpAny_pyIter_range (IsRange.new ..) (small_one h1 h2 h3 h4) ?_
 have I1 : Inv X pins σ H { s with heap := s.heap.push { cls := .type "range", data := .fields #[.int lo t, .int hi u, .int 1 v] }, toks := tk } := I.kept fun b o e => Heap.get?_push_of_some _ e
 refine ⟨(s.heap.push { cls := .type "range", data := .fields #[.int lo t, .int hi u, .int 1 v] }).objs.size, [(s.heap.push { cls := .type "range", data := .fields #[.int lo t, .int hi u, .int 1 v] }).objs.size], _, _, H, rfl,
   I1.kept (t' := tk) fun b o e => Heap.get?_push_of_some _ e, zD _ lo (hi - lo).toNat, ?_, fun b hb => ?_, q⟩
 · have e1 : lo + ((0 : Nat) : Int) * 1 = lo := by simp
   have e2 : (((hi - lo).toNat : Nat) : Int) - ((0 : Nat) : Int) = Builtin.Range.rangeSize lo hi 1 := by rw [rangeSize_one]; split <;> omega
   show IsRangeIter _ _ (lo + ((0 : Nat) : Int) * 1) ((((hi - lo).toNat : Nat) : Int) - ((0 : Nat) : Int)) 1
   rw [e1, e2]
   exact Heap.get?_push_size _ rfl
 · have e : b = (s.heap.push { cls := .type "range", data := .fields #[.int lo t, .int hi u, .int 1 v] }).objs.size := by simpa using hb
   subst e
   exact I1.fpOk (Nat.le_refl _) (I1.hok.fresh (Nat.le_refl _))
def bC8 (ta : TA) : TI := fun σ H R => ta σ H fun vs H1 => ∃ j : Int, vs = [.int j] ∧ -(2 ^ 62) ≤ j ∧ j < 2 ^ 62 ∧ R (Itr 0 j.toNat) H1
theorem jN {a : Expr} {ta : TA} {p pos : Pos} (hg : Gl X "range") (hm : X.mg "range" = none) (ha : PA X [a] ta) (hs : starEach [a] X.env = [(false, eval a X.env)] := by rfl) : PI X tg (.Call (.Name "range" p) [a] [] pos) (bC8 ta) := by
 intro pins s σ H R I h
 refine Call_ (lG I hg hm boot_range (PyProof.Rows.callWith_type1 (thn (ha pos pins s σ H _ I h) fun us s1 ⟨vs, H1, I1, r1, q1⟩ => ?_) hs rfl))
 obtain ⟨j, e, q1, q2, q⟩ := q1
 subst e
 cases r1 with
 | cons r rr =>
   cases rr
   obtain ⟨t, rfl⟩ := r
   exact call_range_1 (aK7 I1 (by omega) (by omega) q1 q2 (by simpa using q))
def bD9 (wi : TI) (g : TG) (tb : TS) : TS := fun D σ H => wi σ H fun J H1 => ∃ W : Nat → Nat → St → Hp → Prop, (∃ m, W 0 m σ H1) ∧ ∀ i m σ H, W i m σ H →
 (J.stop i H ∧ D.nx σ H) ∨ (J.go i H ∧ ∃ N : St → Hp → Prop, (∀ σ' H', N σ' H' → ∃ m', m' < m ∧ W (i + 1) m' σ' H') ∧ ∀ x H', J.yld i H x H' → g x σ H' fun σ2 H2 => tb { D with nx := N, ct := N, bk := D.nx } σ2 H2)
def rV (fp : List Addr) (h : Heap) : List (Addr × Obj) := fp.filterMap fun b => (h.get? b).map fun o => (b, o)
theorem lE {fp : List Addr} {h : Heap} {b : Addr} {o : Obj} (hb : b ∈ fp) (e : h.get? b = some o) : (b, o) ∈ rV fp h := List.mem_filterMap.mpr ⟨b, hb, by rw [e]; rfl⟩
theorem aG3 {fp : List Addr} {h : Heap} {p : Addr × Obj} (hp : p ∈ rV fp h) : p.1 ∈ fp ∧ h.get? p.1 = some p.2 := by
 obtain ⟨b, hb, e⟩ := List.mem_filterMap.mp hp
 cases q : h.get? b with
 | none => rw [q] at e; cases e
 | some o =>
   rw [q] at e
   have e' : (b, o) = p := Option.some.inj e
   subst e'
   exact ⟨hb, q⟩
theorem Inv.pinned {pins : List (Addr × Obj)} {σ : St} {H : Hp} {s : Shared} {fp : List Addr} (I : Inv X pins σ H s) (hf : ∀ b ∈ fp, uN X pins H b) (ho : ∀ b ∈ fp, ∃ o, s.heap.get? b = some o ∧ ∀ v, o.data ≠ .cell v) : Inv X (pins ++ rV fp s.heap) σ H s :=
 I.pins_of fun p hp => (List.mem_append.mp hp).elim (fun z => I.pin p (List.mem_append_right _ z)) fun z => by
   obtain ⟨hb, e⟩ := aG3 z
   obtain ⟨f0, f1, f2, _⟩ := hf p.1 hb
   obtain ⟨o, e', d⟩ := ho p.1 hb
   rw [e] at e'; cases e'
   exact ⟨e, f0, f1, f2, d⟩
theorem Inv.unpinned {pins pl : List (Addr × Obj)} {σ : St} {H : Hp} {s : Shared} (I : Inv X (pins ++ pl) σ H s) : Inv X pins σ H s := I.pins_of fun p hp => I.pin p (List.mem_append_right _ (List.mem_append_left _ hp))
theorem cN {iter : Expr} {body : List Stmt} {wi : TI} {g : TG} {tb : TS} {pos : Pos} (hp : PassesOwn (model X.prog X.w) X.A X.env X.xe) (hc : X.calm = true) (hi : PI X tg iter wi) (hg : PG X tg g) (hb : PSs X body tb)
   (hs : ∀ x, foldedSetIterable iter X.env x = pure x := by intro _; rfl) : PS X (.For tg iter body [] pos) (bD9 wi g tb) := by
 intro pins s σ H D I h
 refine wpAny_For (thn (hi pins s σ H _ I h) fun v s1 h1 => thn h1 fun itv s2 h2 => ?_) hs
 obtain ⟨it, fp, tn, J, H2, e, I2, T, st2, f2, W, ⟨m0, w0⟩, turn⟩ := h2
 subst e
 have stat : ∀ {H' : Hp}, (∀ b ∈ fp, H' b = none) → ∀ b ∈ fp, uN X pins H' b := fun hn b hb => ⟨hn b hb, (f2 b hb).2⟩
 refine codeAny_forLoop_any (fun n s' => ∃ i σ' H', Inv X pins σ' H' s' ∧ tn i s'.heap ∧ (∀ b ∈ fp, H' b = none) ∧ W i n σ' H') ?_ m0 ⟨0, σ, H2, I2, st2, fun b hb => (f2 b hb).1, w0⟩
 rintro n s3 ⟨i, σ3, H3, I3, st3, fr3, w3⟩
 rcases turn i n σ3 H3 w3 with ⟨stop, qn⟩ | ⟨go, N, hN, step⟩
 · refine wpAny_passesOwn hp (thn (T.done X rfl rfl rfl hc i pins s3 σ3 H3 X.xe I3 (stat fr3) st3 stop) fun r s4 ⟨hr, I4⟩ => ?_)
   subst hr
   exact wpAny_execs_nil ⟨σ3, H3, I4, qn⟩
 · refine wpAny_passesOwn hp (thn (T.item X rfl rfl rfl hc i pins s3 σ3 H3 X.xe I3 (stat fr3) st3 go) fun r s4 ⟨u, hr, h4⟩ => ?_)
   subst hr
   refine wpAny_passesOwn hp (thn h4 fun _ s5 ⟨x, H5, I5, r5, y5, st5, fr5⟩ => ?_)
   have I5' := I5.pinned (stat fr5) (T.obj _ _ st5)
   refine wpAny_passesOwn hp (thn (hg _ s5 σ3 H5 x u _ I5' r5 (step x H5 y5)) fun _ s6 ⟨σ6, H6, I6, q6⟩ => ?_)
   refine wpAny_passesOwn hp (thn (hb _ s6 σ6 H6 _ I6 q6) fun f s7 q7 => ?_)
   have again : ∀ {σ7 : St} {H7 : Hp}, Inv X (pins ++ rV fp s5.heap) σ7 H7 s7 → N σ7 H7 → ∃ m, m < n ∧ ∃ i σ' H', Inv X pins σ' H' s7 ∧ tn i s7.heap ∧ (∀ b ∈ fp, H' b = none) ∧ W i m σ' H' := fun {σ7 H7} I7 n7 => by
     obtain ⟨m', hm, w7⟩ := hN σ7 H7 n7
     refine ⟨m', hm, i + 1, σ7, H7, I7.unpinned, T.keep _ _ _ st5 fun b hb o e => (I7.pin (b, o) (List.mem_append_right _ (List.mem_append_right _ (lE hb e)))).1, fun b hb => ?_, w7⟩
     obtain ⟨o, e, d⟩ := T.obj _ _ st5 b hb
     exact (I7.pin (b, o) (List.mem_append_right _ (List.mem_append_right _ (lE hb e)))).2.1
   cases f with
   | next => obtain ⟨σ7, H7, I7, n7⟩ := q7; exact again I7 n7
   | cont => obtain ⟨σ7, H7, I7, n7⟩ := q7; exact again I7 n7
   | brk => obtain ⟨σ7, H7, I7, q7⟩ := q7; exact ⟨σ7, H7, I7.unpinned, q7⟩
   | ret v => obtain ⟨x7, σ7, H7, I7, r7, q7⟩ := q7; exact ⟨x7, σ7, H7, I7.unpinned, r7, q7⟩
end
theorem cU {K : W.Frag} {a : Addr} {xs : List V} {g : TG} {tb : TS} {D : Ends} {σ : St} {H : Hp} (Pv : Nat → St → Hp → Prop) (h0 : Pv 0 σ H) (hl : ∀ i σ H, i ≤ xs.length → Pv i σ H → SqL K H a xs)
   (hs : ∀ i x σ H, xs[i]? = some x → Pv i σ H → g x σ H fun σ2 H2 => tb { D with nx := Pv (i + 1), ct := Pv (i + 1), bk := D.nx } σ2 H2) (hd : ∀ σ H, Pv xs.length σ H → D.nx σ H) :
   ∃ W : Nat → Nat → St → Hp → Prop, (∃ m, W 0 m σ H) ∧ ∀ i m σ H, W i m σ H →
     ((Itl K a).stop i H ∧ D.nx σ H) ∨ ((Itl K a).go i H ∧ ∃ N : St → Hp → Prop, (∀ σ' H', N σ' H' → ∃ m', m' < m ∧ W (i + 1) m' σ' H') ∧ ∀ x H', (Itl K a).yld i H x H' → g x σ H' fun σ2 H2 => tb { D with nx := N, ct := N, bk := D.nx } σ2 H2) := by
 refine ⟨fun i m σ H => m = xs.length - i ∧ i ≤ xs.length ∧ Pv i σ H, ⟨xs.length, by simp, Nat.zero_le _, h0⟩, ?_⟩
 rintro i m σ H ⟨rfl, hi, p⟩
 have q := hl i σ H hi p
 by_cases hlt : i < xs.length
 · refine .inr ⟨⟨xs, xs[i], q, by simp [hlt]⟩, Pv (i + 1), fun σ' H' p' => ⟨xs.length - (i + 1), by omega, rfl, hlt, p'⟩, fun x H' y => ?_⟩
   obtain ⟨e, y⟩ := y
   subst e
   exact hs i x σ _ (y xs q) p
 · have e : i = xs.length := by omega
   subst e
   exact .inl ⟨⟨xs, q, Nat.le_refl _⟩, hd σ H p⟩
theorem xA {K : W.Frag} {a : Addr} {xs : List V} {g : TG} {tb : TS} {D : Ends} {σ : St} {H : Hp} (Pv : Nat → St → Hp → Prop) (h0 : Pv 0 σ H) (hl : ∀ i σ H, i ≤ xs.length → Pv i σ H → SqT K H a xs)
   (hs : ∀ i x σ H, xs[i]? = some x → Pv i σ H → g x σ H fun σ2 H2 => tb { D with nx := Pv (i + 1), ct := Pv (i + 1), bk := D.nx } σ2 H2) (hd : ∀ σ H, Pv xs.length σ H → D.nx σ H) :
   ∃ W : Nat → Nat → St → Hp → Prop, (∃ m, W 0 m σ H) ∧ ∀ i m σ H, W i m σ H →
     ((Itt K a).stop i H ∧ D.nx σ H) ∨ ((Itt K a).go i H ∧ ∃ N : St → Hp → Prop, (∀ σ' H', N σ' H' → ∃ m', m' < m ∧ W (i + 1) m' σ' H') ∧ ∀ x H', (Itt K a).yld i H x H' → g x σ H' fun σ2 H2 => tb { D with nx := N, ct := N, bk := D.nx } σ2 H2) := by
 refine ⟨fun i m σ H => m = xs.length - i ∧ i ≤ xs.length ∧ Pv i σ H, ⟨xs.length, by simp, Nat.zero_le _, h0⟩, ?_⟩
 rintro i m σ H ⟨rfl, hi, p⟩
 have q := hl i σ H hi p
 by_cases hlt : i < xs.length
 · refine .inr ⟨⟨xs, xs[i], q, by simp [hlt]⟩, Pv (i + 1), fun σ' H' p' => ⟨xs.length - (i + 1), by omega, rfl, hlt, p'⟩, fun x H' y => ?_⟩
   obtain ⟨e, y⟩ := y
   subst e
   exact hs i x σ _ (y xs q) p
 · have e : i = xs.length := by omega
   subst e
   exact .inl ⟨⟨xs, q, Nat.le_refl _⟩, hd σ H p⟩
theorem aH7 {lo : Int} {n : Nat} {g : TG} {tb : TS} {D : Ends} {σ : St} {H : Hp} (Pv : Nat → St → Hp → Prop) (h0 : Pv 0 σ H)
   (hs : ∀ i σ H, i < n → Pv i σ H → g (.int (lo + i)) σ H fun σ2 H2 => tb { D with nx := Pv (i + 1), ct := Pv (i + 1), bk := D.nx } σ2 H2) (hd : ∀ σ H, Pv n σ H → D.nx σ H) :
   ∃ W : Nat → Nat → St → Hp → Prop, (∃ m, W 0 m σ H) ∧ ∀ i m σ H, W i m σ H →
     ((Itr lo n).stop i H ∧ D.nx σ H) ∨ ((Itr lo n).go i H ∧ ∃ N : St → Hp → Prop, (∀ σ' H', N σ' H' → ∃ m', m' < m ∧ W (i + 1) m' σ' H') ∧ ∀ x H', (Itr lo n).yld i H x H' → g x σ H' fun σ2 H2 => tb { D with nx := N, ct := N, bk := D.nx } σ2 H2) := by
 refine ⟨fun i m σ H => m = n - i ∧ i ≤ n ∧ Pv i σ H, ⟨n, by simp, Nat.zero_le _, h0⟩, ?_⟩
 rintro i m σ H ⟨rfl, hi, p⟩
 by_cases hlt : i < n
 · refine .inr ⟨hlt, Pv (i + 1), fun σ' H' p' => ⟨n - (i + 1), by omega, rfl, hlt, p'⟩, fun x H' y => ?_⟩
   obtain ⟨e, y⟩ := y
   subst e y
   exact hs i σ _ hlt p
 · have e : i = n := by omega
   subst e
   exact .inl ⟨Nat.le_refl _, hd σ H p⟩
end L2
namespace L2
open PySem PySem.Spec PyProof.Rows
abbrev R2 := V → V → Hp → VK → Prop
def OpR (X : Cx) (f : Value → Value → Sem Value) (r : R2) : Prop :=
 ∀ (pins : List (Addr × Obj)) (s : Shared) (σ : St) (H : Hp) (x y : V) (v u : Value) (Q : VK), Inv X pins σ H s → bY x v → bY y u → r x y H Q →
   wpAny (model X.prog X.w) X.A (f v u) (EP X pins σ Q) X.xe s
def UnR (X : Cx) (f : Value → Sem Value) (r : V → Hp → VK → Prop) : Prop :=
 ∀ (pins : List (Addr × Obj)) (s : Shared) (σ : St) (H : Hp) (x : V) (v : Value) (Q : VK), Inv X pins σ H s → bY x v → r x H Q →
   wpAny (model X.prog X.w) X.A (f v) (EP X pins σ Q) X.xe s
def kX (X : Cx) (f : Value) (r : List V → Hp → VK → Prop) : Prop :=
 ∀ (pins : List (Addr × Obj)) (s : Shared) (σ : St) (H : Hp) (xs : List V) (us : List Value) (Q : VK), Inv X pins σ H s → Vals xs us → r xs H Q →
   wpAny (model X.prog X.w) X.A (call f us) (EP X pins σ Q) X.xe s
def tOp (r : R2) (ta tb : TE) : TE := fun σ H Q => ta σ H fun x H1 => tb σ H1 fun y H2 => r x y H2 Q
def tUn (r : V → Hp → VK → Prop) (ta : TE) : TE := fun σ H Q => ta σ H fun x H1 => r x H1 Q
def rI (C : Int → Int → Prop) (g : Int → Int → V) : R2 := fun x y H Q => ∃ i j, x = .int i ∧ y = .int j ∧ C i j ∧ Q (g i j) H
def rI0 (g : Int → Int → V) : R2 := fun x y H Q => ∃ i j, x = .int i ∧ y = .int j ∧ Q (g i j) H
def rU (g : Int → V) : V → Hp → VK → Prop := fun x H Q => ∃ i, x = .int i ∧ Q (g i) H
section
variable {X : Cx} {a b c : Expr} {ta tb tc : TE} {pos : Pos}
theorem bA3 (ha : PE X a ta) (hb : PE X b tb) {pins : List (Addr × Obj)} {s : Shared} {σ : St} {H : Hp} {R : V → V → Hp → Prop} (I : Inv X pins σ H s)
   (h : ta σ H fun x H1 => tb σ H1 fun y H2 => R x y H2) {Q : Value → Shared → Prop} {f : Value → Value → Sem Value}
   (hf : ∀ v u s2 x y H2, Inv X pins σ H2 s2 → bY x v → bY y u → R x y H2 → wpAny (model X.prog X.w) X.A (f v u) Q X.xe s2) :
   wpAny (model X.prog X.w) X.A (eval a X.env) (fun v s₁ => wpAny (model X.prog X.w) X.A (eval b X.env) (fun u s₂ => wpAny (model X.prog X.w) X.A (f v u) Q X.xe s₂) X.xe s₁) X.xe s := by
 refine thn (ha pins s σ H _ I h) fun v s1 ⟨x, H1, I1, r1, q1⟩ => ?_
 refine thn (hb pins s1 σ H1 _ I1 q1) fun u s2 ⟨y, H2, I2, r2, q2⟩ => ?_
 exact hf v u s2 x y H2 I2 r1 r2 q2
theorem eD {op : Operator} {r : R2} (ho : OpR X (binaryOp op) r) (ha : PE X a ta) (hb : PE X b tb) : PE X (.BinOp a op b pos) (tOp r ta tb) := by
 intro pins s σ H Q I h
 exact wpAny_BinOp (bA3 ha hb I h fun v u s2 x y H2 I2 rx ry q => ho pins s2 σ H2 x y v u Q I2 rx ry q)
theorem uY {op : UnaryOp} {r : V → Hp → VK → Prop} (ho : UnR X (unaryOp op) r) (ha : PE X a ta) : PE X (.UnaryOp op a pos) (tUn r ta) := by
 intro pins s σ H Q I h
 exact UnaryOp_ (thn (ha pins s σ H _ I h) fun v s1 ⟨x, H1, I1, r1, q1⟩ => ho pins s1 σ H1 x v Q I1 r1 q1)
theorem opI {f : Value → Value → Sem Value} {C : Int → Int → Prop} {g : Int → Int → Int}
   (rule : ∀ (i j : Int) (t u : Tok) (s : Shared) (Q : Value → Shared → Prop) (E : Value → Shared → Prop), C i j → Q (.int (g i j) s.toks) { s with toks := s.toks + 1 } → wpAny (model X.prog X.w) X.A (f (.int i t) (.int j u)) Q E s) :
   OpR X f (rI C fun i j => .int (g i j)) := by
 intro pins s σ H x y v u Q I rx ry h
 obtain ⟨i, j, rfl, rfl, hc, q⟩ := h
 obtain ⟨t, rfl⟩ := rx
 obtain ⟨t', rfl⟩ := ry
 exact rule i j t t' s _ _ hc ⟨.int (g i j), H, I.tok _, ⟨_, rfl⟩, q⟩
theorem bC5 {f : Value → Value → Sem Value} {g : Int → Int → Int}
   (rule : ∀ (i j : Int) (t u : Tok) (s : Shared) (Q : Value → Shared → Prop) (E : Value → Shared → Prop), Q (.int (g i j) s.toks) { s with toks := s.toks + 1 } → wpAny (model X.prog X.w) X.A (f (.int i t) (.int j u)) Q E s) :
   OpR X f (rI0 fun i j => .int (g i j)) := by
 intro pins s σ H x y v u Q I rx ry h
 obtain ⟨i, j, rfl, rfl, q⟩ := h
 obtain ⟨t, rfl⟩ := rx
 obtain ⟨t', rfl⟩ := ry
 exact rule i j t t' s _ _ ⟨.int (g i j), H, I.tok _, ⟨_, rfl⟩, q⟩
theorem aS7 {f : Value → Value → Sem Value} {g : Int → Int → Bool}
   (rule : ∀ (i j : Int) (t u : Tok) (s : Shared) (Q : Value → Shared → Prop) (E : Value → Shared → Prop), Q (.bool (g i j)) s → wpAny (model X.prog X.w) X.A (f (.int i t) (.int j u)) Q E s) :
   OpR X f (rI0 fun i j => .bl (g i j)) := by
 intro pins s σ H x y v u Q I rx ry h
 obtain ⟨i, j, rfl, rfl, q⟩ := h
 obtain ⟨t, rfl⟩ := rx
 obtain ⟨t', rfl⟩ := ry
 exact rule i j t t' s _ _ ⟨.bl (g i j), H, I, rfl, q⟩
def CPow (i j : Int) : Prop := 0 ≤ j ∧ j ≤ 1000000 ∧ i.natAbs < 2 ^ 64
def CMul (i j : Int) : Prop := (-(2 ^ 64) < i ∧ i < 2 ^ 64) ∨ (-(2 ^ 64) < j ∧ j < 2 ^ 64)
theorem CMul.ok {i j : Int} (h : CMul i j) : IntMulOk i j := by
 rcases h with ⟨h1, h2⟩ | ⟨h1, h2⟩
 · exact .of_left (intBits_le_64 h1 h2)
 · exact .of_right (intBits_le_64 h1 h2)
theorem lC : OpR X (binaryOp .Add) (rI0 fun i j => .int (i + j)) := bC5 fun _ _ _ _ _ _ _ q => add_int q
theorem kK : OpR X (binaryOp .Sub) (rI0 fun i j => .int (i - j)) := bC5 fun _ _ _ _ _ _ _ q => sub_int q
theorem aX7 : OpR X (binaryOp .Mult) (rI CMul fun i j => .int (i * j)) := opI fun _ _ _ _ _ _ _ hc q => mul_int q hc.ok
theorem aX8 : OpR X (binaryOp .Mod) (rI (fun _ j => 0 < j) fun i j => .int (i % j)) := opI fun i j _ _ _ _ _ hc q => by
 have h1 : (0 : Int) < j := hc
 exact mod_int' (by omega) (by rw [Int.fmod_eq_emod_of_nonneg i (by omega)]; exact q)
theorem aX6 : OpR X (binaryOp .Pow) (rI CPow fun i j => .int (i ^ j.toNat)) := opI fun _ _ _ _ _ _ _ hc q => pow_int_small hc.1 hc.2.1 hc.2.2 q
theorem unI {f : Value → Sem Value} {g : Int → Int}
   (rule : ∀ (i : Int) (t : Tok) (s : Shared) (Q : Value → Shared → Prop) (E : Value → Shared → Prop), Q (.int (g i) s.toks) { s with toks := s.toks + 1 } → wpAny (model X.prog X.w) X.A (f (.int i t)) Q E s) :
   UnR X f (rU fun i => .int (g i)) := by
 intro pins s σ H x v Q I rx h
 obtain ⟨i, rfl, q⟩ := h
 obtain ⟨t, rfl⟩ := rx
 exact rule i t s _ _ ⟨.int (g i), H, I.tok _, ⟨_, rfl⟩, q⟩
theorem pA : UnR X (unaryOp .USub) (rU fun i => .int (-i)) := unI fun _ _ _ _ _ q => neg_int q
end
def scal : V → V → Bool
 | .non, .non => true | .non, .int _ => true | .int _, .non => true | .non, .bl _ => true | .bl _, .non => true | .non, .str _ => true | .str _, .non => true
 | .int _, .int _ => true | .bl _, .bl _ => true | .str _, .str _ => true | .byt _, .byt _ => true
 | .int _, .str _ => true | .str _, .int _ => true | .bl _, .str _ => true | .str _, .bl _ => true
 | _, _ => false
def rEq : R2 := fun x y H Q => scal x y = true ∧ Q (.bl (decide (x = y))) H
def rNe : R2 := fun x y H Q => scal x y = true ∧ Q (.bl (!decide (x = y))) H
theorem aE2 {i j : Int} : decide (V.int i = V.int j) = (i == j) := by
 rw [Bool.eq_iff_iff]
 simp
theorem aQ4 {i j : Bool} : decide (V.bl i = V.bl j) = (i == j) := by
 rw [Bool.eq_iff_iff]
 simp
theorem aE1 {i j : Str} : decide (V.str i = V.str j) = (i == j) := by
 rw [Bool.eq_iff_iff]
 simp
theorem aE3 {i j : Array UInt8} : decide (V.byt i = V.byt j) = (i.toList == j.toList) := by
 rw [Bool.eq_iff_iff]
 cases i
 cases j
 simp
section
variable {X : Cx} {a b c : Expr} {ta tb tc : TE} {pos : Pos}
theorem cC {pins : List (Addr × Obj)} {σ : St} {H : Hp} {s : Shared} {Q : VK} {k k' : Bool} (I : Inv X pins σ H s) (q : Q (.bl k) H) (e : k = k') : EP X pins σ Q (.bool k') s := by
 subst e
 exact ⟨.bl k, H, I, rfl, q⟩
theorem cT : OpR X (compareOp .Eq) rEq := by
 intro pins s σ H x y v u Q I rx ry h
 obtain ⟨hs, q⟩ := h
 cases x with
 | non =>
   cases rx
   cases y with
   | non => cases ry; exact PySem.EqNone.eq_none_none (cC I q (by simp))
   | bl j => cases ry; exact PySem.EqNone.eq_none_bool (cC I q (by simp))
   | int j => obtain ⟨t', rfl⟩ := ry; exact PySem.EqNone.eq_none_int (cC I q (by simp))
   | str j => obtain ⟨t', rfl⟩ := ry; exact PySem.EqNone.eq_none_str (cC I q (by simp))
   | _ => exact absurd (show false = true from hs) Bool.false_ne_true
 | bl i =>
   cases rx
   cases y with
   | non => cases ry; exact PySem.EqNone.eq_bool_none (cC I q (by simp))
   | bl j => cases ry; exact eq_bool (cC I q aQ4)
   | str j => obtain ⟨t', rfl⟩ := ry; exact PySem.EqMixed.eq_bool_str (cC I q (by simp))
   | _ => exact absurd (show false = true from hs) Bool.false_ne_true
 | int i =>
   obtain ⟨t, rfl⟩ := rx
   cases y with
   | non => cases ry; exact PySem.EqNone.eq_int_none (cC I q (by simp))
   | int j => obtain ⟨t', rfl⟩ := ry; exact eq_int (cC I q aE2)
   | str j => obtain ⟨t', rfl⟩ := ry; exact PySem.EqMixed.eq_int_str (cC I q (by simp))
   | _ => exact absurd (show false = true from hs) Bool.false_ne_true
 | str i =>
   obtain ⟨t, rfl⟩ := rx
   cases y with
   | non => cases ry; exact PySem.EqNone.eq_str_none (cC I q (by simp))
   | bl j => cases ry; exact PySem.EqMixed.eq_str_bool (cC I q (by simp))
   | int j => obtain ⟨t', rfl⟩ := ry; exact PySem.EqMixed.eq_str_int (cC I q (by simp))
   | str j => obtain ⟨t', rfl⟩ := ry; exact eq_str (cC I q aE1)
   | _ => exact absurd (show false = true from hs) Bool.false_ne_true
 | byt i =>
   obtain ⟨t, rfl⟩ := rx
   cases y with
   | byt j => obtain ⟨t', rfl⟩ := ry; exact W.eq_bytes (cC I q aE3)
   | _ => exact absurd (show false = true from hs) Bool.false_ne_true
 | _ => cases y <;> exact absurd (show false = true from hs) Bool.false_ne_true
theorem vB : OpR X (compareOp .NotEq) rNe := by
 intro pins s σ H x y v u Q I rx ry h
 obtain ⟨hs, q⟩ := h
 cases x with
 | non =>
   cases rx
   cases y with
   | non => cases ry; exact PySem.EqNone.ne_none_none (cC I q (by simp))
   | bl j => cases ry; exact PySem.EqNone.ne_none_bool (cC I q (by simp))
   | int j => obtain ⟨t', rfl⟩ := ry; exact PySem.EqNone.ne_none_int (cC I q (by simp))
   | str j => obtain ⟨t', rfl⟩ := ry; exact PySem.EqNone.ne_none_str (cC I q (by simp))
   | _ => exact absurd (show false = true from hs) Bool.false_ne_true
 | bl i =>
   cases rx
   cases y with
   | non => cases ry; exact PySem.EqNone.ne_bool_none (cC I q (by simp))
   | bl j => cases ry; exact ne_bool (cC I q (congrArg not aQ4))
   | str j => obtain ⟨t', rfl⟩ := ry; exact PySem.EqMixed.ne_bool_str (cC I q (by simp))
   | _ => exact absurd (show false = true from hs) Bool.false_ne_true
 | int i =>
   obtain ⟨t, rfl⟩ := rx
   cases y with
   | non => cases ry; exact PySem.EqNone.ne_int_none (cC I q (by simp))
   | int j => obtain ⟨t', rfl⟩ := ry; exact ne_int (cC I q (congrArg not aE2))
   | str j => obtain ⟨t', rfl⟩ := ry; exact PySem.EqMixed.ne_int_str (cC I q (by simp))
   | _ => exact absurd (show false = true from hs) Bool.false_ne_true
 | str i =>
   obtain ⟨t, rfl⟩ := rx
   cases y with
   | non => cases ry; exact PySem.EqNone.ne_str_none (cC I q (by simp))
   | bl j => cases ry; exact PySem.EqMixed.ne_str_bool (cC I q (by simp))
   | int j => obtain ⟨t', rfl⟩ := ry; exact PySem.EqMixed.ne_str_int (cC I q (by simp))
   | str j => obtain ⟨t', rfl⟩ := ry; exact ne_str (cC I q (congrArg not aE1))
   | _ => exact absurd (show false = true from hs) Bool.false_ne_true
 | byt i =>
   obtain ⟨t, rfl⟩ := rx
   cases y with
   | byt j => obtain ⟨t', rfl⟩ := ry; exact W.ne_bytes (cC I q (congrArg not aE3))
   | _ => exact absurd (show false = true from hs) Bool.false_ne_true
 | _ => cases y <;> exact absurd (show false = true from hs) Bool.false_ne_true
theorem aV1 : OpR X (compareOp .Lt) (rI0 fun i j => .bl (decide (i < j))) := aS7 fun _ _ _ _ _ _ _ q => lt_int q
theorem lP : OpR X (compareOp .LtE) (rI0 fun i j => .bl (decide (i ≤ j))) := aS7 fun _ _ _ _ _ _ _ q => le_int q
theorem aC4 : OpR X (compareOp .Gt) (rI0 fun i j => .bl (decide (j < i))) := aS7 fun _ _ _ _ _ _ _ q => gt_int q
theorem aC5 : OpR X (compareOp .GtE) (rI0 fun i j => .bl (decide (j ≤ i))) := aS7 fun _ _ _ _ _ _ _ q => ge_int q
theorem nomark (b : Expr) {op : CmpOp} (h : op ≠ .In := by decide) (h2 : op ≠ .NotIn := by decide) : behindInMarks op b = false := by
 have e1 : (op == CmpOp.In) = false := by cases op <;> first | rfl | exact absurd rfl h
 have e2 : (op == CmpOp.NotIn) = false := by cases op <;> first | rfl | exact absurd rfl h2
 cases b <;> simp [behindInMarks, e1, e2]
theorem gO {op : CmpOp} {r : R2} (ho : OpR X (compareOp op) r) (ha : PE X a ta) (hb : PE X b tb) (hm : behindInMarks op b = false) : PE X (.Compare a [op] [b] pos) (tOp r ta tb) := by
 intro pins s σ H Q I h
 exact wpAny_Compare1 (bA3 ha hb I h fun v u s2 x y H2 I2 rx ry q => ho pins s2 σ H2 x y v u Q I2 rx ry q) hm
def aI8 (t : TE) : TT := fun σ H Q => t σ H fun x H' => ∃ k, x = .bl k ∧ Q k H'
theorem aV {op : CmpOp} {r : R2} (ho : OpR X (compareOp op) r) (ha : PE X a ta) (hb : PE X b tb) (hm : behindInMarks op b = false) : PT X (.Compare a [op] [b] pos) (aI8 (tOp r ta tb)) := by
 intro pins s σ H Q I h
 refine wpAny_isTrue_Compare1 (thn (ha pins s σ H _ I h) fun v s1 ⟨x, H1, I1, r1, q1⟩ => thn (hb pins s1 σ H1 _ I1 q1) fun u s2 ⟨y, H2, I2, r2, q2⟩ =>
   thn (ho pins s2 σ H2 x y v u _ I2 r1 r2 q2) fun c s3 ⟨z, H3, I3, r3, k, e, q3⟩ => ?_) hm
 subst e
 cases r3
 exact wpAny_truthy_bool ⟨H3, I3, q3⟩
def aJ2 (r r' : R2) (ta tb tc : TE) : TE := fun σ H Q => ta σ H fun x H1 => tb σ H1 fun y H2 => r x y H2 fun z H3 => ∃ k, z = .bl k ∧
 (if k = true then tc σ H3 fun w' H4 => r' y w' H4 Q else Q (.bl false) H3)
theorem xX {op op' : CmpOp} {r r' : R2} (ho : OpR X (compareOp op) r) (ho' : OpR X (compareOp op') r') (ha : PE X a ta) (hb : PE X b tb) (hc : PE X c tc)
   (hm : lastMarks [op, op'] [b, c] = false := by with_unfolding_all rfl) : PE X (.Compare a [op, op'] [b, c] pos) (aJ2 r r' ta tb tc) := by
 intro pins s σ H Q I h
 refine Compare_chain (thn (ha pins s σ H _ I h) fun v s1 ⟨x, H1, I1, r1, q1⟩ => chain_link (thn (hb pins s1 σ H1 _ I1 q1) fun u s2 ⟨y, H2, I2, r2, q2⟩ =>
   thn (ho pins s2 σ H2 x y v u _ I2 r1 r2 q2) fun d s3 ⟨z, H3, I3, r3, k, e, q3⟩ => ?_)) hm
 subst e
 cases r3
 refine wpAny_truthy_bool ?_
 cases k with
 | false => exact ite_ff ⟨.bl false, H3, I3, rfl, q3⟩
 | true => exact ite_tt (chain_last (thn (hc pins s3 σ H3 _ I3 q3) fun w' s4 ⟨z', H4, I4, r4, q4⟩ => ho' pins s4 σ H4 y z' u w' Q I4 r2 r4 q4))
theorem oO {op op' : CmpOp} {r r' : R2} (ho : OpR X (compareOp op) r) (ho' : OpR X (compareOp op') r') (ha : PE X a ta) (hb : PE X b tb) (hc : PE X c tc)
   (hm : lastMarks [op, op'] [b, c] = false := by with_unfolding_all rfl) : PT X (.Compare a [op, op'] [b, c] pos) (aI8 (aJ2 r r' ta tb tc)) := by
 intro pins s σ H Q I h
 refine isTrue_chain (thn (ha pins s σ H _ I h) fun v s1 ⟨x, H1, I1, r1, q1⟩ => test_link (thn (hb pins s1 σ H1 _ I1 q1) fun u s2 ⟨y, H2, I2, r2, q2⟩ =>
   thn (ho pins s2 σ H2 x y v u _ I2 r1 r2 q2) fun d s3 ⟨z, H3, I3, r3, k, e, q3⟩ => ?_)) hm
 subst e
 cases r3
 refine wpAny_truthy_bool ?_
 cases k with
 | false =>
   obtain ⟨k', e', q'⟩ := q3
   cases e'
   exact ite_ff ⟨H3, I3, q'⟩
 | true =>
   refine ite_tt (test_last (thn (hc pins s3 σ H3 _ I3 q3) fun w' s4 ⟨z', H4, I4, r4, q4⟩ => thn (ho' pins s4 σ H4 y z' u w' _ I4 r2 r4 q4) fun d' s5 ⟨z2, H5, I5, r5, k2, e2, q5⟩ => ?_))
   subst e2
   cases r5
   exact wpAny_truthy_bool ⟨H5, I5, q5⟩
theorem wR : (sizeLine : Nat) < 2 ^ 63 := by rw [sizeLine_eq]; decide
theorem qY {x : V} {us : List Value} (r : Vals [x] us) : ∃ u, us = [u] ∧ bY x u := by
 cases r with
 | cons r1 r2 => cases r2; exact ⟨_, rfl, r1⟩
theorem bA8 {x y : V} {us : List Value} (r : Vals [x, y] us) : ∃ u w', us = [u, w'] ∧ bY x u ∧ bY y w' := by
 cases r with
 | cons r1 r2 =>
   cases r2 with
   | cons r3 r4 => cases r4; exact ⟨_, _, rfl, r1, r3⟩
theorem aI1 (hc : X.calm = true) : kX X (.builtin "min") (fun xs H Q => ∃ i j, xs = [.int i, .int j] ∧ Q (.int (if j < i then j else i)) H) := by
 intro pins s σ H xs us Q I r h
 obtain ⟨i, j, rfl, q⟩ := h
 obtain ⟨u, w', rfl, ⟨t, rfl⟩, ⟨t', rfl⟩⟩ := bA8 r
 refine min_two_ints (I.ok.hd hc) fun h' tk k => ⟨_, H, I.kept k, ?_, q⟩
 by_cases hj : j < i
 · rw [if_pos hj, if_pos hj]; exact ⟨_, rfl⟩
 · rw [if_neg hj, if_neg hj]; exact ⟨_, rfl⟩
end
end L2
namespace L2
open PySem PySem.Spec PyProof.Rows
structure ObjM (h : Heap) (x dx C : Addr) (mA : Str → Option Value) : Prop where
 obj : h.get? x = some (W.instObj C dx)
 ns : h.Ns1 dx mA
 ne : dx ≠ x
theorem aG8 {h : Heap} {dx : Addr} {mA : Str → Option Value} (n : h.Ns1 dx mA) : ∃ od, h.get? dx = some od ∧ ∀ name, W.lookIn name od = some (mA name) := by
 obtain ⟨o, es, ep, ho, hd, hk, _, hm⟩ := n
 refine ⟨o, ho, fun name => ?_⟩
 have e := hm name
 unfold nsFind findBy at e
 rw [← Array.find?_toList] at e
 unfold W.lookIn
 rw [hd]
 dsimp only
 split
 · rename_i y q
   rw [q] at e
   exact congrArg some e
 · rename_i q
   rw [q] at e
   have a : es.toList.any (·.refKey) = false := by
     rw [List.any_eq_false]
     intro y hy
     obtain ⟨z, t, hkey⟩ := hk y (Array.mem_toList_iff.mp hy)
     simp [DictEntry.refKey, hkey]
   have a' : ¬ es.toList.any (·.refKey) = true := by rw [a]; exact Bool.false_ne_true
   rw [if_neg a']
   exact congrArg some e
theorem ObjM.look {h : Heap} {x dx C : Addr} {mA : Str → Option Value} (I : ObjM h x dx C mA) : ∃ od, W.InstAt h x (W.instObj C dx) C (some od) ∧ ∀ name, W.lookIn name od = some (mA name) :=
 let ⟨od, ho, hl⟩ := aG8 I.ns
 ⟨od, ⟨I.obj, rfl, rfl, ho⟩, hl⟩
section
variable {prog : Program} {w : World} {A : Around} {E : Value → Shared → Prop} {s : Shared} {K : W.Frag} {x dx C f : Addr} {mA : Str → Option Value} {name : Str} {v : Value}
theorem aU0 {expr : Bool} {Q : Value → Shared → Prop} (X : K.In s.heap) (I : ObjM s.heap x dx C mA) (hg : W.plainGet K C name = true) (hh : W.hasDictIn K C = true)
   (ha : W.findIn K (.ref C) name = some none) (hv : mA name = some v) (hv' : W.handedIn v = true) (h : Q v { s with toks := s.toks + 1 }) :
   wpAny (model prog w) A (getAttr (.ref x) name expr) Q E s := by
 obtain ⟨od, J, hl⟩ := I.look
 exact W.get_value X J (W.plainGet_of hg).1 (W.findObj_own hh ha rfl (by rw [hl, hv])) hv' h
theorem aP4 {pl : Sem Bool} {Q : Value × List Value → Shared → Prop} (X : K.In s.heap) (I : ObjM s.heap x dx C mA) (hg : W.plainGet K C name = true)
   (hf : W.findIn K (.ref C) name = some (some (.ref f))) (ht : W.isFn K (.ref f) = true) (hv : mA name = none) (h : Q (.ref f, [.ref x]) s) :
   wpAny (model prog w) A (getMethod (.ref x) name pl) Q E s := by
 obtain ⟨od, J, hl⟩ := I.look
 exact W.method_fn X J (W.plainGet_of hg).1 (W.plainGet_of hg).2 hf (beq_iff_eq.mp ht) (by show (W.lookIn name od).map (·.isSome) = some false; rw [hl, hv]; rfl) h
theorem aR9 {ns : List Str} {Q : Unit → Shared → Prop} (X : K.In s.heap) (I : ObjM s.heap x dx C mA)
   (hs : W.findIn K (.ref C) "__setattr__" = some (some (.builtin "object.__setattr__"))) (hp : W.plainOver K C = true) (ht : W.takerIn K C name = some none) (hh : W.hasDictIn K C = true)
   (hw : PySem.Within mA ns) (hsz : ns.length ≤ sizeLine)
   (h : ∀ h', ObjM h' x dx C (fun y => if y = name then some v else mA y) → Heap.SameBut dx s.heap h' → Q () { s with heap := h', toks := s.toks + 2 }) :
   wpAny (model prog w) A (setAttr (.ref x) name v) Q E s := by
 obtain ⟨od, J, hl⟩ := I.look
 refine W.set_plain X J hs (W.osa_open (s := { s with toks := s.toks + 1 }) (r := none) X J hp ht fun b => ?_)
 obtain ⟨cd, hc, hd'⟩ := W.any_some hh
 have hx : s.heap.get? x = some ⟨.ref C, some dx, .plain, #[]⟩ := I.obj
 refine wpAny_bind (wpAny_pure (wpAny_bind (wpAny_bind (wpAny_loadPart hx (wpAny_bind (W.Looks.here (s := { s with toks := s.toks + 1 }) (W.looks_clsIn X hc) ?_))))))
 rw [hd']
 refine wpAny_pure (a := some dx) (wpAny_bind (wpAny_pure (wpAny_bind ?_)))
 refine wpAny_nsSet1 (s := { s with toks := s.toks + 1 }) I.ns fun h' hn2 hs2 => ?_
 obtain ⟨oD, esD, epD, hoD, hdD, hcD⟩ := hn2.count (PySem.Within.cons name v hw)
 refine wpAny_bind (wpAny_lookBehind hoD (by rw [hdD]; exact pastItsLine_dict (Nat.le_trans hcD (by rw [List.length_cons]; omega))) ?_)
 exact wpAny_pure (h _ ⟨(hs2.2 _ (Ne.symm I.ne)).trans I.obj, hn2, I.ne⟩ hs2)
theorem aN6 {R : Result → Shared → Prop} {vs : List Value} {kw : List (Str × Value)} (X : K.In s.heap) (hm : W.makesIn K C = true)
   (hi : W.findIn K (.ref C) "__init__" = some (some (.ref f))) (hf : W.typeIn K (.ref f) = some (.type "function"))
   (h : codeAny (model prog w) (A.under (.builtin "type.__call__" ⟨.ref C :: vs, kw⟩)) (.call (.ref f) ⟨.ref (s.heap.objs.size + 1) :: vs, kw⟩) (W.InitBack (s.heap.objs.size + 1) R)
     { s with heap := (s.heap.push W.emptyDict).push (W.instObj C s.heap.objs.size) }) :
   codeAny (model prog w) A (.call (.ref C) ⟨vs, kw⟩) R s := by
 obtain ⟨hh, g, d, t, os⟩ := s
 exact W.make_core (W.makes_of X hm) (W.looks_findIn X hi) (fun self => W.bind_fn X self hf) (.inl rfl) h
end
def iF (f : Str) (v : V) : List (Str × V) → List (Str × V)
 | [] => [(f, v)]
 | (g, x) :: r => if g = f then (g, v) :: r else (g, x) :: iF f v r
theorem aX (f g : Str) (v : V) : ∀ fs : List (Str × V), (iF f v fs).lookup g = if g = f then some v else fs.lookup g
 | [] => by
   show List.lookup g [(f, v)] = _
   by_cases h : g = f
   · have hb : (g == f) = true := beq_iff_eq.mpr h
     simp only [List.lookup, hb, if_pos h]
   · have hb : (g == f) = false := beq_eq_false_iff_ne.mpr h
     simp only [List.lookup, hb, if_neg h]
 | (k, x) :: r => by
   have ih := aX f g v r
   rw [show iF f v ((k, x) :: r) = (if k = f then (k, v) :: r else (k, x) :: iF f v r) from rfl]
   by_cases hk : k = f
   · rw [if_pos hk]
     by_cases h : g = k
     · have hb : (g == k) = true := beq_iff_eq.mpr h
       simp only [List.lookup, hb, if_pos (h.trans hk)]
     · have hb : (g == k) = false := beq_eq_false_iff_ne.mpr h
       simp only [List.lookup, hb, if_neg (fun e : g = f => h (e.trans hk.symm))]
   · rw [if_neg hk]
     by_cases h : g = k
     · have hb : (g == k) = true := beq_iff_eq.mpr h
       simp only [List.lookup, hb, if_neg (fun e : g = f => hk (h.symm.trans e))]
     · have hb : (g == k) = false := beq_eq_false_iff_ne.mpr h
       simp only [List.lookup, hb]
       exact ih
theorem pV (f : Str) (v : V) : ∀ fs : List (Str × V), f ∈ (iF f v fs).map (·.1) ∧ ∀ g, g ∈ fs.map (·.1) → g ∈ (iF f v fs).map (·.1)
 | [] => ⟨by simp [iF], fun g h => by simp at h⟩
 | (k, x) :: r => by
   obtain ⟨i1, i2⟩ := pV f v r
   rw [show iF f v ((k, x) :: r) = (if k = f then (k, v) :: r else (k, x) :: iF f v r) from rfl]
   by_cases hk : k = f
   · rw [if_pos hk]
     subst hk
     exact ⟨by simp, fun g h => by simpa using h⟩
   · rw [if_neg hk]
     refine ⟨?_, fun g h => ?_⟩
     · rw [List.map_cons]
       exact List.mem_cons_of_mem _ i1
     · rw [List.map_cons] at h ⊢
       rcases List.mem_cons.mp h with e | e
       · exact List.mem_cons.mpr (.inl e)
       · exact List.mem_cons_of_mem _ (i2 g e)
theorem qG (f : Str) (v : V) : ∀ fs : List (Str × V), (iF f v fs).length ≤ fs.length + 1
 | [] => by simp [iF]
 | (k, x) :: r => by
   have ih := qG f v r
   rw [show iF f v ((k, x) :: r) = (if k = f then (k, v) :: r else (k, x) :: iF f v r) from rfl]
   by_cases hk : k = f
   · rw [if_pos hk, List.length_cons, List.length_cons]; omega
   · rw [if_neg hk, List.length_cons, List.length_cons]; omega
theorem oY.some_of {v : V} {o : Option Value} (r : oY (some v) o) : ∃ u, o = some u ∧ bY v u := by
 cases o with
 | none => exact (show False from r).elim
 | some u => exact ⟨u, rfl, r⟩
theorem oY.none_of {o : Option Value} (r : oY none o) : o = none := by
 cases o with
 | none => rfl
 | some u => exact (show False from r).elim
theorem aH6 {v : V} {u : Value} (r : bY v u) : W.handedIn u = true := by
 cases v with
 | non => cases (show u = Value.none from r); rfl
 | bl b => cases (show u = Value.bool b from r); rfl
 | int i => obtain ⟨t, e⟩ := (show ∃ t, u = Value.int i t from r); cases e; rfl
 | str x => obtain ⟨t, e⟩ := (show ∃ t, u = Value.str x t from r); cases e; rfl
 | byt b => obtain ⟨t, e⟩ := (show ∃ t, u = Value.bytes b t from r); cases e; rfl
 | flt b => obtain ⟨t, e⟩ := (show ∃ t, u = Value.float b t from r); cases e; rfl
 | ref a => cases (show u = Value.ref a from r); rfl
 | ty n => cases (show u = Value.type n from r); rfl
section
variable {P : Program} {w : World} {H H' : Hp} {h h' : Heap} {a C dx : Addr} {fs fs' : List (Str × V)}
theorem oS (hok : HOk P w H h) (e : H a = some (.ins C dx fs)) : ∃ mA, ObjM h a dx C mA ∧ (∀ f, oY (fs.lookup f) (mA f)) ∧ PySem.Within mA (fs.map (·.1)) ∧ fs.length ≤ 1000 ∧ H dx = some (.own a) := by
 obtain ⟨d, z, ne, ob, mA, n, r, q⟩ := (show bN P w H h a (.ins C dx fs) from hok a _ e)
 exact ⟨mA, ⟨ob, n, ne⟩, r, q, z, d⟩
end
structure Cls (K : W.Frag) (C : Addr) : Prop where
 pg : W.plainGet K C Str.empty = true
 hd : W.hasDictIn K C = true
 po : W.plainOver K C = true
 sa : W.findIn K (.ref C) "__setattr__" = some (some (.builtin "object.__setattr__"))
theorem Cls.get {K : W.Frag} {C : Addr} (c : Cls K C) (f : Str) : W.plainGet K C f = true := c.pg
def fT (K : W.Frag) (C : Addr) (f : Str) : Prop := W.findIn K (.ref C) f = some none
theorem fT.taker {K : W.Frag} {C : Addr} {f : Str} (n : fT K C f) : W.takerIn K C f = some none := by
 unfold W.takerIn
 rw [show W.findIn K (.ref C) f = some none from n]
 rfl
structure Con (K : W.Frag) (C : Addr) (f : Str) (v : V) (u : Value) : Prop where
 at_ : W.findIn K (.ref C) f = some (some u)
 rel : bY v u
 get : W.specialIn K u "__get__" = some none
 cp : W.copiedNames.contains f = false
structure Meth (K : W.Frag) (C : Addr) (m : Str) (f : Addr) : Prop where
 at_ : W.findIn K (.ref C) m = some (some (.ref f))
 fn : W.isFn K (.ref f) = true
 kp : W.keepIn K (.ref f) = true
section
variable {X : Cx} {pins : List (Addr × Obj)} {σ : St} {H : Hp} {s : Shared} {a C dx : Addr} {fs : List (Str × V)} {f : Str} {v : V} {A : Around} {E : Value → Shared → Prop}
theorem aA9 {b : Bool} {Q : Value → Shared → Prop} (I : Inv X pins σ H s) (e : H a = some (.ins C dx fs)) (c : Cls X.K C) (n : fT X.K C f) (l : fs.lookup f = some v)
   (h : ∀ u s', Inv X pins σ H s' → bY v u → Q u s') : wpAny (model X.prog X.w) A (getAttr (.ref a) f b) Q E s := by
 obtain ⟨mA, O, r, _, _, _⟩ := oS I.hok e
 obtain ⟨u, hu, ru⟩ := oY.some_of (v := v) (o := mA f) (by rw [← l]; exact r f)
 exact aU0 I.kIn O (c.get f) c.hd n hu (aH6 ru) (h u _ (I.tok _) ru)
theorem lI {m : Str} {g : Addr} {pl : Sem Bool} {Q : Value × List Value → Shared → Prop} (I : Inv X pins σ H s) (e : H a = some (.ins C dx fs)) (c : Cls X.K C) (k : Meth X.K C m g) (l : fs.lookup m = none)
   (h : Q (.ref g, [.ref a]) s) : wpAny (model X.prog X.w) A (getMethod (.ref a) m pl) Q E s := by
 obtain ⟨mA, O, r, _, _, _⟩ := oS I.hok e
 have hn : mA m = none := oY.none_of (by rw [← l]; exact r m)
 exact aP4 I.kIn O (c.get m) k.at_ k.fn hn h
theorem zH {y : V} {u : Value} {Q : Unit → Shared → Prop} (I : Inv X pins σ H s) (e : H a = some (.ins C dx fs)) (c : Cls X.K C) (n : fT X.K C f) (hl : fs.length < 1000) (ry : bY y u)
   (h : ∀ s', Inv X pins σ (upd H a (.ins C dx (iF f y fs))) s' → Q () s') : wpAny (model X.prog X.w) A (setAttr (.ref a) f u) Q E s := by
 obtain ⟨mA, O, r, wi, _, ho⟩ := oS I.hok e
 have hz : (fs.map (·.1)).length ≤ sizeLine := by rw [List.length_map, sizeLine_eq]; omega
 refine aR9 I.kIn O c.sa c.po n.taker c.hd wi hz fun h' O' sb => h _ ?_
 have hd : ∃ o, h'.get? dx = some o := let ⟨o, _, _, e', _⟩ := O'.ns; ⟨o, e'⟩
 refine I.write (x := a) (e := dx) (by rw [e]; exact True.intro) (.inr ho) (fun b q hb z => (sb.2 b hb).trans z) hd ?_
 refine ⟨by rw [aI O.ne]; exact ho, ?_, O.ne, O'.obj, _, O'.ns, fun g => ?_, fun g hg => ?_⟩
 · have := qG f y fs; omega
 · show oY ((iF f y fs).lookup g) (if g = f then some u else mA g)
   rw [aX]
   by_cases q : g = f
   · rw [if_pos q, if_pos q]; exact ry
   · rw [if_neg q, if_neg q]; exact r g
 · by_cases q : g = f
   · rw [q]; exact (pV f y fs).1
   · refine (pV f y fs).2 g (wi g fun z => hg ?_)
     show (if g = f then some u else mA g) = none
     rw [if_neg q]; exact z
theorem Inv.made (I : Inv X pins σ H s) : Inv X pins σ (upd (upd H s.heap.objs.size (.own (s.heap.objs.size + 1))) (s.heap.objs.size + 1) (.ins C s.heap.objs.size []))
   { s with heap := (s.heap.push W.emptyDict).push (W.instObj C s.heap.objs.size) } := by
 have e1 : (s.heap.push W.emptyDict).get? s.heap.objs.size = some W.emptyDict := Heap.get?_push_size s.heap rfl
 have e2 : ((s.heap.push W.emptyDict).push (W.instObj C s.heap.objs.size)).get? (s.heap.objs.size + 1) = some (W.instObj C s.heap.objs.size) := by
   have := Heap.get?_push_size (s.heap.push W.emptyDict) (o := W.instObj C s.heap.objs.size) rfl
   rwa [Heap.size_push] at this
 have e3 : (s.heap.push W.emptyDict).Ns s.heap.objs.size (fun _ => none) := ⟨W.emptyDict, #[], _, e1, rfl, (fun e he => absurd he (by simp)), fun _ => rfl⟩
 have I1 := I.laid (a := s.heap.objs.size) (o := .own (s.heap.objs.size + 1)) (h' := s.heap.push W.emptyDict) (t' := s.toks) (fun b u q => Heap.get?_push_of_some _ q) (Nat.le_refl _) ⟨_, e1⟩
 refine I1.laid (a := s.heap.objs.size + 1) (o := .ins C s.heap.objs.size []) (t' := s.toks) (fun b u q => Heap.get?_push_of_some _ q) (Nat.le_of_eq (Heap.size_push _ _)) ?_
 have ne : s.heap.objs.size ≠ s.heap.objs.size + 1 := Nat.ne_of_lt (Nat.lt_succ_self _)
 refine ⟨by rw [aI ne, aD], Nat.zero_le _, ne, e2, fun _ => none, (Heap.Ns1.of_empty e3).at fun o q => Heap.get?_push_of_some _ q, fun _ => True.intro, fun y hy => absurd rfl hy⟩
theorem aU3 {prog : Program} {w : World} {env : Env} {e : Expr} {f : Str} {pos : Pos} {s : Shared} {Q : Value → Shared → Prop} (hb : attributeBase e f env (eval e env) = eval e env)
   (h : wpAny (model prog w) A (eval e env) (fun o s₁ => wpAny (model prog w) A (getAttr o f true) Q E s₁) E s) : wpAny (model prog w) A (eval (.Attribute e f pos) env) Q E s :=
 Attribute_any_ h (by rw [arm_eval_Attribute, hb])
end
def bE0 (K : W.Frag) (ta : TE) (f : Str) : TE := fun σ H Q => ta σ H fun x H1 => ∃ a C dx fs v, x = .ref a ∧ H1 a = some (.ins C dx fs) ∧ Cls K C ∧ fT K C f ∧ fs.lookup f = some v ∧ Q v H1
def bE2 (K : W.Frag) (ta tv : TE) (f : Str) : TS := fun D σ H => tv σ H fun y H1 => ta σ H1 fun x H2 => ∃ a C dx fs, x = .ref a ∧ H2 a = some (.ins C dx fs) ∧ Cls K C ∧ fT K C f ∧ fs.length < 1000 ∧
 D.nx σ (upd H2 a (.ins C dx (iF f y fs)))
section
variable {X : Cx} {o e value : Expr} {f : Str} {pos pos' tpos : Pos} {ta tv : TE}
theorem bR (he : PE X e ta) (hb : attributeBase e f X.env (eval e X.env) = eval e X.env) : PE X (.Attribute e f pos) (bE0 X.K ta f) := by
 intro pins s σ H Q I h
 refine aU3 hb (thn (he pins s σ H _ I h) fun u s1 ⟨x, H1, I1, rx, a, C, dx, fs, v, ex, ea, c, n, l, q⟩ => ?_)
 subst ex
 obtain rfl : u = Value.ref a := rx
 exact aA9 I1 ea c n l fun u' s2 I2 ru => ⟨v, H1, I2, ru, q⟩
theorem fL (ha : PE X o ta) (hv : PE X value tv) (hs : swapsWith value (some (.Attribute o f pos')) pos.line X.env = pure false) : PS X (.Assign [.Attribute o f pos'] value pos) (bE2 X.K ta tv f) := by
 intro pins s σ H D I h
 refine plainObj_wpAny_Assign_Attribute (thn (hv pins s σ H _ I h) fun u s1 ⟨y, H1, I1, ry, q⟩ => thn (ha pins s1 σ H1 _ I1 q) fun ov s2 ⟨x, H2, I2, rx, a, C, dx, fs, ex, ea, c, n, l, q2⟩ => ?_) hs
 subst ex
 obtain rfl : ov = Value.ref a := rx
 exact zH I2 ea c n l ry fun s3 I3 => ⟨σ, _, I3, q2⟩
end
section
variable {X : Cx} {pins : List (Addr × Obj)} {σ : St} {H : Hp} {s : Shared} {A : Around} {E : Value → Shared → Prop} {Q : Value → Shared → Prop} {c : Value} {b : Bool}
inductive TyOf (K : W.Frag) (H : Hp) : V → Value → Prop where
 | non : TyOf K H .non (.type "NoneType")
 | bl (x : Bool) : TyOf K H (.bl x) (.type "bool")
 | int (i : Int) : TyOf K H (.int i) (.type "int")
 | str (x : Str) : TyOf K H (.str x) (.type "str")
 | flt (x : UInt64) : TyOf K H (.flt x) (.type "float")
 | lst {a : Addr} {xs : List V} (e : H a = some (.lst xs)) : TyOf K H (.ref a) (.type "list")
 | frz {a : Addr} {o : Obj} {xs : List V} (e : H a = some (.frz o (.lst xs))) : TyOf K H (.ref a) (.type "list")
 | tup {a : Addr} {xs : List V} (e : H a = some (.tup xs)) : TyOf K H (.ref a) (.type "tuple")
 | dK {a : Addr} {kvs : List (Key × V)} (e : H a = some (.dK kvs)) : TyOf K H (.ref a) (.type "dict")
 | dT {a : Addr} {kvs : List (List Key × V)} (e : H a = some (.dT kvs)) : TyOf K H (.ref a) (.type "dict")
 | ins {a C dx : Addr} {fs : List (Str × V)} (e : H a = some (.ins C dx fs)) (cl : Cls K C) (ha : W.findIn K (.ref C) "__class__" = some (some (.builtin "object.__class__")))
     (hn : W.specialIn K (.builtin "object.__class__") "__get__" = some (some (.builtin "getset_descriptor.__get__"))) (htk : W.takesIn K (.builtin "object.__class__") = some true)
     (hm : W.mroIn K C (.type "object") = some true) : TyOf K H (.ref a) (.ref C)
theorem aH4 {x : V} {u t : Value} (I : Inv X pins σ H s) (rx : bY x u) (ty : TyOf X.K H x t) (e : W.kitOne X.K t c = some b) (h : ∀ tk, Q (.bool b) { s with toks := tk }) :
   wpAny (model X.prog X.w) A (call (.builtin "isinstance") [u, c]) Q E s := by
 cases ty with
 | non => cases (show u = Value.none from rx); exact W.kia_one W.kitx_none I.kIn True.intro e (fun z => nomatch z) h
 | bl y => cases (show u = Value.bool y from rx); exact W.kia_one W.kitx_bool I.kIn True.intro e (fun z => nomatch z) h
 | int i => obtain ⟨t, q⟩ := (show ∃ t, u = Value.int i t from rx); cases q; exact W.kia_one W.kitx_int I.kIn True.intro e (fun z => nomatch z) h
 | str y => obtain ⟨t, q⟩ := (show ∃ t, u = Value.str y t from rx); cases q; exact W.kia_one W.kitx_str I.kIn True.intro e (fun z => nomatch z) h
 | flt y => obtain ⟨t, q⟩ := (show ∃ t, u = Value.float y t from rx); cases q; exact W.kia_one W.kitx_float I.kIn True.intro e (fun z => nomatch z) h
 | @lst a xs ea =>
   cases (show u = Value.ref a from rx)
   obtain ⟨_, _, n, _, h1⟩ := (show bN X.prog X.w H s.heap a (.lst xs) from I.hok a _ ea)
   exact W.kia_one W.kitx_list I.kIn ⟨_, h1, rfl⟩ e (fun z => nomatch z) h
 | @frz a ob xs ea =>
   cases (show u = Value.ref a from rx)
   obtain ⟨_, _, _, n, _, h1⟩ := (show bN X.prog X.w H s.heap a (.frz ob (.lst xs)) from I.hok a _ ea)
   exact W.kia_one W.kitx_list I.kIn ⟨_, h1, rfl⟩ e (fun z => nomatch z) h
 | @tup a xs ea =>
   cases (show u = Value.ref a from rx)
   obtain ⟨_, _, _, p⟩ := (show bN X.prog X.w H s.heap a (.tup xs) from I.hok a _ ea)
   obtain ⟨o, h1, h2, _⟩ := p
   exact W.kia_one W.kitx_tuple I.kIn ⟨o, h1, h2⟩ e (fun z => nomatch z) h
 | @dK a kvs ea =>
   cases (show u = Value.ref a from rx)
   obtain ⟨_, _, vs, _, p⟩ := (show bN X.prog X.w H s.heap a (.dK kvs) from I.hok a _ ea)
   obtain ⟨o, es, ep, h1, h2, _⟩ := p
   exact W.kia_one W.kitx_dict I.kIn ⟨o, h1, h2.1⟩ e (fun z => nomatch z) h
 | @dT a kvs ea =>
   cases (show u = Value.ref a from rx)
   obtain ⟨_, _, xs, _, o, es, ep, h1, h2, _⟩ := (show bN X.prog X.w H s.heap a (.dT kvs) from I.hok a _ ea)
   exact W.kia_one W.kitx_dict I.kIn ⟨o, h1, h2.1⟩ e (fun z => nomatch z) h
 | @ins a C dx fs ea cl ha hn htk hm =>
   cases (show u = Value.ref a from rx)
   obtain ⟨mA, O, _⟩ := oS I.hok ea
   obtain ⟨od, J, _⟩ := O.look
   exact W.kia_one (W.kitx_own (cl.get _) cl.hd ha hn htk hm) I.kIn J e (fun z => nomatch z) h
end
end L2
namespace L2
open PySem PySem.Spec PyProof.Rows
structure Room (k : Nat) (A : Around) : Prop where
 hd : A.handled = none
 dp : A.depth + 3 * k + 5 < recursionLimit
 un : A.units + 16 * k + 200 < cLine
theorem Room.mono {j k : Nat} {A : Around} (r : Room k A) (h : j ≤ k) : Room j A := ⟨r.hd, by have := r.dp; omega, by have := r.un; omega⟩
theorem Room.deeper {k : Nat} {A : Around} (r : Room (k + 1) A) (env : Env) : Room k (A.deeper env) :=
 ⟨r.hd, by have := r.dp; show A.depth + 1 + 3 * k + 5 < _; omega, by have := r.un; show A.units + 3 + 16 * k + 200 < _; omega⟩
theorem aA4 {A : Around} {C : Addr} {us : List Value} {kw : List (Str × Value)} : (A.under (.builtin "type.__call__" ⟨.ref C :: us, kw⟩)).depth = A.depth + 1 := by
 first | rfl | simp [Around.under, Code.weight, Code.isCreation, Code.isGuard, Code.isCaller, Code.frames, Code.isFrame, guardIds]
theorem aA3 {A : Around} {C : Addr} {us : List Value} {kw : List (Str × Value)} : (A.under (.builtin "type.__call__" ⟨.ref C :: us, kw⟩)).units = A.units + 1 := by
 first | rfl | simp [Around.under, Code.cUnits, Code.frames, Code.isFrame]
theorem Room.make {k : Nat} {A : Around} (r : Room (k + 1) A) (C : Addr) (us : List Value) (kw : List (Str × Value)) : Room k (A.under (.builtin "type.__call__" ⟨.ref C :: us, kw⟩)) :=
 ⟨r.hd, by have := r.dp; rw [aA4]; omega, by have := r.un; rw [aA3]; omega⟩
theorem Room.depth {k : Nat} {A : Around} (r : Room k A) : A.depth < recursionLimit := by have := r.dp; omega
theorem Room.units {k : Nat} {A : Around} (r : Room k A) : A.units + 64 < cLine := by have := r.un; omega
theorem Room.units0 {k : Nat} {A : Around} (r : Room k A) : A.units < cLine := by have := r.un; omega
def xL : TA := fun _ H Q => Q [] H
def aB2 (ta : TE) (tr : TA) : TA := fun σ H Q => ta σ H fun x H1 => tr σ H1 fun xs H2 => Q (x :: xs) H2
section
variable {X : Cx} {e : Expr} {es : List Expr} {te : TE} {t : TA} {pos : Pos}
theorem aB : PA X [] xL := fun _ _ _ _ H Q I h => Calls.spliced_nil ⟨[], H, I, .nil, h⟩
theorem aA (ha : PE X e te) (hr : PA X es t) (hs : starEach (e :: es) X.env = (false, eval e X.env) :: starEach es X.env := by rfl) : PA X (e :: es) (aB2 te t) := by
 intro pos pins s σ H Q I h
 rw [hs]
 show wpAny _ _ (spliced ((false, eval e X.env) :: backTo pos (starEach es X.env))) _ _ s
 refine Calls.spliced_cons (thn (ha pins s σ H _ I h) fun u s1 ⟨x, H1, I1, r1, q1⟩ => ?_)
 exact thn (hr pos pins s1 σ H1 _ I1 q1) fun us s2 ⟨xs, H2, I2, r2, q2⟩ => ⟨x :: xs, H2, I2, .cons r1 r2, q2⟩
def bD3 (t : TA) : TE := fun σ H Q => t σ H fun xs H1 => xs.length ≤ sizeLine ∧ ∀ p, H1 p = none → Q (.ref p) (upd H1 p (.tup xs))
def bD7 (t : TA) : TE := fun σ H Q => t σ H fun xs H1 => xs.length ≤ sizeLine ∧ ∀ p, H1 p = none → Q (.ref p) (upd H1 p (.lst xs))
theorem bD {x1} (h : PA X es t) : PE X (.Tuple es x1 pos) (bD3 t) := by
 intro pins s σ H Q I hq
 refine wpAny_Tuple_spliced (thn (h pos pins s σ H _ I hq) fun us s1 ⟨xs, H1, I1, r, z, q⟩ => ⟨by rw [← r.length]; exact z, ?_⟩)
 have hf : H1 s1.heap.objs.size = none := I1.hok.fresh (Nat.le_refl _)
 refine ⟨.ref s1.heap.objs.size, upd H1 s1.heap.objs.size (.tup xs), I1.laid (t' := s1.toks) (fun b u e => Heap.get?_push_of_some _ e) (Nat.le_refl _) ?_, rfl, q _ hf⟩
 exact ⟨z, us, r, ⟨_, Heap.get?_push_size _ rfl, rfl, _, rfl⟩⟩
theorem aN (h : PA X es t) : PE X (.List es pos) (bD7 t) := by
 intro pins s σ H Q I hq
 refine wpAny_List_spliced (thn (h pos pins s σ H _ I hq) fun us s1 ⟨xs, H1, I1, r, z, q⟩ => ⟨by rw [← r.length]; exact z, ?_⟩)
 have hf : H1 s1.heap.objs.size = none := I1.hok.fresh (Nat.le_refl _)
 refine ⟨.ref s1.heap.objs.size, upd H1 s1.heap.objs.size (.lst xs), I1.laid (t' := s1.toks) (fun b u e => Heap.get?_push_of_some _ e) (Nat.le_refl _) ?_, rfl, q _ hf⟩
 exact ⟨z, us, 0, r, Heap.get?_push_size _ rfl⟩
end
abbrev Sp := List V → Hp → VK → XK → Prop
abbrev CXT := List Env → Hp → Shared → XK → Value → Shared → Prop
structure Env0 (P : Program) (w : World) (K : W.Frag) (mg : Str → Option Value) (base : Heap) (A : Around) (outer : List Env) (s : Shared) (H : Hp) : Prop where
 frames : A.frames = some outer
 mod : Mod K mg base
 bs : ∀ b o, base.get? b = some o → s.heap.get? b = some o ∧ H b = none
 bsz : base.objs.size ≤ s.heap.objs.size
 funs : s.heap.FunFrames base outer
 frf : ∀ b ∈ frs outer, H b = none
 hok : HOk P w H s.heap
 bare : AllBare s.gens
def CE (outer : List Env) (P : Program) (w : World) (H : Hp) (s : Shared) (Q : VK) (u : Value) (s' : Shared) : Prop :=
 ∃ v H', s'.os = s.os ∧ AllBare s'.gens ∧ Un (frs outer) [] H H' s.heap s'.heap ∧ HOk P w H' s'.heap ∧ bY v u ∧ Q v H'
def CR (CX : CXT) (outer : List Env) (P : Program) (w : World) (H : Hp) (s : Shared) (Q : VK) (E : XK) (r : Result) (s' : Shared) : Prop :=
 match r with
 | .ok (.ret u) => CE outer P w H s Q u s'
 | .ok _ => False
 | .error e => CX outer H s E e s'
structure FnOk (P : Program) (w : World) (K : W.Frag) (mg : Str → Option Value) (base : Heap) (CX : CXT) (k : Nat) (f : Addr) (fd : FuncData) (ps : List Str) (sp : Sp) : Prop where
 len : ∀ vs H Q E, sp vs H Q E → vs.length = ps.length
 run : ∀ (A : Around) (outer : List Env) (s : Shared) (H : Hp) (args : Args) (us : List Value) (vs : List V) (Q : VK) (E : XK), Room k A → Env0 P w K mg base A outer s H → BindsTo s fd args (ps.zip us) → Vals vs us → sp vs H Q E →
   codeAny (model P w) A (.call (.ref f) args) (CR CX outer P w H s Q E) s
theorem FnOk.mono {P : Program} {w : World} {K : W.Frag} {mg : Str → Option Value} {base : Heap} {CX : CXT} {j k : Nat} {f : Addr} {fd : FuncData} {ps : List Str} {sp : Sp} (F : FnOk P w K mg base CX j f fd ps sp) (h : j ≤ k) :
   FnOk P w K mg base CX k f fd ps sp := ⟨F.len, fun A outer s H args us vs Q E hr => F.run A outer s H args us vs Q E (hr.mono h)⟩
theorem Env0.make {P : Program} {w : World} {K : W.Frag} {mg : Str → Option Value} {base : Heap} {A : Around} {outer : List Env} {s : Shared} {H : Hp} (e : Env0 P w K mg base A outer s H) (C : Addr) (us : List Value) (kw : List (Str × Value)) :
   Env0 P w K mg base (A.under (.builtin "type.__call__" ⟨.ref C :: us, kw⟩)) outer s H := ⟨by first | exact e.frames | (simpa [Around.under, Code.envs, Code.isFrame, pushEnvs] using e.frames), e.mod, e.bs, e.bsz, e.funs, e.frf, e.hok, e.bare⟩
section
variable {X : Cx} {pins : List (Addr × Obj)} {σ : St} {H : Hp} {s s' : Shared}
theorem Inv.env0 (I : Inv X pins σ H s) : Env0 X.prog X.w X.K X.mg X.base X.A X.stack s H :=
 ⟨I.ok.frames, I.ok.mod, I.bs, Nat.le_trans I.ok.bsz I.sz, I.stack, I.stkFree, I.hok, I.bare⟩
theorem Inv.after {Q : VK} {u : Value} (I : Inv X pins σ H s) (h : CE X.stack X.prog X.w H s Q u s') : EP X pins σ Q u s' := by
 obtain ⟨v, H', os, bare, un, hok, r, q⟩ := h
 obtain ⟨hh, g, d, t, os'⟩ := s'
 obtain rfl : os' = s.os := os
 exact ⟨v, H', I.call (h' := hh) (g' := g) (d' := d) (t' := t) (ch := []) un hok bare (fun b z => absurd z (by simp)), r, q⟩
end
def uR (sp : Sp) (dvs : List V) (E : XK) (t : TA) : TE := fun σ H Q => t σ H fun vs H1 => sp (vs ++ dvs) H1 Q E
def xN (C : Addr) (m : Str) (sp : Sp) (dvs : List V) (E : XK) (ta : TE) (t : TA) : TE := fun σ H Q => ta σ H fun x H1 => ∃ a dx fs, x = .ref a ∧ H1 a = some (.ins C dx fs) ∧ fs.lookup m = none ∧
 t σ H1 fun vs H2 => sp (x :: (vs ++ dvs)) H2 Q E
def aJ0 (C : Addr) (sp : Sp) (dvs : List V) (E : XK) (t : TA) : TE := fun σ H Q => t σ H fun vs H1 => ∀ x dx, H1 x = none → H1 dx = none → dx ≠ x →
 sp (.ref x :: (vs ++ dvs)) (upd (upd H1 dx (.own x)) x (.ins C dx [])) (fun v H2 => v = .non ∧ Q (.ref x) H2) E
def Binds (K : W.Frag) (fd : FuncData) (ps : List Str) (ds : List Value) : Prop :=
 ∀ (s : Shared) (us : List Value), K.In s.heap → (us ++ ds).length = ps.length → BindsTo s fd ⟨us, []⟩ (ps.zip (us ++ ds))
theorem Binds.all {K : W.Frag} {fd : FuncData} {ps : List Str} (h : ∀ us : List Value, us.length = ps.length → bindArgs fd ⟨us, []⟩ = pure (ps.zip us)) : Binds K fd ps [] := fun s us _ hl => by
 rw [List.append_nil] at hl ⊢
 exact .of_eq (h us hl)
def Passes (CX : CXT) (X : Cx) (E : XK) : Prop := ∀ (pins : List (Addr × Obj)) (σ : St) (H : Hp) (s : Shared) (e : Value) (s' : Shared), Inv X pins σ H s → CX X.stack H s E e s' → X.xe e s'
section
variable {X : Cx} {CX : CXT} {k : Nat} {f C : Addr} {fd : FuncData} {ps : List Str} {sp : Sp} {dvs : List V} {ds : List Value} {E : XK} {x m : Str} {p pos apos : Pos} {e o : Expr} {es : List Expr} {ta : TE} {t : TA}
theorem pN {pins : List (Addr × Obj)} {σ : St} {H : Hp} {s : Shared} {Q : VK} {us : List Value} {vs : List V} (F : FnOk X.prog X.w X.K X.mg X.base CX k f fd ps sp) (hr : Room k X.A) (hb : Binds X.K fd ps ds) (hd : Vals dvs ds) (hx : Passes CX X E)
   (I : Inv X pins σ H s) (r : Vals vs us) (h : sp (vs ++ dvs) H Q E) : wpAny (model X.prog X.w) X.A (call (.ref f) us) (EP X pins σ Q) X.xe s := by
 have r2 : Vals (vs ++ dvs) (us ++ ds) := r.append hd
 have hl : (us ++ ds).length = ps.length := by rw [← r2.length]; exact F.len _ _ _ _ h
 refine wpAny_call (codeAny_mono (F.run X.A X.stack s H ⟨us, []⟩ (us ++ ds) (vs ++ dvs) Q E hr I.env0 (hb s us I.kIn hl) r2 h) fun r s' hq => ?_)
 cases r with
 | error e => exact hx pins σ H s e s' I hq
 | ok fl =>
   cases fl with
   | ret u => exact I.after hq
   | next => exact False.elim hq
   | brk => exact False.elim hq
   | cont => exact False.elim hq
theorem aC1 (F : FnOk X.prog X.w X.K X.mg X.base CX k f fd ps sp) (hr : Room k X.A) (hg : Gl X x) (hm : X.mg x = some (.ref f)) (hk : W.keepIn X.K (.ref f) = true) (hb : Binds X.K fd ps ds) (hd : Vals dvs ds) (hx : Passes CX X E)
   (ha : PA X (e :: es) t) (hdb : (x == ("__debug__" : Str)) = false := by decide) (he : starEach (e :: es) X.env = (false, eval e X.env) :: starEach es X.env := by rfl) (hpl : (backTo pos (starEach es X.env)).any (·.1) = false := by rfl) :
   PE X (.Call (.Name x p) (e :: es) [] pos) (uR sp dvs E t) := by
 intro pins s σ H Q I h
 refine wpAny_Call_Name_kw (iU I hg hm ?_ hdb)
 refine W.callWith_K (h₀ := X.base) I.ok.mod.kin hk (thn (ha pos pins s σ H _ I h) fun us s1 ⟨vs, H1, I1, r, q⟩ => ⟨I1.kIn, ?_⟩) he hpl
 exact pN F hr hb hd hx I1 r q
theorem aL7 (F : FnOk X.prog X.w X.K X.mg X.base CX k f fd ps sp) (hr : Room k X.A) (hg : Gl X x) (hm : X.mg x = some (.ref f)) (hk : W.keepIn X.K (.ref f) = true) (hb : Binds X.K fd ps ds) (hd : Vals dvs ds) (hx : Passes CX X E)
   (hdb : (x == ("__debug__" : Str)) = false := by decide) : PE X (.Call (.Name x p) [] [] pos) (uR sp dvs E xL) := by
 intro pins s σ H Q I h
 refine wpAny_Call_Name_kw (iU I hg hm ?_ hdb)
 exact W.callWith_K0 I.kIn hk (pN (us := []) F hr hb hd hx I .nil h)
theorem aB8 {pl : Sem Bool} (he : PE X o ta) (c : Cls X.K C) (hm : Meth X.K C m f) (F : FnOk X.prog X.w X.K X.mg X.base CX k f fd ps sp) (hr : Room k X.A) (hb : Binds X.K fd ps ds) (hd : Vals dvs ds) (hx : Passes CX X E) (ha : PA X (e :: es) t)
   (hst : starEach (e :: es) X.env = (false, eval e X.env) :: starEach es X.env := by rfl) (hpl : (backTo pos (starEach es X.env)).any (·.1) = false := by rfl)
   (ht : eval (.Call (.Attribute o m apos) (e :: es) [] pos) X.env = (do
     let ov ← eval o X.env
     standAt apos.atName
     let (f, first) ← holding [ov] (getMethod ov m pl)
     callWith pos f first (backTo pos (starEach (e :: es) X.env)) (backToKw pos (keywordEach [] X.env))) := by rfl) :
   PE X (.Call (.Attribute o m apos) (e :: es) [] pos) (xN C m sp dvs E ta t) := by
 intro pins s σ H Q I h
 refine W.methodCall_KW (pl := pl) (thn (he pins s σ H _ I h) fun u s1 ⟨x, H1, I1, rx, a, dx, fs, ex, ea, l, q⟩ => ?_) ht
 subst ex
 obtain rfl : u = Value.ref a := rx
 refine lI I1 ea c hm l ?_
 refine W.callWith_K (first := [.ref a]) (h₀ := X.base) I.ok.mod.kin hm.kp (thn (ha pos pins s1 σ H1 _ I1 q) fun us s2 ⟨vs, H2, I2, r, q2⟩ => ⟨I2.kIn, ?_⟩) hst hpl
 exact pN (us := .ref a :: us) (vs := .ref a :: vs) F hr hb hd hx I2 (.cons rfl r) q2
theorem aL5 {pl : Sem Bool} (he : PE X o ta) (c : Cls X.K C) (hm : Meth X.K C m f) (F : FnOk X.prog X.w X.K X.mg X.base CX k f fd ps sp) (hr : Room k X.A) (hb : Binds X.K fd ps ds) (hd : Vals dvs ds) (hx : Passes CX X E)
   (ht : eval (.Call (.Attribute o m apos) [] [] pos) X.env = (do
     let ov ← eval o X.env
     standAt apos.atName
     let (f, first) ← holding [ov] (getMethod ov m pl)
     callWith pos f first (backTo pos (starEach [] X.env)) (backToKw pos (keywordEach [] X.env))) := by rfl) :
   PE X (.Call (.Attribute o m apos) [] [] pos) (xN C m sp dvs E ta xL) := by
 intro pins s σ H Q I h
 refine W.methodCall_KW (pl := pl) (thn (he pins s σ H _ I h) fun u s1 ⟨x, H1, I1, rx, a, dx, fs, ex, ea, l, q⟩ => ?_) ht
 subst ex
 obtain rfl : u = Value.ref a := rx
 refine lI I1 ea c hm l ?_
 exact W.callWith_K0 (first := [.ref a]) I1.kIn hm.kp (pN (us := [.ref a]) (vs := [.ref a]) F hr hb hd hx I1 (.cons rfl .nil) q)
structure Mk (K : W.Frag) (C f : Addr) : Prop where
 makes : W.makesIn K C = true
 init : W.findIn K (.ref C) "__init__" = some (some (.ref f))
 fn : W.isFn K (.ref f) = true
 kp : W.keepIn K (.ref C) = true
theorem aK5 {pins : List (Addr × Obj)} {σ : St} {H : Hp} {s : Shared} {Q : VK} {us : List Value} {vs : List V} (M : Mk X.K C f) (F : FnOk X.prog X.w X.K X.mg X.base CX k f fd ps sp) (hr : Room (k + 1) X.A) (hb : Binds X.K fd ps ds) (hd : Vals dvs ds)
   (hx : Passes CX X E) (I : Inv X pins σ H s) (r : Vals vs us)
   (h : ∀ x dx, H x = none → H dx = none → dx ≠ x → sp (.ref x :: (vs ++ dvs)) (upd (upd H dx (.own x)) x (.ins C dx [])) (fun v H2 => v = .non ∧ Q (.ref x) H2) E) :
   wpAny (model X.prog X.w) X.A (call (.ref C) us) (EP X pins σ Q) X.xe s := by
 have hq := h (s.heap.objs.size + 1) s.heap.objs.size (I.hok.fresh (Nat.le_succ _)) (I.hok.fresh (Nat.le_refl _)) (Nat.ne_of_lt (Nat.lt_succ_self _))
 have I2 := Inv.made (C := C) I
 have r2 : Vals (V.ref (s.heap.objs.size + 1) :: (vs ++ dvs)) (Value.ref (s.heap.objs.size + 1) :: (us ++ ds)) := .cons rfl (r.append hd)
 have hl : (Value.ref (s.heap.objs.size + 1) :: us ++ ds).length = ps.length := by
   have e := r2.length
   rw [F.len _ _ _ _ hq] at e
   exact e.symm
 refine wpAny_call (aN6 (f := f) I.kIn M.makes M.init (beq_iff_eq.mp M.fn) (codeAny_mono (F.run _ X.stack _ _ ⟨Value.ref (s.heap.objs.size + 1) :: us, []⟩ (Value.ref (s.heap.objs.size + 1) :: (us ++ ds)) _ _ E (hr.make C us [])
   (I2.env0.make C us []) (hb _ (Value.ref (s.heap.objs.size + 1) :: us) I2.kIn hl) r2 hq) fun r s' hq' => ?_))
 cases r with
 | error e => exact hx pins σ _ _ e s' I2 hq'
 | ok fl =>
   cases fl with
   | ret u =>
     obtain ⟨v, H', I3, rv, ev, q3⟩ := I2.after hq'
     subst ev
     exact ⟨rv, ⟨V.ref (s.heap.objs.size + 1), H', I3, rfl, q3⟩⟩
   | next => exact False.elim hq'
   | brk => exact False.elim hq'
   | cont => exact False.elim hq'
theorem aB9 (M : Mk X.K C f) (F : FnOk X.prog X.w X.K X.mg X.base CX k f fd ps sp) (hr : Room (k + 1) X.A) (hg : Gl X x) (hm : X.mg x = some (.ref C)) (hb : Binds X.K fd ps ds) (hd : Vals dvs ds) (hx : Passes CX X E)
   (ha : PA X (e :: es) t) (hdb : (x == ("__debug__" : Str)) = false := by decide) (he : starEach (e :: es) X.env = (false, eval e X.env) :: starEach es X.env := by rfl) (hpl : (backTo pos (starEach es X.env)).any (·.1) = false := by rfl) :
   PE X (.Call (.Name x p) (e :: es) [] pos) (aJ0 C sp dvs E t) := by
 intro pins s σ H Q I h
 refine wpAny_Call_Name_kw (iU I hg hm ?_ hdb)
 refine W.callWith_K (h₀ := X.base) I.ok.mod.kin M.kp (thn (ha pos pins s σ H _ I h) fun us s1 ⟨vs, H1, I1, r, q⟩ => ⟨I1.kIn, ?_⟩) he hpl
 exact aK5 M F hr hb hd hx I1 r q
end
section
variable {X : Cx} {CX : CXT} {k : Nat} {f C : Addr} {fd : FuncData} {ps ks : List Str} {sp : Sp} {E : XK} {x m : Str} {p pos apos kpos : Pos} {e o : Expr} {es : List Expr} {kws : List Keyword} {te ta : TE} {t tk : TA} {nm : Option Str}
structure KBinds (K : W.Frag) (fd : FuncData) (ps ks : List Str) (g : List Value → List Value → List Value) (gV : List V → List V → List V) : Prop where
 to : ∀ (s : Shared) (us ws : List Value), K.In s.heap → (g us ws).length = ps.length → BindsTo s fd ⟨us, ks.zip ws⟩ (ps.zip (g us ws))
 rel : ∀ {vs : List V} {us : List Value} {zs : List V} {ws : List Value}, Vals vs us → Vals zs ws → Vals (gV vs zs) (g us ws)
variable {g : List Value → List Value → List Value} {gV : List V → List V → List V}
end
structure FnScope (N P : List Str) (sc : Scope) : Prop where
 kind : sc.kind = .function
 co : sc.isCoroutine = false
 gen : sc.isGenerator = false
 nd : N.Nodup
 pre : N.take P.length = P
 par : ∀ x ∈ P, sc.names.lookup x = some .local ∨ sc.names.lookup x = some .cell
 nofree : ∀ y ∈ sc.names, y.2 ≠ .free
theorem vM {kindOf : Str → Option NameKind} {x : Str} : ∀ {binds : List (Str × Value)} {m : Str → Option Value}, (∀ v, (x, v) ∉ binds) → bindL kindOf binds m x = m x
 | [], _, _ => rfl
 | (n, v) :: r, m, h => by
   unfold bindL
   rw [vM fun w hw => h w (List.mem_cons_of_mem _ hw)]
   split
   · have : x ≠ n := by rintro rfl; exact h v List.mem_cons_self
     simp [this]
   · rfl
theorem vO {kindOf : Str → Option NameKind} {x : Str} : ∀ {binds : List (Str × Value)} {m : Str → Option Value}, (∀ v, (x, v) ∉ binds) → bindC kindOf binds m x = m x
 | [], _, _ => rfl
 | (n, v) :: r, m, h => by
   unfold bindC
   rw [vO fun w hw => h w (List.mem_cons_of_mem _ hw)]
   split
   · rfl
   · have : x ≠ n := by rintro rfl; exact h v List.mem_cons_self
     simp [this]
theorem vN {kindOf : Str → Option NameKind} {x : Str} {v : Value} : ∀ {P : List Str} {vs : List Value} {i : Nat} {m : Str → Option Value}, P.Nodup → P[i]? = some x → vs[i]? = some v → kindOf x = some .local →
   bindL kindOf (P.zip vs) m x = some v
 | [], _, _, _, _, h, _, _ => by simp at h
 | _ :: _, [], _, _, _, _, h, _ => by simp at h
 | p :: P, w :: vs, 0, m, nd, h1, h2, hk => by
   simp at h1 h2; subst h1; subst h2
   show bindL kindOf ((p, w) :: P.zip vs) m p = _
   unfold bindL
   rw [vM fun v hv => (List.nodup_cons.mp nd).1 (List.of_mem_zip hv).1, if_pos hk]
   simp
 | p :: P, w :: vs, i + 1, m, nd, h1, h2, hk => by
   show bindL kindOf ((p, w) :: P.zip vs) m x = _
   unfold bindL
   exact vN (i := i) (List.nodup_cons.mp nd).2 (by simpa using h1) (by simpa using h2) hk
theorem vP {kindOf : Str → Option NameKind} {x : Str} {v : Value} : ∀ {P : List Str} {vs : List Value} {i : Nat} {m : Str → Option Value}, P.Nodup → P[i]? = some x → vs[i]? = some v → kindOf x ≠ some .local →
   bindC kindOf (P.zip vs) m x = some v
 | [], _, _, _, _, h, _, _ => by simp at h
 | _ :: _, [], _, _, _, _, h, _ => by simp at h
 | p :: P, w :: vs, 0, m, nd, h1, h2, hk => by
   simp at h1 h2; subst h1; subst h2
   show bindC kindOf ((p, w) :: P.zip vs) m p = _
   unfold bindC
   rw [vO fun v hv => (List.nodup_cons.mp nd).1 (List.of_mem_zip hv).1, if_neg hk]
   simp
 | p :: P, w :: vs, i + 1, m, nd, h1, h2, hk => by
   show bindC kindOf ((p, w) :: P.zip vs) m x = _
   unfold bindC
   exact vP (i := i) (List.nodup_cons.mp nd).2 (by simpa using h1) (by simpa using h2) hk
def start (N : List Str) (vs : List V) : St := vs.map some ++ List.replicate (N.length - vs.length) none
def oV (CX : CXT) (P : Program) (w : World) (K : W.Frag) (mg : Str → Option Value) (base : Heap) (N : List Str) (qual : Str) (scope : Scope) (f : Addr) (cd : Value) (A : Around) (outer : List Env) (s : Shared) (H : Hp) (E : XK) : Cx where
 prog := P
 w := w
 K := K
 mg := mg
 base := base
 A := A.deeper (envOfC qual scope s.heap.objs.size f cd)
 N := N
 s₀ := s
 H₀ := H
 env := envOfC qual scope s.heap.objs.size f cd
 outer := outer
 stack := envOfC qual scope s.heap.objs.size f cd :: outer
 ex := []
 calm := true
 fn := fun _ => true
 pn := []
 xe := fun e s' => wpAny (model P w) (A.deeper (envOfC qual scope s.heap.objs.size f cd)) (leaving (envOfC qual scope s.heap.objs.size f cd) e) (fun _ s'' => CX outer H s E e s'') (fun e' s'' => CX outer H s E e' s'') s'
theorem yX {sc : Scope} {n : Nat} {x : Str} (h : sc.names.lookup x = some .cell) : ∃ c, (cellsFrom n sc.names []).lookup x = some c := by
 have q := W.cellsFrom_some sc.names n [] (.inl h)
 exact Option.isSome_iff_exists.mp q
theorem pW {CX : CXT} {P : Program} {w : World} {K : W.Frag} {mg : Str → Option Value} {base : Heap} {N ps : List Str} {qual : Str} {scope : Scope} {f : Addr} {cd : Value} {A : Around} {outer : List Env} {s s1 : Shared} {H : Hp} {E : XK} {us : List Value} {vs : List V}
   (S : FnScope N ps scope) (hd : A.handled = none) (e0 : Env0 P w K mg base A outer s H) (hl : vs.length = ps.length) (r : Vals vs us)
   (x : InCallC s s.heap.objs.size (bindL (envOfC qual scope s.heap.objs.size f cd).kindOf (ps.zip us) fun _ => none) (cellsFrom (s.heap.objs.size + 1) scope.names []) (bindC (envOfC qual scope s.heap.objs.size f cd).kindOf (ps.zip us) fun _ => none) s1) :
   Inv (oV CX P w K mg base N qual scope f cd A outer s H E) [] (start N vs) H s1 := by
 have hpl : ps.length ≤ N.length := by have := congrArg List.length S.pre; rw [List.length_take] at this; omega
 obtain ⟨h1, tk, rfl, hk⟩ := x.done
 have noA : ∀ b : Addr, b ∉ (oV CX P w K mg base N qual scope f cd A outer s H E).ex := fun b z => absurd (show b ∈ ([] : List Addr) from z) (by simp)
 refine ⟨⟨e0.mod, S.kind, rfl, rfl, Nat.le_refl _, fun y z c h1 h2 => ?_, fun y hy => ?_, fun y c _ h => ?_, fun _ => hd, Around.frames_deeper e0.frames, .inr ⟨rfl, rfl⟩, fun b z => absurd z (noA b), e0.bs, e0.bsz, fun b _ _ => noA b, fun b z => absurd z (noA b), e0.funs, e0.frf⟩,
   rfl, e0.bare, Un.kept hk, ⟨_, x.toInCall.ns, fun i y v h1 h2 h3 => ?_⟩, fun y c h => ⟨_, x.cell y c h⟩, e0.hok.fresh (Nat.le_refl _), fun y c h => ?_, fun p hp => absurd (show p ∈ ([] : List (Addr × Obj)) from hp) (by simp), e0.hok.kept hk, ?_⟩
 · exact name_of_addr x.apart (PySem.mem_of_lookup h1) (PySem.mem_of_lookup h2)
 · have hy : scope.names.lookup y = some .cell ∨ scope.names.lookup y = some .free := hy
   rcases hy with hy | hy
   · exact yX hy
   · exact absurd rfl (S.nofree _ (PySem.mem_of_lookup hy))
 · exact Nat.le_of_lt (x.above y c (PySem.mem_of_lookup h))
 · have hi : i < vs.length := by
     unfold start at h2
     by_cases hi : i < vs.length
     · exact hi
     · rw [List.getElem?_append_right (by simpa using hi)] at h2
       rw [List.getElem?_replicate] at h2
       split at h2 <;> cases h2
   have ha : vs[i]? = some v := by
     unfold start at h2
     rw [List.getElem?_append_left (by simpa using hi), List.getElem?_map] at h2
     cases e : vs[i]? with
     | none => rw [e] at h2; cases h2
     | some a => rw [e] at h2; cases h2; rfl
   obtain ⟨u, hu, rv⟩ := r.get ha
   have hp : ps[i]? = some y := by
     rw [← S.pre, List.getElem?_take_of_lt (by omega)]; exact h1
   have ndP : ps.Nodup := by rw [← S.pre]; exact S.nd.sublist (List.take_sublist _ _)
   refine ⟨u, rv, ?_⟩
   rcases S.par y (List.mem_of_getElem? hp) with k | k
   · exact .inl ⟨k, vN ndP hp hu k⟩
   · obtain ⟨c, e⟩ := yX (n := s.heap.objs.size + 1) k
     refine .inr ⟨.inl k, c, e, ?_⟩
     have q := x.cell y c e
     rw [vP ndP hp hu (by show scope.names.lookup y ≠ _; rw [k]; decide)] at q
     exact q
 · exact e0.hok.fresh (Nat.le_of_lt (x.above y c (PySem.mem_of_lookup h)))
 · unfold start
   show _ = N.length
   rw [List.length_append, List.length_map, List.length_replicate]
   omega
theorem aP8 {CX : CXT} {P : Program} {w : World} {K : W.Frag} {mg : Str → Option Value} {base : Heap} {k : Nat} {f : Addr} {name qual : Str} {params : Arguments} {body : List Stmt} {scope : Scope} {dV kV doc pm cdv ct oc : Value} {an od : Option Addr}
   {osl : Array (Option Value)} {N ps : List Str} {sp : Sp} (lk : K.lookup f = some ⟨oc, od, .func (W.fnOf name qual params body scope dV kV doc pm an cdv ct), osl⟩) (hcd : W.codeIn K cdv qual = true) (S : FnScope N ps scope)
   (len : ∀ vs H Q E, sp vs H Q E → vs.length = ps.length)
   (hbody : ∀ (A : Around) (outer : List Env) (s : Shared) (H : Hp) (vs : List V) (Q : VK) (E : XK), Room k (A.deeper (envOfC qual scope s.heap.objs.size f cdv)) → sp vs H Q E →
     ∃ t, PSs (oV CX P w K mg base N qual scope f cdv A outer s H E) body t ∧ t { nx := fun _ H' => Q .non H', rt := Q } (start N vs) H) :
   FnOk P w K mg base CX (k + 1) f (W.fnOf name qual params body scope dV kV doc pm an cdv ct) ps sp := by
 refine ⟨len, fun A outer s H args us vs Q E hr e0 hb r hsp => ?_⟩
 have hl := len _ _ _ _ hsp
 have KX : K.In s.heap := e0.mod.kin.keeps fun b o e => (e0.bs b o e).1
 have lim : s.heap.NoLimit := e0.mod.nolimit.keeps fun b o e => (e0.bs b o e).1
 have hkind : ∀ y ∈ ps.zip us, scope.names.lookup y.1 = some .local ∨ (scope.names.lookup y.1 = some .cell ∧ ((cellsFrom (s.heap.objs.size + 1) scope.names []).lookup y.1).isSome = true) := fun ⟨n, v⟩ hy => by
   rcases S.par n (List.of_mem_zip hy).1 with q | q
   · exact .inl q
   · exact .inr ⟨q, W.cellsFrom_some _ _ _ (.inl q)⟩
 refine codeAny_call_function hr.depth (KX _ _ lk) rfl S.co S.gen rfl (W.codeRec_of KX hcd) (hb _ _ _ _ ?_)
 refine wpAny_newFunctionEnv_cells S.kind hkind fun env he s1 x => ?_
 subst he
 refine ⟨lim.keeps x.toInCall.keep, codeAny_func ?_⟩
 obtain ⟨t, ht, hq⟩ := hbody A outer s H vs Q E (hr.deeper _) hsp
 have I : Inv (oV CX P w K mg base N qual scope f cdv A outer s H E) [] (start N vs) H s1 := pW S hr.hd e0 hl r x
 refine wpAny_mono (ht [] s1 (start N vs) H _ I hq) (fun fl s' hs => ?_) fun e s' hs => hs
 have fin : ∀ {σ' : St} {H' : Hp} {v : V} {u : Value}, Inv (oV CX P w K mg base N qual scope f cdv A outer s H E) [] σ' H' s' → bY v u → Q v H' → CE outer P w H s Q u s' :=
   fun {σ' H' v u} J rv q => ⟨v, H', J.os, J.bare, J.base, J.hok, rv, q⟩
 cases fl with
 | ret u =>
   obtain ⟨v, σ', H', J, rv, q⟩ := hs
   exact fin J rv q
 | next =>
   obtain ⟨σ', H', J, q⟩ := hs
   exact fin (v := V.non) (u := Value.none) J rfl q
 | brk =>
   obtain ⟨_, _, _, q⟩ := hs
   exact False.elim q
 | cont =>
   obtain ⟨_, _, _, q⟩ := hs
   exact False.elim q
end L2
namespace L2
open PySem PySem.Spec PyProof.Rows
section
variable {X : Cx} {x : Str} {p pos : Pos} {e : Expr} {es : List Expr} {t : TA} {id T : String} {r : List V → Hp → VK → Prop}
def tCB (r : List V → Hp → VK → Prop) (t : TA) : TE := fun σ H Q => t σ H fun vs H1 => r vs H1 Q
theorem aQ (hc : kX X (.builtin id) r) (hg : Gl X x) (hm : X.mg x = none) (hv : bootBuiltins x = some (.builtin id)) (ha : PA X (e :: es) t) (hn : x ≠ "__name__" := by decide) (hdb : (x == ("__debug__" : Str)) = false := by decide)
   (he : starEach (e :: es) X.env = (false, eval e X.env) :: starEach es X.env := by rfl) (hpl : (backTo pos (starEach es X.env)).any (·.1) = false := by rfl) : PE X (.Call (.Name x p) (e :: es) [] pos) (tCB r t) := by
 intro pins s σ H Q I h
 refine wpAny_Call_Name_kw (lG I hg hm hv ?_ hn hdb)
 exact PyProof.Rows.callWith_builtin1 (thn (ha pos pins s σ H _ I h) fun us s1 ⟨vs, H1, I1, r1, q1⟩ => hc pins s1 σ H1 vs us Q I1 r1 q1) he hpl
theorem aR (hc : kX X (.type T) r) (hg : Gl X x) (hm : X.mg x = none) (hv : bootBuiltins x = some (.type T)) (ha : PA X (e :: es) t) (hn : x ≠ "__name__" := by decide) (hdb : (x == ("__debug__" : Str)) = false := by decide)
   (he : starEach (e :: es) X.env = (false, eval e X.env) :: starEach es X.env := by rfl) (hpl : (backTo pos (starEach es X.env)).any (·.1) = false := by rfl) : PE X (.Call (.Name x p) (e :: es) [] pos) (tCB r t) := by
 intro pins s σ H Q I h
 refine wpAny_Call_Name_kw (lG I hg hm hv ?_ hn hdb)
 exact PyProof.Rows.callWith_type1 (thn (ha pos pins s σ H _ I h) fun us s1 ⟨vs, H1, I1, r1, q1⟩ => hc pins s1 σ H1 vs us Q I1 r1 q1) he hpl
end
end L2
namespace HT
open PySem PyProof.Rows
section
open PySem.SeqAt
open PySem.AutoSeq1 (wpAny_loadPart')
open PySem.MeetsSeq PySem.MeetsSeq2 PySem.MeetsSeq3
end
section
variable {prog : Program} {w : World} {A : Around} {E : Value → Shared → Prop} {s : Shared}
theorem aU2 {t b : Addr} {vs ws : List Value} {Q : Value → Shared → Prop} (ht : IsTup s.heap t vs.toArray) (hb : IsTup s.heap b ws.toArray) (hv : vs ≠ [])
   (h1 : ws = [] → Q (.ref t) s) (h2 : ws ≠ [] → Q (.ref s.heap.objs.size) { s with heap := s.heap.push { cls := .type "tuple", data := .seq (vs ++ ws).toArray } })
   (hsz : vs.length + ws.length ≤ sizeLine) : wpAny (model prog w) A (binaryOp .Add (.ref t) (.ref b)) Q E s := by
 obtain ⟨⟨cls, dd, data, sl⟩, ho, hc, n, hd⟩ := id ht
 obtain ⟨⟨cls2, dd2, data2, sl2⟩, ho2, hc2, n2, hd2⟩ := id hb
 simp only at hc hd hc2 hd2
 subst hc hd hc2 hd2
 have e : vs.toArray ++ ws.toArray = (vs ++ ws).toArray := by simp
 by_cases hw : ws = []
 · exact concat_meets ⟨_, ho, rfl⟩ ⟨_, ho2, rfl⟩ noFill_tuple_add seq_tuple_add PySem.F.slot_tuple_add PySem.F.entry_tuple_add (PySem.F.args_tuple_add_2 _ _)
     (tuple_addW1 t b vs.toArray ws.toArray n n2 dd dd2 sl sl2 (by simpa using hv) (by simp [hw])) ⟨ho, ho2, h1 hw⟩
 · refine concat_meets ⟨_, ho, rfl⟩ ⟨_, ho2, rfl⟩ noFill_tuple_add seq_tuple_add PySem.F.slot_tuple_add PySem.F.entry_tuple_add (PySem.F.args_tuple_add_2 _ _)
     (tuple_addW2 t b vs.toArray ws.toArray n n2 dd dd2 sl sl2 (by simpa using hv) (by simpa using hw) (by rw [List.size_toArray, List.size_toArray]; exact hsz)) ⟨ho, ho2, ?_⟩
   rw [e]
   exact h2 hw
end
end HT
namespace L2
open PySem PySem.Spec PyProof.Rows
theorem nW {ns : List Int} : ∀ {us : List Value}, Vals (ns.map V.int) us → IntsAre us ns := by
 induction ns with
 | nil => intro us r; rw [List.map_nil] at r; cases r; exact .nil
 | cons n ns ih =>
   intro us r
   rw [List.map_cons] at r
   cases r with
   | cons r1 r2 =>
     obtain ⟨t, e⟩ := r1
     subst e
     exact .cons n t (ih r2)
section
variable {X : Cx} {e : Expr} {te : TE} {lo hi : Option Expr} {tl th : TO} {pos p2 : Pos}
def bC3 (K : W.Frag) : R2 := fun x y H Q => ∃ a b xs ys, x = .ref a ∧ y = .ref b ∧ SqT K H a xs ∧ SqT K H b ys ∧ xs ≠ [] ∧ xs.length + ys.length ≤ sizeLine ∧
 (ys = [] → Q (.ref a) H) ∧ (ys ≠ [] → ∀ p, H p = none → Q (.ref p) (upd H p (.tup (xs ++ ys))))
theorem Vals.nil_iff {xs : List V} {us : List Value} (r : Vals xs us) : us = [] ↔ xs = [] := by
 cases r with
 | nil => simp
 | cons _ _ => simp
theorem aS6 : OpR X (binaryOp .Add) (bC3 X.K) := by
 intro pins s σ H x y v u Q I rx ry h
 obtain ⟨a, b, xs, ys, rfl, rfl, ha, hb, hx, hz, q1, q2⟩ := h
 cases rx
 cases ry
 obtain ⟨its, r1, p1, _⟩ := I.tuple ha
 obtain ⟨its2, r2, p2, _⟩ := I.tuple hb
 refine HT.aU2 p1 p2 (fun z => hx (r1.nil_iff.mp z)) (fun z => ⟨.ref a, H, I, rfl, q1 (r2.nil_iff.mp z)⟩) (fun z => ?_) (by rw [← r1.length, ← r2.length]; exact hz)
 refine ⟨.ref s.heap.objs.size, _, I.laid (t' := s.toks) (o := .tup (xs ++ ys)) (fun b ob q => Heap.get?_push_of_some _ q) (Nat.le_refl _) ?_, rfl, q2 (fun w => z (r2.nil_iff.mpr w)) _ (I.hok.fresh (Nat.le_refl _))⟩
 exact ⟨by rw [List.length_append]; exact hz, _, r1.append r2, IsTup.new _ _⟩
end
end L2
namespace L2
open PySem PySem.Spec PyProof.Rows
def ixN (n : Nat) (i : Int) : Option Nat := if 0 ≤ i then (if i < n then some i.toNat else none) else if -(n : Int) ≤ i then some (i + n).toNat else none
def atI {α : Type} (xs : List α) (i : Int) : Option α := (ixN xs.length i).bind fun j => xs[j]?
theorem aD1 {n : Nat} {i : Int} {j : Nat} (h : ixN n i = some j) : seqIndex? i n = some j ∧ j < n ∧ -(n : Int) ≤ i ∧ i < n := by
 unfold ixN at h
 by_cases h0 : 0 ≤ i
 · rw [if_pos h0] at h
   by_cases h1 : i < n
   · rw [if_pos h1] at h
     have e : i.toNat = j := Option.some.inj h
     exact ⟨by rw [seqIndex_of h0 h1, e], by omega, by omega, h1⟩
   · rw [if_neg h1] at h; cases h
 · rw [if_neg h0] at h
   by_cases h1 : -(n : Int) ≤ i
   · rw [if_pos h1] at h
     have e : (i + n).toNat = j := Option.some.inj h
     exact ⟨by rw [seqIndex_neg (by omega) h1, e], by omega, h1, by omega⟩
   · rw [if_neg h1] at h; cases h
theorem aE5 {α : Type} {xs : List α} {i : Int} {v : α} (h : atI xs i = some v) : ∃ j, seqIndex? i xs.length = some j ∧ xs[j]? = some v ∧ j < xs.length ∧ -(xs.length : Int) ≤ i ∧ i < xs.length := by
 unfold atI at h
 cases e : ixN xs.length i with
 | none => rw [e] at h; cases h
 | some j =>
   rw [e] at h
   obtain ⟨h1, h2, h3, h4⟩ := aD1 e
   exact ⟨j, h1, h, h2, h3, h4⟩
theorem eZ {α : Type} {xs : List α} {j : Nat} {v : α} (h : xs[j]? = some v) : atI xs (j : Int) = some v := by
 have hj : j < xs.length := (List.getElem?_eq_some_iff.mp h).1
 have e : ixN xs.length (j : Int) = some j := by
   unfold ixN
   rw [if_pos (by omega), if_pos (by omega)]; simp
 unfold atI; rw [e]; exact h
def aU4 (b : Expr) : Prop := ∀ o i, subscripted b false o i = operate [o, i] (getItem o i)
def IxR (X : Cx) (r : R2) : Prop :=
 ∀ (value slice : Expr) (pins : List (Addr × Obj)) (s : Shared) (σ : St) (H : Hp) (x y : V) (v u : Value) (Q : VK), Inv X pins σ H s → bY x v → bY y u → r x y H Q →
   subscripted slice false v u = operate [v, u] (getItem v u) → wpAny (model X.prog X.w) X.A (subscriptTail value slice v u) (EP X pins σ Q) X.xe s
def MtR (X : Cx) (id : String) (r : V → List V → Hp → VK → Prop) : Prop :=
 ∀ (pins : List (Addr × Obj)) (s : Shared) (σ : St) (H : Hp) (x : V) (xs : List V) (v : Value) (us : List Value) (Q : VK), Inv X pins σ H s → bY x v → Vals xs us → r x xs H Q →
   wpAny (model X.prog X.w) X.A (call (.builtin id) (v :: us)) (EP X pins σ Q) X.xe s
section
variable {X : Cx} {a b : Expr} {ta tb : TE} {pos : Pos}
theorem fO {r : R2} (hr : IxR X r) (ha : PE X a ta) (hb : PE X b tb) (hs : aU4 b) : PE X (.Subscript a b pos) (tOp r ta tb) := by
 intro pins s σ H Q I h
 exact Subscript_ (bA3 ha hb I h fun v u s2 x y H2 I2 rx ry q => hr a b pins s2 σ H2 x y v u Q I2 rx ry q (hs _ _))
def bC1 (K : W.Frag) : R2 := fun x y H Q => ∃ p xs i v, x = .ref p ∧ y = .int i ∧ SqL K H p xs ∧ atI xs i = some v ∧ Q v H
def bE6 (K : W.Frag) : R2 := fun x y H Q => ∃ p xs i v, x = .ref p ∧ y = .int i ∧ SqT K H p xs ∧ atI xs i = some v ∧ Q v H
theorem dA : IxR X (bC1 X.K) := by
 intro value slice pins s σ H x y v u Q I rx ry h hs
 obtain ⟨p, xs, i, z, rfl, rfl, hq, he, q⟩ := h
 cases rx
 obtain ⟨t, rfl⟩ := ry
 obtain ⟨its, r, pl, hz⟩ := I.list hq
 obtain ⟨j, h1, h2, h3, h4, h5⟩ := aE5 he
 obtain ⟨w, ew, rw'⟩ := r.get h2
 have hl := r.length
 have hn := wR
 have fin : EP X pins σ Q w s := ⟨z, H, I, rw', q⟩
 by_cases h0 : 0 ≤ i
 · have hj : i.toNat = j := by
     rw [seqIndex_of h0 h5] at h1
     exact Option.some.inj h1
   exact item_listR pl.isList h0 (by omega) (by rw [hj]; simpa using ew) fin hs
 · have hj : (i + (its.toArray.size : Int)).toNat = j := by
     rw [seqIndex_neg (by omega) h4] at h1
     rw [List.size_toArray, ← hl]
     exact Option.some.inj h1
   exact subscriptTail_builtinR (x := w) pl.isList.typeIs slot_list_getitem.lookup
     (wpAny_getItem_list_neg (Q := fun r s' => r = w ∧ EP X pins σ Q r s') pl.isList (by omega) (by rw [List.size_toArray] <;> omega) (by omega) (by rw [hj]; simpa using ew) ⟨rfl, fin⟩) hs
theorem wV : IxR X (bE6 X.K) := by
 intro value slice pins s σ H x y v u Q I rx ry h hs
 obtain ⟨p, xs, i, z, rfl, rfl, hq, he, q⟩ := h
 cases rx
 obtain ⟨t, rfl⟩ := ry
 obtain ⟨its, r, pl, hz⟩ := I.tuple hq
 obtain ⟨j, h1, h2, h3, h4, h5⟩ := aE5 he
 obtain ⟨w, ew, rw'⟩ := r.get h2
 have hl := r.length
 have hn := wR
 have fin : EP X pins σ Q w s := ⟨z, H, I, rw', q⟩
 exact subscriptTail_builtinR (x := w) pl.typeIs slot_tuple_getitem.lookup
   (getItem_tuple (j := j) (Q := fun r s' => r = w ∧ EP X pins σ Q r s') pl (by omega) (by omega) (by rw [List.size_toArray, ← hl]; exact h1) (by simpa using ew) ⟨rfl, fin⟩) hs
theorem aA2 (its : List Value) (n j : Nat) (u : Value) : Obj.mapSeq (·.setIfInBounds j u) { cls := .type "list", data := .seq its.toArray n } = { cls := .type "list", data := .seq (its.set j u).toArray n } := by
 simp [Obj.mapSeq]
theorem Inv.lst {pins : List (Addr × Obj)} {σ : St} {H : Hp} {s : Shared} {p : Addr} {xs : List V} (I : Inv X pins σ H s) (h : H p = some (.lst xs)) :
   ∃ (its : List Value) (n : Nat), Vals xs its ∧ s.heap.get? p = some { cls := .type "list", data := .seq its.toArray n } ∧ xs.length ≤ sizeLine := by
 obtain ⟨z, its, n, r, e⟩ := I.hok p _ h
 exact ⟨its, n, r, e, z⟩
theorem Inv.lstUpd {pins : List (Addr × Obj)} {σ : St} {H : Hp} {s : Shared} {p : Addr} {xs ys : List V} {its its' : List Value} {n n' : Nat} {f : Obj → Obj} (I : Inv X pins σ H s) (h : H p = some (.lst xs))
   (ho : s.heap.get? p = some { cls := .type "list", data := .seq its.toArray n }) (hf : f { cls := .type "list", data := .seq its.toArray n } = { cls := .type "list", data := .seq its'.toArray n' }) (r : Vals ys its') (hz : ys.length ≤ sizeLine) (t : Nat) :
   Inv X pins σ (upd H p (.lst ys)) { s with heap := s.heap.update p f, toks := t } := by
 have e : (s.heap.update p f).get? p = some { cls := .type "list", data := .seq its'.toArray n' } := by
   rw [Heap.get?_update_self f ho (by rw [hf] <;> rfl), hf]
 refine I.write (x := p) (e := p) (by rw [h]; trivial) (.inl rfl) (fun b u hb q => (Heap.get?_update_other _ _ (Ne.symm hb)).trans q) ⟨_, e⟩ ?_
 exact ⟨hz, its', n', r, e⟩
def bC0 : V → V → V → Hp → (Hp → Prop) → Prop := fun o i v H Q => ∃ p xs k j, o = .ref p ∧ i = .int k ∧ H p = some (.lst xs) ∧ ixN xs.length k = some j ∧ Q (upd H p (.lst (xs.set j v)))
theorem aJ8 : PSet X bC0 := by
 intro pins s σ H o i v ov iv u Q I ro ri rv h
 obtain ⟨p, xs, k, j, rfl, rfl, hp, hj, q⟩ := h
 cases ro
 obtain ⟨t, rfl⟩ := ri
 obtain ⟨its, n, r, ho, hz⟩ := I.lst hp
 obtain ⟨h1, h2, h3, h4⟩ := aD1 hj
 have hl := r.length
 have hn := wR
 have I' : Inv X pins σ (upd H p (.lst (xs.set j v))) { s with heap := s.heap.update p (Obj.mapSeq (·.setIfInBounds j u)) } :=
   I.lstUpd hp ho (aA2 its n j u) (r.set rv j) (by rw [List.length_set]; exact hz) s.toks
 by_cases h0 : 0 ≤ k
 · have hk : k.toNat = j := by
     rw [seqIndex_of h0 h4] at h1
     exact Option.some.inj h1
   exact W.ki_setAt ho h0 (by omega) (by rw [List.size_toArray, ← hl]; exact h4) (by rw [hk]; exact ⟨_, I', q⟩)
 · have hk : (k + (its.toArray.size : Int)).toNat = j := by
     rw [seqIndex_neg (by omega) h3] at h1
     rw [List.size_toArray, ← hl]
     exact Option.some.inj h1
   exact W.ki_setBack ho (by omega) (by rw [List.size_toArray, ← hl]; exact h3) (by omega) (by rw [hk]; exact ⟨_, I', q⟩)
def oU : V → Bool
 | .non => true
 | .bl _ => true
 | .int _ => true
 | .str _ => true
 | _ => false
def eqV : V → V → Bool
 | .non, .non => true
 | .bl a, .bl b => a == b
 | .bl a, .int b => (if a then 1 else 0) == b
 | .int a, .bl b => a == (if b then 1 else 0)
 | .int a, .int b => a == b
 | .str a, .str b => a == b
 | _, _ => false
theorem aZ8 {A : Around} {s : Shared} {y x : V} {u v : Value} (ry : bY y u) (rx : bY x v) (fy : oU y = true) (fx : oU x = true) : SeqAt.EqAt A s u v (eqV y x) := by
 cases y with
 | non =>
   cases ry
   cases x with
   | non => cases rx; exact SeqAt.EqAt.same _
   | bl b => cases rx; exact SeqAt.EqAt.none_bool b
   | int b => obtain ⟨t, rfl⟩ := rx; exact SeqAt.EqAt.none_int b t
   | str b => obtain ⟨t, rfl⟩ := rx; exact SeqAt.EqAt.none_str b t
   | _ => exact absurd (show false = true from fx) Bool.false_ne_true
 | bl a =>
   cases ry
   cases x with
   | non => cases rx; exact SeqAt.EqAt.bool_none a
   | bl b => cases rx; exact SeqAt.EqAt.bool_bool a b
   | int b => obtain ⟨t, rfl⟩ := rx; exact SeqAt.EqAt.bool_int a b t
   | str b => obtain ⟨t, rfl⟩ := rx; exact SeqAt.EqAt.bool_str a b t
   | _ => exact absurd (show false = true from fx) Bool.false_ne_true
 | int a =>
   obtain ⟨t', rfl⟩ := ry
   cases x with
   | non => cases rx; exact SeqAt.EqAt.int_none a t'
   | bl b => cases rx; exact SeqAt.EqAt.int_bool a t' b
   | int b => obtain ⟨t, rfl⟩ := rx; exact SeqAt.EqAt.int_int a t' b t
   | str b => obtain ⟨t, rfl⟩ := rx; exact SeqAt.EqAt.int_str a t' b t
   | _ => exact absurd (show false = true from fx) Bool.false_ne_true
 | str a =>
   obtain ⟨t', rfl⟩ := ry
   cases x with
   | non => cases rx; exact SeqAt.EqAt.str_none a t'
   | bl b => cases rx; exact SeqAt.EqAt.str_bool a t' b
   | int b => obtain ⟨t, rfl⟩ := rx; exact SeqAt.EqAt.str_int a t' b t
   | str b => obtain ⟨t, rfl⟩ := rx; exact SeqAt.EqAt.str_str a t' b t
   | _ => exact absurd (show false = true from fx) Bool.false_ne_true
 | _ => exact absurd (show false = true from fy) Bool.false_ne_true
def eqU (x : V) (u : Value) : Bool := match u with
 | .none => eqV .non x
 | .bool b => eqV (.bl b) x
 | .int i _ => eqV (.int i) x
 | .str z _ => eqV (.str z) x
 | _ => false
theorem aQ0 {x y : V} {u : Value} (r : bY y u) (f : oU y = true) : eqU x u = eqV y x := by
 cases y with
 | non => cases r; rfl
 | bl b => cases r; rfl
 | int i => obtain ⟨t, rfl⟩ := r; rfl
 | str z => obtain ⟨t, rfl⟩ := r; rfl
 | _ => exact absurd (show false = true from f) Bool.false_ne_true
theorem xK {x : V} : ∀ {xs : List V} {us : List Value}, Vals xs us → xs.all oU = true → us.any (eqU x) = xs.any fun y => eqV y x
 | _, _, .nil, _ => rfl
 | y :: xs, u :: us, .cons r t, f => by
   rw [List.all_cons, Bool.and_eq_true] at f
   rw [List.any_cons, List.any_cons, aQ0 r f.1, xK t f.2]
theorem sK {A : Around} {s : Shared} {x : V} {v : Value} (rx : bY x v) (fx : oU x = true) : ∀ {xs : List V} {us : List Value}, Vals xs us → xs.all oU = true → ∀ u ∈ us, SeqAt.EqAt A s u v (eqU x u)
 | _, _, .nil, _ => fun u hu => by cases hu
 | y :: xs, u :: us, .cons r t, f => fun u' hu => by
   rw [List.all_cons, Bool.and_eq_true] at f
   rcases List.mem_cons.mp hu with rfl | hu
   · rw [aQ0 r f.1]; exact aZ8 r rx f.1 fx
   · exact sK rx fx t f.2 u' hu
def inV (x : V) (xs : List V) : Bool := xs.any fun y => eqV y x
def rIn (K : W.Frag) (neg : Bool) : R2 := fun x y H Q => ∃ p xs, y = .ref p ∧ (SqL K H p xs ∨ SqT K H p xs) ∧ oU x = true ∧ xs.all oU = true ∧ Q (.bl (if neg then !inV x xs else inV x xs)) H
theorem aF6 : OpR X (compareOp .In) (rIn X.K false) := by
 intro pins s σ H x y v u Q I rx ry h
 obtain ⟨p, xs, rfl, hq, fx, fs, q⟩ := h
 cases ry
 rcases hq with hq | hq
 · obtain ⟨its, r, pl, hz⟩ := I.list hq
   refine SeqAt.in_listAt (eqU x) pl.isList (fun w hw => sK rx fx r fs w (by simpa using hw)) ⟨.bl _, H, I, rfl, ?_⟩
   rw [show its.toArray.any (eqU x) = its.any (eqU x) by simp, xK r fs]
   exact q
 · obtain ⟨its, r, pl, hz⟩ := I.tuple hq
   refine SeqAt.in_tupleAt (eqU x) pl (fun w hw => sK rx fx r fs w (by simpa using hw)) ⟨.bl _, H, I, rfl, ?_⟩
   rw [show its.toArray.any (eqU x) = its.any (eqU x) by simp, xK r fs]
   exact q
theorem bC : kX X (.builtin "len") (fun xs H Q => ∃ p ys, xs = [.ref p] ∧ (SqL X.K H p ys ∨ SqT X.K H p ys) ∧ Q (.int ys.length) H) := by
 intro pins s σ H xs us Q I r h
 obtain ⟨p, ys, rfl, hq, q⟩ := h
 obtain ⟨u, rfl, rx⟩ := qY r
 cases rx
 have hn := wR
 rcases hq with hq | hq
 · obtain ⟨its, r', pl, hz⟩ := I.list hq
   have hlen := r'.length
   exact Calls.call_len_list pl.isList (by simp only [List.size_toArray] <;> omega) ⟨.int ys.length, H, I.tok _, ⟨s.toks + 1, by rw [List.size_toArray, hlen]⟩, q⟩
 · obtain ⟨its, r', pl, hz⟩ := I.tuple hq
   have hlen := r'.length
   exact len_tuple pl (by simp only [List.size_toArray] <;> omega) ⟨.int ys.length, H, I.tok _, ⟨s.toks + 1, by rw [List.size_toArray, hlen]⟩, q⟩
theorem cF : kX X (.type "list") (fun xs H Q => ∃ p ys, xs = [.ref p] ∧ (SqL X.K H p ys ∨ SqT X.K H p ys) ∧ ∀ l, H l = none → Q (.ref l) (upd H l (.lst ys))) := by
 intro pins s σ H xs us Q I r h
 obtain ⟨p, ys, rfl, hq, q⟩ := h
 obtain ⟨u, rfl, rx⟩ := qY r
 cases rx
 have fin : ∀ (its : List Value), Vals ys its → ys.length ≤ sizeLine → ∀ (h' : Heap) (c' : Nat), (∀ b o', s.heap.get? b = some o' → h'.get? b = some o') →
     h'.get? s.heap.objs.size = some { cls := .type "list", dict := none, data := .seq its.toArray c', slots := #[] } → EP X pins σ Q (.ref s.heap.objs.size) { s with heap := h' } := fun its r' hz h' c' kp e =>
   ⟨.ref s.heap.objs.size, _, I.laid (t' := s.toks) kp (Nat.le_refl _) (show bN X.prog X.w _ h' _ (.lst ys) from ⟨hz, its, c', r', e⟩), rfl, q _ (I.hok.fresh (Nat.le_refl _))⟩
 rcases hq with hq | hq
 · obtain ⟨its, r', pl, hz⟩ := I.list hq
   have hlen := r'.length
   obtain ⟨o, ho, hc, n, hd⟩ := pl.isList
   exact call_list_seq p (.inl rfl) ho hc hd (fun h' c' kp e => fin its r' hz h' c' kp e) (by simp only [List.size_toArray] <;> omega)
 · obtain ⟨its, r', pl, hz⟩ := I.tuple hq
   have hlen := r'.length
   obtain ⟨o, ho, hc, n, hd⟩ := pl
   exact call_list_seq p (.inr rfl) ho hc hd (fun h' c' kp e => fin its r' hz h' c' kp e) (by simp only [List.size_toArray] <;> omega)
theorem aY : kX X (.type "tuple") (fun xs H Q => ∃ p ys, xs = [.ref p] ∧ ((SqL X.K H p ys ∧ ∀ l, H l = none → Q (.ref l) (upd H l (.tup ys))) ∨ (SqT X.K H p ys ∧ Q (.ref p) H))) := by
 intro pins s σ H xs us Q I r h
 obtain ⟨p, ys, rfl, h⟩ := h
 obtain ⟨u, rfl, rx⟩ := qY r
 cases rx
 rcases h with ⟨hq, q⟩ | ⟨hq, q⟩
 · obtain ⟨its, r', pl, hz⟩ := I.list hq
   have hlen := r'.length
   refine call_tuple_list pl.isList (fun h' kp => ?_) (by simp only [List.size_toArray] <;> omega)
   have I1 : Inv X pins σ H { s with heap := h' } := I.kept (t' := s.toks) kp
   have I2 : Inv X pins σ (upd H h'.objs.size (.tup ys)) { s with heap := h'.push { cls := .type "tuple", data := .seq its.toArray } } :=
     I1.laid (t' := s.toks) (fun b o e => Heap.get?_push_of_some _ e) (Nat.le_refl _) (show bN X.prog X.w _ _ _ (.tup ys) from ⟨hz, its, r', IsTup.new _ _⟩)
   exact ⟨.ref h'.objs.size, _, I2, rfl, q _ (I1.hok.fresh (Nat.le_refl _))⟩
 · obtain ⟨its, r', pl, hz⟩ := I.tuple hq
   exact call_tuple_same pl ⟨.ref p, H, I, rfl, q⟩
def tyV (K : W.Frag) (T : String) (x : V) (H : Hp) : Prop := match x with
 | .str _ => T = "str"
 | .int _ => T = "int"
 | .ref p => (T = "list" ∧ ∃ xs, SqL K H p xs) ∨ (T = "tuple" ∧ ∃ o, K.lookup p = some o ∧ o.cls = .type "tuple" ∧ o.dict = none) ∨
     (T = "dict" ∧ ((∃ kvs, H p = some (.dK kvs)) ∨ ∃ kvs, H p = some (.dT kvs))) ∨ (T = "set" ∧ ∃ S n, H p = some (.set S n))
 | _ => False
theorem aW2 {pins : List (Addr × Obj)} {σ : St} {H : Hp} {s : Shared} {T : String} {x : V} {v : Value} (I : Inv X pins σ H s) (r : bY x v) (ty : tyV X.K T x H) :
   s.TypeIs v T ∧ ∀ a, v = .ref a → ∃ ob, s.heap.get? a = some ob ∧ ob.dict = none := by
 cases x with
 | str z =>
   obtain ⟨t, rfl⟩ := r
   cases (show T = "str" from ty)
   exact ⟨typeIs_str s z t, fun _ e => nomatch e⟩
 | int i =>
   obtain ⟨t, rfl⟩ := r
   cases (show T = "int" from ty)
   exact ⟨typeIs_int s i t, fun _ e => nomatch e⟩
 | ref p =>
   cases r
   rcases ty with ⟨rfl, xs, hq⟩ | ⟨rfl, o, hk, hc, hd⟩ | ⟨rfl, hk⟩ | ⟨rfl, S, n, hk⟩
   · obtain ⟨its, _, pl, _⟩ := I.list hq
     refine ⟨pl.isList.typeIs, fun a e => ?_⟩
     cases e
     obtain ⟨o, n, e, c, hd, _⟩ := pl
     exact ⟨o, e, hd⟩
   · refine ⟨⟨o, I.kIn p o hk, hc⟩, fun a e => ?_⟩
     cases e
     exact ⟨o, I.kIn _ o hk, hd⟩
   · have z : ∃ o, s.heap.get? p = some o ∧ o.ExactDict := by
       rcases hk with ⟨kvs, hk⟩ | ⟨kvs, hk⟩
       · obtain ⟨_, _, _, _, o, _, _, e, ex, _⟩ := I.hok p _ hk
         exact ⟨o, e, ex⟩
       · obtain ⟨_, _, _, _, o, _, _, e, ex, _⟩ := I.hok p _ hk
         exact ⟨o, e, ex⟩
     obtain ⟨o, e, ex⟩ := z
     refine ⟨⟨o, e, ex.1⟩, fun a e2 => ?_⟩
     cases e2
     exact ⟨o, e, ex.2.1⟩
   · obtain ⟨o, _, _, _, e, ex, _⟩ := I.hok p _ hk
     refine ⟨⟨o, e, ex.1⟩, fun a e2 => ?_⟩
     cases e2
     exact ⟨o, e, ex.2.1⟩
 | _ => exact False.elim ty
def tBM (K : W.Frag) (T : String) (r : V → List V → Hp → VK → Prop) (to : TE) (t : TA) : TE := fun σ H Q => to σ H fun x H1 => tyV K T x H1 ∧ t σ H1 fun xs H2 => r x xs H2 Q
variable {o e : Expr} {es : List Expr} {to : TE} {t : TA} {name : Str} {apos cpos : Pos} {T id : String} {r : V → List V → Hp → VK → Prop}
theorem aL8 (pa : PlainAttrs T) (slot : Slot T name id) (hty : typeOf (.builtin id) = pure (.type "method_descriptor")) (hm : MtR X id r) (ho : PE X o to) (ha : PA X (e :: es) t)
   (hbase : attributeBase o name X.env (eval o X.env) = eval o X.env := by rfl)
   (hfew : ((backTo cpos (starEach (e :: es) X.env)).all (fun x => !x.1) && (backToKw cpos (keywordEach [] X.env)).all (fun x => x.1.isSome)
     && decide ((e :: es).length + ([] : List Keyword).length + (if ([] : List Keyword).isEmpty then 0 else 1) < 30)) = true := by rfl)
   (hline : (apos.endLine == cpos.line) = true := by rfl) (hs : starEach (e :: es) X.env = (false, eval e X.env) :: starEach es X.env := by rfl) (hplain : (backTo cpos (starEach es X.env)).any (·.1) = false := by rfl) :
   PE X (.Call (.Attribute o name apos) (e :: es) [] cpos) (tBM X.K T r to t) := by
 intro pins s σ H Q I h
 refine wpAny_Call_method_late hbase hfew hline rfl (thn (ho pins s σ H _ I h) fun v s1 ⟨x, H1, I1, r1, ty, q1⟩ => ?_)
 obtain ⟨h1, h2⟩ := aW2 I1 r1 ty
 refine ⟨T, id, pa, slot, hty, h1, h2, ?_⟩
 have hA := ha cpos pins s1 σ H1 _ I1 q1
 rw [hs] at hA ⊢
 refine Calls.callWith_builtin (by show (false || (backTo cpos (starEach es X.env)).any (·.1)) = false; rw [hplain] <;> rfl) (Calls.evalArgs_plain ?_)
 exact thn hA fun us s2 ⟨vs, H2, I2, r2, q2⟩ => hm pins s2 σ H2 x vs v us Q I2 r1 r2 q2
/- xs.append(e), list.index on a module's tuple .. are MtR facts of 06m -/
end
end L2
namespace L2
open PySem PySem.Spec PyProof.Rows
def MtM (X : Cx) (id : String) (r : V → List V → Hp → VK → Prop) : Prop :=
 ∀ (pins : List (Addr × Obj)) (s : Shared) (σ : St) (H : Hp) (x : V) (xs : List V) (v : Value) (us : List Value) (Q : VK), Inv X pins σ H s → bY x v → Vals xs us → r x xs H Q →
   wpAny (model X.prog X.w) X.A (call (.builtin id) (v :: us)) (EP X pins σ Q) X.xe s
theorem Vals.one : ∀ {x : V} {us : List Value}, Vals [x] us → ∃ u, us = [u] ∧ bY x u
 | _, _, .cons r .nil => ⟨_, rfl, r⟩
section
variable {X : Cx} {pins : List (Addr × Obj)} {σ : St} {H : Hp} {s : Shared} {l b : Addr} {xs ys zs : List V}
theorem Inv.lset {its its' : List Value} {n : Nat} {f : Array Value → Array Value} {t' : Nat} (I : Inv X pins σ H s) (hH : H l = some (.lst xs))
   (e : s.heap.get? l = some { cls := .type "list", data := .seq its.toArray n }) (hf : f its.toArray = its'.toArray) (hv : Vals ys its') (hz : ys.length ≤ sizeLine) :
   Inv X pins σ (upd H l (.lst ys)) { s with heap := s.heap.update l (Obj.mapSeq f), toks := t' } := by
 have q := PySem.IsL.update e f
 rw [hf] at q
 refine I.write (x := l) (e := l) (by rw [hH]; exact trivial) (.inl rfl) (fun b' u hb hu => (Heap.get?_update_other s.heap (Obj.mapSeq f) (Ne.symm hb)).trans hu) ⟨_, q⟩ ?_
 exact ⟨hz, its', _, hv, q⟩
theorem Inv.lnew {its : List Value} {t' : Nat} (I : Inv X pins σ H s) (hv : Vals ys its) (hz : ys.length ≤ sizeLine) :
   Inv X pins σ (upd H s.heap.objs.size (.lst ys)) { s with heap := s.heap.push { cls := .type "list", data := .seq its.toArray }, toks := t' } :=
 I.laid (fun _ _ q => Heap.get?_push_of_some _ q) (Nat.le_refl _) ⟨hz, its, 0, hv, Heap.get?_push_size _ rfl⟩
theorem Inv.fresh (I : Inv X pins σ H s) : H s.heap.objs.size = none := I.hok.fresh (Nat.le_refl _)
theorem Inv.lstM (I : Inv X pins σ H s) (hH : H l = some (.lst xs)) : xs.length ≤ sizeLine ∧ ∃ (its : List Value) (n : Nat), Vals xs its ∧ xs.length = its.length ∧ s.heap.get? l = some { cls := .type "list", data := .seq its.toArray n } := by
 obtain ⟨z, its, n, r, e⟩ := I.hok l _ hH
 exact ⟨z, its, n, r, r.length, e⟩
theorem aN1 {n : Nat} (h : n ≤ sizeLine) : Builtin.List.listTooLong n = false := by
 unfold Builtin.List.listTooLong
 exact decide_eq_false (by omega)
end
section
variable {X : Cx}
def aB6 : V → List V → Hp → VK → Prop := fun x vs H Q => ∃ l xs y, x = .ref l ∧ vs = [y] ∧ H l = some (.lst xs) ∧ xs.length < sizeLine ∧ Q .non (upd H l (.lst (xs ++ [y])))
theorem aG5 : MtM X "list.append" aB6 := by
 intro pins s σ H x vs v us Q I rx rv h
 obtain ⟨l, xs, y, rfl, rfl, hH, hz, q⟩ := h
 cases rx
 obtain ⟨u, rfl, ru⟩ := rv.one
 obtain ⟨z, its, n, r, hl, e⟩ := I.lstM hH
 refine call_meets F.slot_list_append ⟨_, e, rfl⟩ F.entry_list_append (F.args_list_append_2 _ _) (PySem.list_append l its.toArray n u (by rw [List.size_toArray]; omega)) ⟨e, ?_⟩
 refine ⟨.non, _, I.lset (its' := its ++ [u]) hH e (by simp) (r.append (.cons ru .nil)) ?_, rfl, q⟩
 rw [List.length_append, List.length_singleton]
 omega
def aB5 : V → List V → Hp → VK → Prop := fun x vs H Q => ∃ l b xs zs, x = .ref l ∧ vs = [.ref b] ∧ H l = some (.lst xs) ∧ H b = some (.lst zs) ∧ xs.length + zs.length ≤ sizeLine ∧ Q .non (upd H l (.lst (xs ++ zs)))
theorem aG4 : MtM X "list.extend" aB5 := by
 intro pins s σ H x vs v us Q I rx rv h
 obtain ⟨l, b, xs, zs, rfl, rfl, hH, hB, hz, q⟩ := h
 cases rx
 obtain ⟨u, rfl, ru⟩ := rv.one
 cases ru
 obtain ⟨z, its, n, r, hl, e⟩ := I.lstM hH
 obtain ⟨z2, its2, n2, r2, hl2, e2⟩ := I.lstM hB
 have hsz : its.toArray.size + its2.toArray.size ≤ sizeLine := by rw [List.size_toArray, List.size_toArray]; omega
 have hlong : ¬ (!its.toArray.isEmpty && Builtin.List.listTooLong (its.toArray.size + its2.toArray.size)) = true := by
   rw [aN1 hsz, Bool.and_false]
   exact Bool.false_ne_true
 refine call_meets F.slot_list_extend ⟨_, e, rfl⟩ F.entry_list_extend (F.args_list_extend_2 _ _)
   (AutoSeq1.list_extend_list_list_0 l its.toArray n b its2.toArray n2 hlong (by rw [List.size_toArray]; omega) (by omega)) ⟨e, e2, ?_⟩
 refine ⟨.non, _, I.lset (its' := its ++ its2) hH e (by simp) (r.append r2) ?_, rfl, q⟩
 rw [List.length_append]
 omega
def bE8 : R2 := fun x y H Q => ∃ l b xs zs, x = .ref l ∧ y = .ref b ∧ H l = some (.lst xs) ∧ H b = some (.lst zs) ∧ xs.length + zs.length ≤ sizeLine ∧ ∀ p, H p = none → Q (.ref p) (upd H p (.lst (xs ++ zs)))
theorem zN : OpR X (binaryOp .Add) bE8 := by
 intro pins s σ H x y v u Q I rx ry h
 obtain ⟨l, b, xs, zs, rfl, rfl, hH, hB, hz, q⟩ := h
 cases rx
 cases ry
 obtain ⟨z, its, n, r, hl, e⟩ := I.lstM hH
 obtain ⟨z2, its2, n2, r2, hl2, e2⟩ := I.lstM hB
 refine PySem.P.add_list e e2 ?_ (by rw [List.size_toArray, List.size_toArray]; omega)
 have ea : its.toArray ++ its2.toArray = (its ++ its2).toArray := by simp
 rw [ea]
 exact ⟨.ref _, _, I.lnew (t' := s.toks) (r.append r2) (by rw [List.length_append]; omega), rfl, q _ I.fresh⟩
end
section
variable {prog : Program} {w : World} {A : Around} {E : Value → Shared → Prop} {s : Shared}
end
section
variable {X : Cx}
end
end L2
namespace L2
open PySem PySem.Spec PyProof.Rows
section
variable {κ : Type} [DecidableEq κ]
def nH (kvs : List (κ × V)) (k : κ) : Option V := (kvs.find? fun kv => decide (kv.1 = k)).map (·.2)
def pO (kvs : List (κ × V)) (k : κ) (v : V) : List (κ × V) :=
 if (kvs.any fun kv => decide (kv.1 = k)) = true then kvs.map (fun kv => if kv.1 = k then (kv.1, v) else kv) else kvs ++ [(k, v)]
theorem qZ {p : κ × V} {r : List (κ × V)} {k : κ} (e : p.1 = k) : nH (p :: r) k = some p.2 := by simp [nH, List.find?_cons, e]
theorem rA {p : κ × V} {r : List (κ × V)} {k : κ} (e : ¬ p.1 = k) : nH (p :: r) k = nH r k := by simp [nH, List.find?_cons, e]
theorem nY (k : κ) : ∀ kvs : List (κ × V), (kvs.any fun kv => decide (kv.1 = k)) = (nH kvs k).isSome
 | [] => rfl
 | p :: r => by
   rw [List.any_cons]
   by_cases e : p.1 = k
   · simp only [qZ e, decide_eq_true e, Bool.true_or, Option.isSome_some]
   · rw [rA e, decide_eq_false e, Bool.false_or]; exact nY k r
theorem qF (kvs : List (κ × V)) (k : κ) (v : V) : (pO kvs k v).length ≤ kvs.length + 1 := by
 unfold pO
 split
 · rw [List.length_map]; omega
 · rw [List.length_append, List.length_cons, List.length_nil]; omega
theorem aK9 {kvs : List (κ × V)} {k : κ} (v : V) (h : nH kvs k = none) : pO kvs k v = kvs ++ [(k, v)] := by
 unfold pO
 rw [nY, h]
 exact if_neg (by decide)
theorem oY.isSome_eq {o : Option V} {u : Option Value} (r : oY o u) : o.isSome = u.isSome := by
 cases o with
 | none => cases u with
   | none => rfl
   | some _ => exact (show False from r).elim
 | some _ => cases u with
   | none => exact (show False from r).elim
   | some _ => rfl
theorem KV.val {kvs : List (κ × V)} {vs : List (κ × Value)} (r : KV kvs vs) (k : κ) : oY (nH kvs k) (valueAt vs k) := by
 unfold KV at r
 induction r with
 | nil => exact True.intro
 | @cons p q ps qs h t ih =>
   obtain ⟨h1, h2⟩ := h
   by_cases e : p.1 = k
   · have e' : q.1 = k := h1.symm.trans e
     have b : valueAt (q :: qs) k = some q.2 := by simp [valueAt, List.find?_cons, e']
     rw [qZ e, b]; exact h2
   · have e' : ¬ q.1 = k := fun z => e (h1.trans z)
     have b : valueAt (q :: qs) k = valueAt qs k := by simp [valueAt, List.find?_cons, e']
     rw [rA e, b]; exact ih
theorem KV.any {kvs : List (κ × V)} {vs : List (κ × Value)} (r : KV kvs vs) (k : κ) : (kvs.any fun kv => decide (kv.1 = k)) = vs.any fun kv => decide (kv.1 = k) := by
 unfold KV at r
 induction r with
 | nil => rfl
 | cons h t ih => rw [List.any_cons, List.any_cons, ih, h.1]
theorem KV.repl {kvs : List (κ × V)} {vs : List (κ × Value)} (r : KV kvs vs) (k : κ) {y : V} {u : Value} (ry : bY y u) :
   KV (kvs.map fun kv => if kv.1 = k then (kv.1, y) else kv) (vs.map fun kv => if kv.1 = k then (kv.1, u) else kv) := by
 unfold KV at r ⊢
 induction r with
 | nil => exact .nil
 | @cons p q ps qs h t ih =>
   rw [List.map_cons, List.map_cons]
   refine .cons ?_ ih
   obtain ⟨h1, h2⟩ := h
   by_cases e : p.1 = k
   · rw [if_pos e, if_pos (h1.symm.trans e)]; exact ⟨h1, ry⟩
   · rw [if_neg e, if_neg (fun z => e (h1.trans z))]; exact ⟨h1, h2⟩
theorem KV.put {kvs : List (κ × V)} {vs : List (κ × Value)} (r : KV kvs vs) (k : κ) {y : V} {u : Value} (ry : bY y u) : KV (pO kvs k y) (stored vs k u) := by
 unfold pO stored
 rw [r.any k]
 by_cases e : (vs.any fun kv => decide (kv.1 = k)) = true
 · rw [if_pos e, if_pos e]; exact r.repl k ry
 · rw [if_neg e, if_neg e]; exact Paired.snoc r ⟨rfl, ry⟩
theorem KV.length {kvs : List (κ × V)} {vs : List (κ × Value)} (r : KV kvs vs) : kvs.length = vs.length := Paired.length r
end
theorem aO5 {P : Program} {w : World} {k : Key} {u : Value} (r : bY (kV k) u) : (dM P w).is k u = true := by
 cases k with
 | inl i => obtain ⟨t, e⟩ := (show ∃ t, u = Value.int i t from r); subst e; exact yR P w i t
 | inr x => obtain ⟨t, e⟩ := (show ∃ t, u = Value.str x t from r); subst e; exact yQ P w x t
theorem vJ {P : Program} {w : World} : ∀ {ks : List Key} {us : List Value}, Vals (ks.map kV) us → ItemsAre (dM P w) ks us
 | [], _, r => by rw [List.map_nil] at r; cases r; exact .nil
 | k :: ks, _, r => by
   rw [List.map_cons] at r
   cases r with
   | cons h t => exact .cons (aO5 h) (vJ t)
abbrev KT (H : Hp) : List (List Key × V) → List (List Key × Addr × Value) → Prop := Paired fun p q => p.1 = q.1 ∧ H q.2.1 = some (.tup (p.1.map kV)) ∧ bY p.2 q.2.2
theorem KT.val {H : Hp} {kvs : List (List Key × V)} {xs : List (List Key × Addr × Value)} (r : KT H kvs xs) (k : List Key) : oY (nH kvs k) ((atKey xs k).map (·.2)) := by
 induction r with
 | nil => exact True.intro
 | @cons p q ps qs h t ih =>
   obtain ⟨h1, _, h2⟩ := h
   by_cases e : p.1 = k
   · have e' : q.1 = k := h1.symm.trans e
     have b : atKey (q :: qs) k = some q.2 := by simp [atKey, List.find?_cons, e']
     rw [qZ e, b]; exact h2
   · have e' : ¬ q.1 = k := fun z => e (h1.trans z)
     have b : atKey (q :: qs) k = atKey qs k := by simp [atKey, List.find?_cons, e']
     rw [rA e, b]; exact ih
theorem KT.repl {H : Hp} {kvs : List (List Key × V)} {xs : List (List Key × Addr × Value)} (r : KT H kvs xs) (k : List Key) {y : V} {u : Value} (ry : bY y u) :
   KT H (kvs.map fun kv => if kv.1 = k then (kv.1, y) else kv) (xs.map (putAt k u)) := by
 induction r with
 | nil => exact .nil
 | @cons p q ps qs h t ih =>
   rw [List.map_cons, List.map_cons]
   refine .cons ?_ ih
   obtain ⟨h1, h2, h3⟩ := h
   unfold putAt
   by_cases e : p.1 = k
   · rw [if_pos e, if_pos (h1.symm.trans e)]; exact ⟨h1, h2, ry⟩
   · rw [if_neg e, if_neg (fun z => e (h1.trans z))]; exact ⟨h1, h2, h3⟩
theorem KT.put {H : Hp} {kvs : List (List Key × V)} {xs : List (List Key × Addr × Value)} (r : KT H kvs xs) (k : List Key) {b : Addr} {y : V} {u : Value} (hb : H b = some (.tup (k.map kV))) (ry : bY y u) :
   KT H (pO kvs k y) (storedH xs k b u) := by
 have e : (kvs.any fun kv => decide (kv.1 = k)) = (atKey xs k).isSome := by
   rw [nY, (r.val k).isSome_eq, Option.isSome_map]
 unfold pO storedH
 rw [e]
 by_cases q : (atKey xs k).isSome = true
 · rw [if_pos q, if_pos q]; exact r.repl k ry
 · rw [if_neg q, if_neg q]; exact Paired.snoc r ⟨rfl, hb, ry⟩
theorem KT.keeps {H H' : Hp} {kvs : List (List Key × V)} {xs : List (List Key × Addr × Value)} (r : KT H kvs xs) (ht : ∀ b ys, H b = some (.tup ys) → H' b = some (.tup ys)) : KT H' kvs xs :=
 Paired.mapP r fun _ _ z => ⟨z.1, ht _ _ z.2.1, z.2.2⟩
section
variable {P : Program} {w : World} {H : Hp} {h : Heap} {a : Addr}
theorem aK6 {u : HO} (ok : HOk P w H h) (e : Rd H a u) : bN P w H h a u := e.ok ok
theorem aV8 {kvs : List (Key × V)} (ok : HOk P w H h) (e : Rd H a (.dK kvs)) : kvs.length ≤ sizeLine ∧ (a == sysModules) = false ∧ ∃ vs, KV kvs vs ∧ h.DictOf (dM P w) a vs :=
 show bN P w H h a (.dK kvs) from aK6 ok e
theorem bD2 {kvs : List (Key × V)} (ok : HOk P w H h) (e : H a = some (.dK kvs)) : kvs.length ≤ sizeLine ∧ (a == sysModules) = false ∧ ∃ vs, KV kvs vs ∧ h.DictOf (dM P w) a vs := aV8 ok (.inl e)
theorem wU {ks : List Key} (ok : HOk P w H h) (e : H a = some (.tup (ks.map kV))) : (tupleKind (dM P w)).is h ks a := by
 obtain ⟨_, its, r, o, h1, h2, n, h3⟩ := (show bN P w H h a (.tup (ks.map kV)) from ok a _ e)
 exact ⟨o, its.toArray, n, h1, h2, h3, by simpa using vJ r⟩
theorem aV6 {kvs : List (List Key × V)} (ok : HOk P w H h) (e : Rd H a (.dT kvs)) : kvs.length ≤ sizeLine ∧ (a == sysModules) = false ∧
   ∃ xs, KT H kvs xs ∧ h.DictOfH (tupleKind (dM P w)) a xs := by
 obtain ⟨z, y, xs, r, o, es, ep, h1, h2, h3, h4, h5⟩ := (show bN P w H h a (.dT kvs) from aK6 ok e)
 refine ⟨z, y, xs, r, o, es, ep, h1, h2, h3, h4, fun x hx => ?_, h5⟩
 have all : ∀ {l : List (List Key × V)} {m : List (List Key × Addr × Value)}, KT H l m → ∀ x ∈ m, (tupleKind (dM P w)).is h x.1 x.2.1 := by
   intro l m q
   induction q with
   | nil => intro x hx; exact nomatch hx
   | @cons p q ps qs hq t ih =>
     intro x hx
     rcases List.mem_cons.mp hx with e | hx
     · subst e
       exact wU ok (by rw [← hq.1]; exact hq.2.1)
     · exact ih x hx
 exact all r x hx
theorem aV7 {kvs : List (List Key × V)} (ok : HOk P w H h) (e : H a = some (.dT kvs)) : kvs.length ≤ sizeLine ∧ (a == sysModules) = false ∧
   ∃ xs, KT H kvs xs ∧ h.DictOfH (tupleKind (dM P w)) a xs := aV6 ok (.inl e)
end
def DGet (H : Hp) (a : Addr) (y : V) (r : Option V) : Prop :=
 (∃ kvs k, Rd H a (.dK kvs) ∧ y = kV k ∧ r = nH kvs k) ∨ ∃ kvs k b, Rd H a (.dT kvs) ∧ y = .ref b ∧ H b = some (.tup (k.map kV)) ∧ r = nH kvs k
def DPut (H : Hp) (a : Addr) (y v : V) (H' : Hp) : Prop :=
 (∃ kvs k, H a = some (.dK kvs) ∧ y = kV k ∧ kvs.length < sizeLine ∧ H' = upd H a (.dK (pO kvs k v))) ∨
 ∃ kvs k b, H a = some (.dT kvs) ∧ y = .ref b ∧ H b = some (.tup (k.map kV)) ∧ kvs.length < sizeLine ∧ H' = upd H a (.dT (pO kvs k v))
theorem DGet.t {H : Hp} {a b : Addr} {kvs : List (List Key × V)} {k : List Key} (e : H a = some (.dT kvs)) (eb : H b = some (.tup (k.map kV))) : DGet H a (.ref b) (nH kvs k) := .inr ⟨kvs, k, b, .inl e, rfl, eb, rfl⟩
theorem DPut.t {H : Hp} {a b : Addr} {kvs : List (List Key × V)} {k : List Key} {v : V} (e : H a = some (.dT kvs)) (eb : H b = some (.tup (k.map kV))) (hl : kvs.length < sizeLine) :
   DPut H a (.ref b) v (upd H a (.dT (pO kvs k v))) := .inr ⟨kvs, k, b, e, rfl, eb, hl, rfl⟩
section
variable {X : Cx} {pins : List (Addr × Obj)} {σ : St} {H : Hp} {s : Shared} {a : Addr} {y v : V} {u r : Value} {o : Option V} {A : Around} {E : Value → Shared → Prop}
theorem Inv.big (I : Inv X pins σ H s) : sysModules < s.heap.objs.size := by
 have h : mainGlobals < s.heap.objs.size := (I.mod.glob.keeps I.bk).lt
 exact Nat.lt_trans (by decide) h
theorem aU1 {Q : Value → Shared → Prop} (hu : A.units + 1 < cLine) (I : Inv X pins σ H s) (g : DGet H a y o) (ry : bY y u) (h : ∀ s', Inv X pins σ H s' → Q (.bool (!o.isSome)) s') :
   wpAny (model X.prog X.w) A (compareOp .NotIn u (.ref a)) Q E s := by
 rcases g with ⟨kvs, k, e, ey, l⟩ | ⟨kvs, k, b, e, ey, eb, l⟩
 · subst ey
   obtain ⟨z, hd, vs, rel, dd⟩ := aV8 I.hok e
   refine wpAny_notIn_of (aO5 ry) hd dd.mapOf ?_
   rw [← (rel.val k).isSome_eq, ← l]
   exact h _ (I.tok _)
 · subst ey
   cases (show u = Value.ref b from ry)
   obtain ⟨z, hd, xs, rel, dd⟩ := aV6 I.hok e
   refine wpAny_notIn_heap (tupleKind_room_in1 hu) (wU I.hok eb) hd dd ?_
   have q := (rel.val k).isSome_eq
   rw [Option.isSome_map] at q
   rw [← q, ← l]
   exact h _ (I.tok _)
theorem xE {h' : Heap} {t' : Nat} {ob : HO} (I : Inv X pins σ H s) (mu : Mut (H a)) (hs : Heap.SameBut a s.heap h') (he : ∃ q, h'.get? a = some q) (new : bN X.prog X.w (upd H a ob) h' a ob) :
   Inv X pins σ (upd H a ob) { s with heap := h', toks := t' } :=
 I.write (x := a) (e := a) mu (.inl rfl) (fun b q hb z => (hs.2 b hb).trans z) he new
theorem aZ9 {P : Program} {w : World} {H' : Hp} {h' : Heap} {kvs : List (Key × V)} {vs : List (Key × Value)} (z : kvs.length ≤ sizeLine) (hd : (a == sysModules) = false) (rel : KV kvs vs) (dd : h'.DictOf (dM P w) a vs) :
   bN P w H' h' a (.dK kvs) := ⟨z, hd, vs, rel, dd⟩
theorem aH9 {H' : Hp} {Q : Unit → Shared → Prop} (hu : A.units + 1 < cLine) (I : Inv X pins σ H s) (g : DPut H a y v H') (ry : bY y u) (rv : bY v r) (h : ∀ s', Inv X pins σ H' s' → Q () s') :
   wpAny (model X.prog X.w) A (setItem (.ref a) u r) Q E s := by
 rcases g with ⟨kvs, k, e, ey, l, eH⟩ | ⟨kvs, k, b, e, ey, eb, l, eH⟩
 · subst ey eH
   obtain ⟨z, hd, vs, rel, dd⟩ := bD2 I.hok e
   have hz : vs.length ≤ sizeLine := by rw [← rel.length]; exact z
   have hl : (pO kvs k v).length ≤ sizeLine := by have := qF kvs k v; omega
   refine wpAny_setItem_pairs (hsz := hz) (aO5 ry) dd fun h' dd' hs => h _ ?_
   have he : ∃ q, h'.get? a = some q := let ⟨q, _, _, hq, _⟩ := dd'; ⟨q, hq⟩
   exact xE I (by rw [e]; exact True.intro) hs he (aZ9 hl hd (rel.put k rv) dd')
 · subst ey eH
   cases (show u = Value.ref b from ry)
   obtain ⟨z, hd, xs, rel, dd⟩ := aV7 I.hok e
   have hz : xs.length ≤ sizeLine := by rw [← Paired.length rel]; exact z
   have hl : (pO kvs k v).length ≤ sizeLine := by have := qF kvs k v; omega
   refine wpAny_setItem_heap (hsz := hz) (tupleKind_room_in1 hu) (wU I.hok eb) dd fun h' dd' hs => h _ ?_
   obtain ⟨q, es, ep, hq, h2, h3, h4, _, h5⟩ := dd'
   refine xE I (by rw [e]; exact True.intro) hs ⟨q, hq⟩ ⟨hl, hd, _, (rel.put k eb rv).keeps fun c ys ec => ?_, q, es, ep, hq, h2, h3, h4, h5⟩
   rw [aI (yM ec e (fun z => nomatch z))]
   exact ec
end
section
variable {X : Cx} {pins : List (Addr × Obj)} {σ : St} {H : Hp} {s : Shared} {a : Addr} {kvs : List (Key × V)} {k : Key} {u : Value} {A : Around} {E : Value → Shared → Prop}
end
def aR8 (ty td : TE) : TE := fun σ H Q => ty σ H fun y H1 => td σ H1 fun x H2 => ∃ a o, x = .ref a ∧ DGet H2 a y o ∧ Q (.bl (!o.isSome)) H2
def bB9 (td ty tv : TE) : TS := fun D σ H => tv σ H fun v H1 => td σ H1 fun x H2 => ty σ H2 fun y H3 => ∃ a H4, x = .ref a ∧ DPut H3 a y v H4 ∧ D.nx σ H4
section
variable {X : Cx} {o i e value : Expr} {pos pos' tpos : Pos} {td ty tv : TE}
theorem aF5 (hu : X.A.units + 1 < cLine) (hi : PE X i ty) (ho : PE X o td) : PC X .NotIn i o (aR8 ty td) := by
 intro pins s σ H Q I h
 refine thn (hi pins s σ H _ I h) fun iv s1 ⟨y, H1, I1, ry, q1⟩ => thn (ho pins s1 σ H1 _ I1 q1) fun u s2 ⟨x, H2, I2, rx, a, ov, ex, g, q2⟩ => ?_
 subst ex
 obtain rfl : u = Value.ref a := rx
 exact aU1 hu I2 g ry fun s3 I3 => ⟨.bl (!ov.isSome), H2, I3, rfl, q2⟩
theorem aS3 (hu : X.A.units + 1 < cLine) (ho : PE X o td) (hi : PE X i ty) (hv : PE X value tv) (hs : swapsWith value (some (.Subscript o i pos')) pos.line X.env = pure false) :
   PS X (.Assign [.Subscript o i pos'] value pos) (bB9 td ty tv) := by
 intro pins s σ H D I h
 refine wpAny_Assign_Subscript (thn (hv pins s σ H _ I h) fun r s1 ⟨v, H1, I1, rv, q1⟩ => thn (ho pins s1 σ H1 _ I1 q1) fun u s2 ⟨x, H2, I2, rx, q2⟩ => thn (hi pins s2 σ H2 _ I2 q2) fun iv s3 ⟨y, H3, I3, ry, a, H4, ex, g, q3⟩ => ?_) hs
 subst ex
 obtain rfl : u = Value.ref a := rx
 exact aH9 hu I3 g ry rv fun s4 I4 => ⟨σ, H4, I4, q3⟩
end
theorem aQ3 {P : Program} {w : World} {H : Hp} (h : Heap) (hb : sysModules < h.objs.size) : bN P w H (h.push { cls := .type "dict", data := .dict #[] }) h.objs.size (.dK []) :=
 ⟨Nat.zero_le _, beq_eq_false_iff_ne.mpr (Ne.symm (Nat.ne_of_lt hb)), [], .nil, Heap.DictOf.new h⟩
theorem aQ2 {P : Program} {w : World} {H : Hp} (h : Heap) (hb : sysModules < h.objs.size) : bN P w H (h.push { cls := .type "dict", data := .dict #[] }) h.objs.size (.dT []) :=
 ⟨Nat.zero_le _, beq_eq_false_iff_ne.mpr (Ne.symm (Nat.ne_of_lt hb)), [], .nil, _, #[], 0, Heap.get?_push_size _ rfl, ⟨rfl, rfl, rfl⟩, rfl, rfl, List.nodup_nil⟩
def aW5 : TE := fun _ H Q => ∀ p, H p = none → Q (.ref p) (upd H p (.dK []))
section
variable {X : Cx} {pos : Pos}
theorem aL6 : PE X (.Dict [] [] pos) aW5 := fun pins s σ H Q I h =>
 wpAny_Dict_empty ⟨.ref s.heap.objs.size, _, I.laid (a := s.heap.objs.size) (o := .dK []) (t' := s.toks) (fun _ _ q => Heap.get?_push_of_some _ q) (Nat.le_refl _) (aQ3 s.heap I.big), rfl, h _ (I.hok.fresh (Nat.le_refl _))⟩
end
structure M1 (X : Cx) (o : Expr) (m : Str) (apos : Pos) (e : Expr) (cpos : Pos) : Prop where
 base : attributeBase o m X.env (eval o X.env) = eval o X.env
 few : ((backTo cpos (starEach [e] X.env)).all (fun x => !x.1) && (backToKw cpos (keywordEach [] X.env)).all (fun x => x.1.isSome)
   && decide (([e] : List Expr).length + ([] : List Keyword).length + (if ([] : List Keyword).isEmpty then 0 else 1) < 30)) = true
 line : (apos.endLine == cpos.line) = true
 trees : backTo cpos (starEach [e] X.env) = [(false, eval e X.env)]
structure M2 (X : Cx) (o : Expr) (m : Str) (apos : Pos) (e f : Expr) (cpos : Pos) : Prop where
 base : attributeBase o m X.env (eval o X.env) = eval o X.env
 few : ((backTo cpos (starEach [e, f] X.env)).all (fun x => !x.1) && (backToKw cpos (keywordEach [] X.env)).all (fun x => x.1.isSome)
   && decide (([e, f] : List Expr).length + ([] : List Keyword).length + (if ([] : List Keyword).isEmpty then 0 else 1) < 30)) = true
 line : (apos.endLine == cpos.line) = true
 trees : backTo cpos (starEach [e, f] X.env) = [(false, eval e X.env), (false, eval f X.env)]
section
variable {X : Cx} {pins : List (Addr × Obj)} {σ : St} {H : Hp} {s : Shared} {a : Addr} {y d : V} {u r : Value} {o : Option V} {A : Around} {E : Value → Shared → Prop}
end
section
variable {X : Cx} {o e f : Expr} {apos cpos : Pos} {td ty tx : TE}
end
section
variable {X : Cx} {pins : List (Addr × Obj)} {σ : St} {H : Hp} {s : Shared} {a : Addr} {kvs : List (Key × V)} {A : Around} {E : Value → Shared → Prop}
end
section
variable {X : Cx} {pins : List (Addr × Obj)} {σ : St} {H : Hp} {s : Shared} {a : Addr} {y : V} {u : Value} {A : Around} {E : Value → Shared → Prop}
end
end L2
namespace Att
open PySem PySem.W PySem.Calls PyProof.Rows
theorem qM {P : Params} {h : Heap} : ∀ (ns : List Int) (vs : List Value), WellAll P h vs (ns.map WData.int) → IntsAre vs ns := by
 intro ns
 induction ns with
 | nil =>
   intro vs w
   rw [List.map_nil] at w
   cases w
   exact .nil
 | cons n ns ih =>
   intro vs w
   rw [List.map_cons] at w
   cases w with
   | cons a b =>
     cases a
     exact .cons _ _ (ih _ b)
theorem aF0 {l : OpenLaw} {n : Nat} (hn : l.most = some n) {P : Params} {h : Heap} {args : List WData} {vals : List Value}
   (hpre : l.row.toRowW.claim.pre args = true) (hwl : WellAll P h vals args) :
   ∃ a vs ns, vals = [Value.ref a] ∧ args = [WData.list (ns.map WData.int)] ∧ h.get? a = some { cls := .type "list", data := .seq vs.toArray } ∧ IntsAre vs ns ∧ ns.length ≤ n := by
 have hsh : WShape.hasAll [] args [.list .int] = true := (pre_splitW hpre).1
 have hc : l.pre.holds [] { args := args } = true := (pre_splitW hpre).2
 obtain ⟨d, r, rfl, h1, h2⟩ := hasAllW_cons hsh
 obtain rfl := hasAllW_nil h2
 obtain ⟨xs, rfl, h3⟩ := hasW_list h1
 obtain ⟨ns, rfl⟩ := items_int h3
 have hlen : ns.length ≤ n := by
   unfold OpenLaw.pre at hc
   have h4 : (WTm.not (.lt (.lit (.int (n : Int))) (.len (.arg 0)))).holds [] { args := [.list (ns.map .int)] } = true := by
     have h4 := (holds_andW hc).1
     rw [hn] at h4
     exact h4
   have h5 := condW_of h4 (w_not (w_lt w_lit (w_len_list (w_arg rfl))))
   rw [List.length_map] at h5
   refine Nat.le_of_not_lt fun q => ?_
   have q' : (n : Int) < ((ns.length : Nat) : Int) := by omega
   first
     | (rw [decide_eq_true q'] at h5; exact absurd h5 (by decide))
     | (simp at h5; omega)
 cases hwl with
 | cons w1 w2 =>
   cases w2
   cases w1 with
   | list ho hall => exact ⟨_, _, ns, rfl, rfl, ho, qM ns _ hall, hlen⟩
theorem aF2 (l : OpenLaw) (args : List WData) : l.row.toRowW.claim.post args (.bool true) args = true :=
 postW_of (r := l.row.toRowW) (X := (true == true))
   (show WShape.has [] (.bool true) .bool = true by first | rfl | decide | simp [WShape.has, WShape.arms, WShape.armsAll])
   (show (WTm.eq .res (.lit (.bool true))).value [] { args := args, res := some (.bool true), after := args } = some (.bool (true == true)) from w_eq_bool (w_res rfl) w_lit) rfl
theorem yY {l : OpenLaw} {n : Nat} {q : Program} {loose : List Str} {XP : (Str → Option Value) → Heap → Prop} {YP : World → Heap → Prop} {d : DefRec}
   (hn : l.most = some n) (hdf : d.params.defaults = [])
   (call : ∀ (w : World) (s₀ s₁ : Shared) (mg mb : Str → Option Value) (fa : Addr) (o : Obj) (pm cd doc : Value) (a : Addr) (vs : List Value) (ns : List Int),
     Ground q loose [] XP w s₀ mg mb s₁.heap → YP w s₁.heap →
     s₁.heap.get? fa = some o → o.data = .func (docDef d.name d.params d.body d.scope pm cd doc) → s₁.heap.CodeRec cd d.name → mg d.name = some (.ref fa) →
     s₁.heap.get? a = some { cls := .type "list", data := .seq vs.toArray } → IntsAre vs ns → ns.length ≤ n → s₁.gens = #[] →
     codeAny (model l.prog w) callerA (.call (.ref fa) ⟨[.ref a], []⟩) (fun r s' => r = .ok (.ret (.bool true)) ∧ OldK s₁.heap s'.heap ∧ s'.os = s₁.os ∧ AllBare s'.gens) s₁) :
   WalkO q loose XP YP l.row.toRowW d [] (fun f vs => PySem.call f vs) := by
 intro w s₀ s₁ mg mb G Y fa o pm cd doc dV kV ho hd hcd hD hmg hg args vals as hpre hlay hrd hwl hlo
 obtain rfl : dV = .none := Dflts.none hD hdf
 obtain rfl : kV = .none := Dflts.noKw hD
 obtain ⟨a, vs, ns, rfl, rfl, hobj, hints, hlen⟩ := aF0 hn hpre hwl
 refine enter_call (codeAny_mono (call w s₀ s₁ mg mb fa o pm cd doc a vs ns G Y ho (fd_plain hd) hcd hmg hobj hints hlen hg) fun r s' hq => ?_)
 obtain ⟨rfl, h2, h3, h4⟩ := hq
 exact ⟨.inl ⟨.bool true, .bool true, [], rfl, fun _ => rfl, .bool true, aF2 l _, fun _ => ⟨List.Pairwise.nil, fun _ hm => (nomatch hm)⟩⟩, h2, h3, h4⟩
section
variable {prog : Program} {w : World} {A : Around} {E : Value → Shared → Prop} {s : Shared} {K : Frag}
end
end Att
namespace L2
open PySem PySem.Spec PyProof.Rows
theorem uQ : ∀ {vs : List Value} {ns : List Int}, IntsAre vs ns → Vals (ns.map V.int) vs
 | _, _, .nil => .nil
 | _, _, .cons n t h => .cons ⟨t, rfl⟩ (uQ h)
end L2
namespace L2
open PySem PySem.Spec PyProof.Rows
end L2
/- THE LAST THEOREM (shape; LID, My.* are yours):
  My.Adr: a structure of the addresses that your layer names (classes, functions); My.Txt K t: a structure (Prop) of the equations over K;
  My.txt_mk : {K} {implicit addresses ..} (e1 : nsIn K mainGlobals "law" = some (some (.ref f))) (e2 : K.lookup f = some ⟨oc, od, .func (fnOf "law" "law" params body scope dV kV doc pm an cdv ct), sl⟩) (e3 : codeIn K cdv "law" = true) .. : ∃ t, My.Txt K t
set_option maxHeartbeats 0 in
theorem PySem.Challenge.cw_LID_holds : PySem.Challenge.rw_LID.Holds := by
 w_on; o_law; k_head; (case hw => w_witness2)
 k_fill
 refine L2.walk_of (l := PySem.Challenge.rw_LID) (n := 63) (k := 40) (x := "script") (CX := fun w => ..) (sp := fun _ => My.sp_law) rfl (by decide) rfl ⟨rfl, by decide, by decide⟩ (fun w h Y => W.kIn_of Y) ?F ?S ?C
 case F =>
   intro w mg fa h KX G hmg
   have T : ∃ t, My.Txt (L2.KOf KX) t := by
     dsimp only [L2.KOf]                          -- K must stand as «<heap const> w.params» for k_is
     refine' My.txt_mk ?e1 ?e2 ?e3 ..
     (case e1 => W.k_is)                    -- in the order: a name -> its address -> its object -> its parts
     (case e2 => W.k_is)
     ..
   obtain ⟨t, T⟩ := T
   have e0 := hmg.symm.trans (W.mg_of KX G T.law)
   cases e0                                       -- fa is the law's own address
   exact ⟨_, fun s u => .of_eq rfl, fun base kb nb => My.law_fn T kb nb⟩     -- if «.of_eq rfl» comes too early: refine' ⟨_, ?b, fun base kb nb => My.law_fn T kb nb⟩; exact fun s u => .of_eq rfl
 case S => exact fun w H a ns hl hO hS => ..
 case C => exact ..
(the tactic k_is has no namespace: write k_is) -/
namespace L2
open PySem PySem.Spec PyProof.Rows
def cA (s : Stmt) (j : Nat) : Stmt := match s with
 | .ClassDef _ _ _ body _ _ _ _ _ _ _ => body.getD j (.Pass ⟨0, 0, 0, 0⟩)
 | _ => .Pass ⟨0, 0, 0, 0⟩
def aO (s : Stmt) : Arguments := match s with
 | .FunctionDef _ a _ _ _ _ _ _ _ _ => a
 | _ => { posonlyargs := [], args := [], vararg := none, kwonlyargs := [], kw_defaults := [], kwarg := none, defaults := [] }
def aK (s : Stmt) : List Stmt := match s with
 | .FunctionDef _ _ b _ _ _ _ _ _ _ => b
 | _ => []
def aF (s : Stmt) : Scope := match s with
 | .FunctionDef _ _ _ _ _ _ sc _ _ _ => sc
 | _ => { kind := .function, names := [], isGenerator := false, isCoroutine := false }
abbrev CX0 : CXT := fun _ _ _ _ _ _ => False
abbrev E0 : XK := fun _ _ _ => False
theorem vA {X : Cx} : Passes CX0 X E0 := fun _ _ _ _ _ _ _ h => h.elim
structure Fun (K : W.Frag) (x qual : Str) (st : Stmt) (f : Addr) (fd : FuncData) : Prop where
 ex : ∃ (oc : Value) (od : Option Addr) (kV doc pm : Value) (an : Option Addr) (cdv ct : Value) (osl : Array (Option Value)),
   fd = W.fnOf x qual (aO st) (aK st) (aF st) .none kV doc pm an cdv ct ∧ K.lookup f = some ⟨oc, od, .func fd, osl⟩ ∧ W.codeIn K cdv qual = true
 kp : W.keepIn K (.ref f) = true
section
variable {P : Program} {w : World} {K : W.Frag} {mg : Str → Option Value} {base : Heap}
theorem Fun.ok {x qual : Str} {st : Stmt} {f : Addr} {fd : FuncData} {N ps : List Str} {k : Nat} {sp : Sp} (F : Fun K x qual st f fd) (S : FnScope N ps (aF st)) (len : ∀ vs H Q E, sp vs H Q E → vs.length = ps.length)
   (hbody : ∀ (cdv : Value) (A : Around) (outer : List Env) (s : Shared) (H : Hp) (vs : List V) (Q : VK) (E : XK), Room k (A.deeper (envOfC qual (aF st) s.heap.objs.size f cdv)) → sp vs H Q E →
     ∃ t, PSs (oV CX0 P w K mg base N qual (aF st) f cdv A outer s H E).nox (aK st) t ∧ t { nx := fun _ H' => Q .non H', rt := Q } (start N vs) H) : FnOk P w K mg base CX0 (k + 1) f fd ps sp := by
 obtain ⟨oc, od, kV, doc, pm, an, cdv, ct, osl, rfl, lk, hcd⟩ := F.ex
 refine aP8 lk hcd S len fun A outer s H vs Q E hr hsp => ?_
 obtain ⟨t, h, q⟩ := hbody cdv A outer s H vs Q E hr hsp
 exact ⟨t, h.nox, q⟩
theorem Fun.binds {x qual : Str} {st : Stmt} {f : Addr} {fd : FuncData} {ps : List Str} (F : Fun K x qual st f fd)
   (h : ∀ (kV doc pm : Value) (an : Option Addr) (cdv ct : Value) (us : List Value), us.length = ps.length → bindArgs (W.fnOf x qual (aO st) (aK st) (aF st) .none kV doc pm an cdv ct) ⟨us, []⟩ = pure (ps.zip us)) : Binds K fd ps [] := by
 obtain ⟨oc, od, kV, doc, pm, an, cdv, ct, osl, rfl, lk, hcd⟩ := F.ex
 exact .all (h kV doc pm an cdv ct)
theorem aZ {x qual : Str} {st : Stmt} {f : Addr} {oc : Value} {od an : Option Addr} {osl : Array (Option Value)} {kV doc pm cdv ct : Value} (l : K.lookup f = some ⟨oc, od, .func (W.fnOf x qual (aO st) (aK st) (aF st) .none kV doc pm an cdv ct), osl⟩)
   (c : W.codeIn K cdv qual = true) (k : W.keepIn K (.ref f) = true) : Fun K x qual st f (W.fnOf x qual (aO st) (aK st) (aF st) .none kV doc pm an cdv ct) := ⟨⟨oc, od, kV, doc, pm, an, cdv, ct, osl, rfl, l, c⟩, k⟩
end
theorem gZ {n : Nat} (h : n ≤ 1000) : n < sizeLine := Nat.lt_of_le_of_lt h (by decide)
section
variable {X : Cx}
theorem pv (i : Nat) {x : Str} {pos : Pos} (hN : X.N[i]? = some x := by rfl) (hv : Vis X.env.scope x := by first | exact Or.inl rfl | exact Or.inr (Or.inl rfl) | exact Or.inr (Or.inr rfl)) (hd : (x == ("__debug__" : Str)) = false := by decide)
   (hcd : (x == ("__classdict__" : Str)) = false := by decide) : PE X (.Name x pos) (bB1 i) := aL3 hN hv hd hcd
end
theorem cB {A B : Prop} (h : B) : if false = true then A else B := by
 rw [if_neg Bool.false_ne_true]
 exact h
theorem dR {A B : Prop} (h : A) : if true = true then A else B := by
 rw [if_pos rfl]
 exact h
theorem bF4 {c A B : Prop} [Decidable c] (h1 : c → A) (h2 : ¬ c → B) : if c then A else B := by
 by_cases h : c
 · rw [if_pos h]
   exact h1 h
 · rw [if_neg h]
   exact h2 h
theorem aD2 {c A B : Prop} [Decidable c] (hc : c) (h : B) : if (!decide c) = true then A else B := by
 rw [decide_eq_true hc]
 exact cB h
def Same (H H' : Hp) : Prop := ∀ b o, H b = some o → H' b = some o
theorem Same.refl (H : Hp) : Same H H := fun _ _ h => h
theorem Same.trans {H H1 H2 : Hp} (a : Same H H1) (b : Same H1 H2) : Same H H2 := fun c o h => b c o (a c o h)
theorem Same.free {H H' : Hp} (e : Same H H') {l : Addr} (h : H' l = Option.none) : H l = Option.none := by
 cases q : H l with
 | none => rfl
 | some o =>
   rw [e l o q] at h
   cases h
section
variable {κ : Type} [DecidableEq κ]
end
end L2
set_option maxHeartbeats 4000000
namespace L2
open PySem PySem.Spec PyProof.Rows
def cxC (X : Cx) (scope : Scope) (cl : List (Str × Addr)) (C : Addr) (N' : List Str) (s : Shared) (H : Hp) (fp : List Addr) (E : Value → Shared → Prop) : Cx where
 prog := X.prog
 w := X.w
 K := X.K
 mg := X.mg
 base := X.base
 A := X.A
 N := N'
 s₀ := s
 H₀ := H
 env := compEnvC scope cl C X.env
 outer := X.stack
 stack := X.stack
 ex := fp
 fn := fun _ => false
 calm := X.calm
 pn := []
 xe := E
theorem mF {env : Env} (f : Str × NameKind → List (Str × Addr) → Sem (ForInStep (List (Str × Addr)))) (hf : ∀ n k cs, f (n, k) cs = if (k == NameKind.free) = true then (cellOf env n >>= fun a => pure (ForInStep.yield ((n, a) :: cs))) else pure (ForInStep.yield cs)) :
   ∀ (l : List (Str × NameKind)) (cs : List (Str × Addr)), (∀ n, (n, NameKind.free) ∈ l → ∃ c, env.cells.lookup n = some c) → (∀ n c, cs.lookup n = some c → env.cells.lookup n = some c) →
     ∃ cl, forIn l cs f = (pure cl : Sem _) ∧ (∀ n c, cl.lookup n = some c → env.cells.lookup n = some c) ∧ (∀ n, (n, NameKind.free) ∈ l → ∃ c, cl.lookup n = some c) ∧ (∀ n c, cs.lookup n = some c → ∃ c', cl.lookup n = some c')
 | [], cs, _, hc => ⟨cs, rfl, hc, fun n hn => absurd hn (by simp), fun n c e => ⟨c, e⟩⟩
 | (n, k) :: l, cs, h, hc => by
   have hl : ∀ m, (m, NameKind.free) ∈ l → ∃ c, env.cells.lookup m = some c := fun m hm => h m (List.mem_cons_of_mem _ hm)
   by_cases hk : k = .free
   · subst hk
     obtain ⟨c, ec⟩ := h n List.mem_cons_self
     have hc' : ∀ m d, ((n, c) :: cs).lookup m = some d → env.cells.lookup m = some d := fun m d e => by
       rw [List.lookup_cons] at e
       by_cases q : m == n
       · rw [q] at e
         have := beq_iff_eq.mp q
         subst this
         rw [ec]; exact e
       · rw [Bool.eq_false_iff.mpr q] at e
         exact hc m d e
     obtain ⟨cl, e1, e2, e3, e4⟩ := mF f hf l ((n, c) :: cs) hl hc'
     refine ⟨cl, ?_, e2, fun m hm => ?_, fun m d e => ?_⟩
     · rw [List.forIn_cons, hf, if_pos (show (NameKind.free == NameKind.free) = true from rfl)]
       have : cellOf env n = pure c := by unfold cellOf; rw [ec]
       rw [this]
       exact e1
     · rcases List.mem_cons.mp hm with z | z
       · cases z
         exact e4 n c (by rw [List.lookup_cons]; simp)
       · exact e3 m z
     · by_cases q : m = n
       · subst q; exact e4 m c (by rw [List.lookup_cons]; simp)
       · exact e4 m d (by rw [List.lookup_cons, beq_eq_false_iff_ne.mpr q]; exact e)
   · obtain ⟨cl, e1, e2, e3, e4⟩ := mF f hf l cs hl hc
     refine ⟨cl, ?_, e2, fun m hm => ?_, e4⟩
     · rw [List.forIn_cons, hf, if_neg (by simpa using hk)]
       exact e1
     · rcases List.mem_cons.mp hm with z | z
       · cases z; exact absurd rfl hk
       · exact e3 m z
theorem aB1 {env : Env} {scope : Scope} (h : ∀ n, (n, NameKind.free) ∈ scope.names → ∃ c, env.cells.lookup n = some c) :
   ∃ cl, closureFor scope env = pure cl ∧ (∀ n c, cl.lookup n = some c → env.cells.lookup n = some c) ∧ (∀ n, (n, NameKind.free) ∈ scope.names → ∃ c, cl.lookup n = some c) := by
 obtain ⟨cl, e1, e2, e3, _⟩ := mF (env := env) (fun x __s => match x with
   | (name, kind) => if (kind == NameKind.free) = true then (do let a ← cellOf env name; pure (ForInStep.yield ((name, a) :: __s))) else pure (ForInStep.yield __s)) (fun n k cs => rfl) scope.names [] h (fun n c e => nomatch e)
 refine ⟨cl, ?_, e2, e3⟩
 unfold closureFor
 dsimp only
 rw [e1]
 all_goals rfl
def PIf (X : Cx) (ifs : List Expr) (t : TT) : Prop :=
 ∀ (pins : List (Addr × Obj)) (s : Shared) (σ : St) (H : Hp) (Q : Bool → Hp → Prop), Inv X pins σ H s → t σ H Q →
   wpAny (model X.prog X.w) X.A (forIn ifs true fun c r => if r = true then do let ok ← isTrue c X.env (eval c X.env); pure (ForInStep.yield ok) else pure (ForInStep.yield r)) (TP X pins σ Q) X.xe s
def bB0 : TT := fun _ H Q => Q true H
theorem vR {σ : St} {H : Hp} {A B : Hp → Prop} (h : A H) : bB0 σ H fun b H3 => if b = true then A H3 else B H3 := by
 show if true = true then A H else B H
 rw [if_pos rfl]
 exact h
theorem qS {X : Cx} : PIf X [] bB0 := fun _ _ _ H _ I h => wpAny_tests_nil ⟨H, I, h⟩
theorem xH {prog : Program} {w : World} {A : Around} {R : Result → Shared → Prop} {s : Shared} {elt target iter : Expr} {ifs : List Expr} {scope : Scope} {pos : Pos} {it acc : Value} {env : Env} (I : Nat → Shared → Prop)
   (turn : ∀ n s, I n s → wpAny (model prog w) A (pyNext it) (fun r s₁ => match r with
     | none => R (.ok .next) s₁
     | some v => wpAny (model prog w) A (letOwnedTupleGo target it v) (fun _ s₁' => wpAny (model prog w) A (assign target env v) (fun _ s₂ =>
         wpAny (model prog w) A (forIn ifs true fun c r => if r = true then do let ok ← isTrue c env (eval c env); pure (ForInStep.yield ok) else pure (ForInStep.yield r)) (fun ok s₃ =>
           if ok = true then wpAny (model prog w) A (eval elt env) (fun x s₄ =>
             wpAny (model prog w) A (call (.builtin "list.append") [acc, x]) (fun _ s₅ => ∃ m, m < n ∧ I m s₅) (notedBy (model prog w) A env fun e s' => R (.error e) s') s₄) (notedBy (model prog w) A env fun e s' => R (.error e) s') s₃
           else ∃ m, m < n ∧ I m s₃) (notedBy (model prog w) A env fun e s' => R (.error e) s') s₂) (notedBy (model prog w) A env fun e s' => R (.error e) s') s₁') (notedBy (model prog w) A env fun e s' => R (.error e) s') s₁) (notedBy (model prog w) A env fun e s' => R (.error e) s') s)
   (n : Nat) (h : I n s) :
   codeAny (model prog w) A (.compLoop (.ListComp elt [⟨target, iter, ifs, 0⟩] scope pos) 0 it acc env) R s := by
 refine codeAny_loop rfl I (fun n s hI => ?_) n h
 show wpAny _ A ((compTurn (.ListComp elt [⟨target, iter, ifs, 0⟩] scope pos) 0 it acc env).onRaise (fun x => do noteFrame x env; theTreesLotGoes x)) _ _ s
 refine wpAny_noted ?_
 rw [compTurn_list]
 refine wpAny_bind (wpAny_standAt (wpAny_bind (wpAny_mono (turn n s hI) (fun r s₁ h₁ => ?_) fun _ _ h' => h')))
 cases r with
 | none => exact wpAny_pure h₁
 | some v =>
   refine wpAny_bind (wpAny_mono h₁ (fun _ s₁' h₁' => ?_) fun _ _ h' => h')
   refine wpAny_bind (wpAny_mono h₁' (fun _ s₂ h₂ => wpAny_bind (wpAny_mono h₂ (fun ok s₃ h₃ => ?_) fun _ _ h' => h')) fun _ _ h' => h')
   cases ok with
   | false => exact wpAny_pure ⟨rfl, h₃⟩
   | true =>
     exact wpAny_bind (wpAny_bind (wpAny_mono h₃ (fun x s₄ h₄ => wpAny_bind (wpAny_mono h₄ (fun _ s₅ h₅ => wpAny_pure (wpAny_pure ⟨rfl, h₅⟩)) fun _ _ h' => h')) fun _ _ h' => h'))
theorem jD {env : Env} : ∀ {names : List (Str × NameKind)} {x : Str}, names.lookup x = some .free →
   (names.map fun (n, k) => if (k == NameKind.free && env.scope.kind == .function && env.kindOf n == some .cell) then (n, NameKind.cell) else (n, k)).lookup x = some .cell ∨
   (names.map fun (n, k) => if (k == NameKind.free && env.scope.kind == .function && env.kindOf n == some .cell) then (n, NameKind.cell) else (n, k)).lookup x = some .free
 | [], _, h => by simp at h
 | (n, k) :: r, x, h => by
   have ih := @jD env r x
   show List.lookup x ((if (k == NameKind.free && env.scope.kind == .function && env.kindOf n == some .cell) = true then (n, NameKind.cell) else (n, k)) :: _) = _ ∨ List.lookup x ((if (k == NameKind.free && env.scope.kind == .function && env.kindOf n == some .cell) = true then (n, NameKind.cell) else (n, k)) :: _) = _
   cases hx : x == n with
   | true =>
     simp only [List.lookup_cons, hx] at h
     cases h
     split <;> simp [List.lookup_cons, hx]
   | false =>
     simp only [List.lookup_cons, hx] at h
     by_cases hc : (k == NameKind.free && env.scope.kind == .function && env.kindOf n == some .cell) = true
     · rw [if_pos hc]; simp only [List.lookup_cons, hx]; exact ih h
     · rw [if_neg hc]; simp only [List.lookup_cons, hx]; exact ih h
theorem rR {env : Env} : ∀ {names : List (Str × NameKind)} {x : Str}, (∀ y ∈ names, y.2 ≠ .cell) →
   ((names.map fun (n, k) => if (k == NameKind.free && env.scope.kind == .function && env.kindOf n == some .cell) then (n, NameKind.cell) else (n, k)).lookup x = some .cell ∨
   (names.map fun (n, k) => if (k == NameKind.free && env.scope.kind == .function && env.kindOf n == some .cell) then (n, NameKind.cell) else (n, k)).lookup x = some .free) → (x, NameKind.free) ∈ names
 | [], _, _, h => by simp at h
 | (n, k) :: r, x, hn, h => by
   have ih := @rR env r x (fun y hy => hn y (List.mem_cons_of_mem _ hy))
   have h : List.lookup x ((if (k == NameKind.free && env.scope.kind == .function && env.kindOf n == some .cell) = true then (n, NameKind.cell) else (n, k)) :: _) = _ ∨ List.lookup x ((if (k == NameKind.free && env.scope.kind == .function && env.kindOf n == some .cell) = true then (n, NameKind.cell) else (n, k)) :: _) = _ := h
   cases hx : x == n with
   | true =>
     have e := beq_iff_eq.mp hx
     subst e
     have hk : k = .free := by
       by_cases hc : (k == NameKind.free && env.scope.kind == .function && env.kindOf x == some .cell) = true
       · simp only [Bool.and_eq_true, beq_iff_eq] at hc
         exact hc.1.1
       · rw [if_neg hc] at h
         simp only [List.lookup_cons, hx] at h
         rcases h with h | h
         · exact absurd (Option.some.inj h) (hn (x, k) List.mem_cons_self)
         · exact Option.some.inj h
     subst hk
     exact List.mem_cons_self
   | false =>
     refine List.mem_cons_of_mem _ (ih ?_)
     by_cases hc : (k == NameKind.free && env.scope.kind == .function && env.kindOf n == some .cell) = true
     · rw [if_pos hc] at h; simp only [List.lookup_cons, hx] at h; exact h
     · rw [if_neg hc] at h; simp only [List.lookup_cons, hx] at h; exact h
def qO (N : List Str) (js : List Nat) : List Str := js.map fun j => N.getD j Str.empty
def lQ (σ : St) (js : List Nat) : St := js.map fun j => (σ[j]?).getD none
def aV9 (N : List Str) (osc sc : Scope) (js : List Nat) : Bool :=
 js.all fun j => decide (j < N.length) && (osc.names.lookup (N.getD j Str.empty) == some .cell || osc.names.lookup (N.getD j Str.empty) == some .free) && sc.names.lookup (N.getD j Str.empty) == some .free
def pL (osc sc : Scope) (x : Str) : Bool :=
 sc.kind == .function && sc.names.all (fun y => y.2 != .cell) && sc.names.all (fun y => y.2 != .local || sc.names.lookup y.1 == some .local) && sc.names.lookup x == some .local &&
   sc.names.all (fun y => y.2 != .free || (osc.names.lookup y.1 == some .cell || osc.names.lookup y.1 == some .free))
def tG (J : It) (cap : St) (tt : TT) (te : TE) (H : Hp) (P : List V → Hp → Prop) : Prop :=
 ∃ W : Nat → Nat → List V → Hp → Prop, (∃ m, W 0 m [] H) ∧ ∀ i m ys H, W i m ys H →
   (J.stop i H ∧ ys.length ≤ sizeLine ∧ P ys H) ∨ (J.go i H ∧ ys.length < sizeLine ∧ ∃ Nx : List V → Hp → Prop, (∀ ys' H', Nx ys' H' → ∃ m', m' < m ∧ W (i + 1) m' ys' H') ∧
     ∀ x H', J.yld i H x H' → tt (some x :: cap) H' fun b H3 => if b = true then te (some x :: cap) H3 fun v H4 => Nx (ys ++ [v]) H4 else Nx ys H3)
theorem Un.track {fs ex : List Addr} {H H1 : Hp} {h h1 : Heap} {D : Addr} {o : HO} (u : Un fs ex H H1 h h1) (hp : h.objs.size ≤ D) (hn : H1 D = none) : Un fs ex H (upd H1 D o) h h1 where
 keep := u.keep
 slot := u.slot
 free := fun b ob q n hx => by rw [aI (Nat.ne_of_lt (Nat.lt_of_lt_of_le (Heap.lt_size q) hp))]; exact u.free b ob q n hx
 there := u.there
 tups := fun b xs q => by have z := u.tups b xs q; rw [aI (aJ z hn)]; exact z
 frzs := fun b ob xs q => by have z := u.frzs b ob xs q; rw [aI (aJ z hn)]; exact z
 tbls := fun b ps q => by obtain ⟨more, z⟩ := u.tbls b ps q; exact ⟨more, by rw [aI (aJ z hn)]; exact z⟩
theorem HOk.track {P : Program} {w : World} {H : Hp} {h : Heap} {D : Addr} {o : HO} (x : HOk P w H h) (hn : H D = none) (new : bN P w (upd H D o) h D o) : HOk P w (upd H D o) h := fun b u e => by
 by_cases hb : b = D
 · subst hb; rw [aD] at e; cases e; exact new
 · rw [aI hb] at e
   exact (x b u e).stay (fun c v _ q => q) (fun c q => by rw [aI (aJ q hn)]; exact q) fun c xs q => by rw [aI (aJ q hn)]; exact q
section
variable {X : Cx} {x : Str} {px : Pos} {iter elt : Expr} {ifs : List Expr} {scope : Scope} {pos : Pos} {js : List Nat} {N : List Str} {osc : Scope} {tt : TT} {te : TE} {cl : List (Str × Addr)}
theorem aI0 {RR : Value → Addr → Result → Shared → Prop} {E : Value → Shared → Prop} {pins : List (Addr × Obj)} {σ : St} {H2 : Hp} {s2 : Shared} {it : Addr} {fp : List Addr} {tn : Nat → Heap → Prop} {J : It} {P : List V → Hp → Prop}
   (hN : X.N = N) (hsc : X.env.scope = osc) (hcap : aV9 N osc scope js = true) (hs1 : pL osc scope x = true) (hnd : (x :: qO N js).Nodup) (hc : X.calm = true)
   (hin : ∀ C s H fp E, PIf (cxC X scope cl C (x :: qO N js) s H fp E) ifs tt ∧ PE (cxC X scope cl C (x :: qO N js) s H fp E) elt te)
   (I2 : Inv X pins σ H2 s2) (T : Turn X.prog X.w X.K (.Name x px) J fp it tn) (st : tn 0 s2.heap) (f2 : ∀ b ∈ fp, uN X pins H2 b)
   (cl1 : ∀ n c, cl.lookup n = some c → X.env.cells.lookup n = some c) (cl2 : ∀ n, (n, NameKind.free) ∈ scope.names → ∃ c, cl.lookup n = some c)
   (h : tG J (lQ σ js) tt te H2 P)
   (hRR : ∀ D C ys H' s', P ys H' → H' D = none → Inv X pins σ (upd H' D (.lst ys)) s' → (∃ m, s'.heap.Ns C m) → C ≠ X.env.locals → X.s₀.heap.objs.size ≤ C → (∀ y c, X.env.cells.lookup y = some c → c ≠ C) → (∀ p ∈ X.pn ++ pins, p.1 ≠ C) →
     (upd H' D (.lst ys)) C = none → RR (.ref D) C (.ok .next) s') :
   wpAny (model X.prog X.w) X.A (newList []) (fun acc s₃ => wpAny (model X.prog X.w) X.A (newFunctionEnv scope X.env.globals cl [] X.env.qual none .none (some X.env)) (fun cenv s₄ =>
     codeAny (model X.prog X.w) X.A (.compStart (.ListComp elt [⟨.Name x px, iter, ifs, 0⟩] scope pos) 0 (.ref it) acc { cenv with scope := relabel scope X.env }) (RR acc cenv.locals) s₄) E s₃) E s2 := by
 unfold pL at hs1
 simp only [Bool.and_eq_true, beq_iff_eq, List.all_eq_true] at hs1
 obtain ⟨⟨⟨⟨hkind, hcell0⟩, hnames0⟩, hxl⟩, hfr0⟩ := hs1
 have hcell : ∀ y ∈ scope.names, y.2 ≠ .cell := fun y hy e => by
   have := hcell0 y hy
   rw [e] at this
   simp at this
 refine wpAny_newObj_type (wpAny_newFunctionEnv hcell (by intro y hy; simp at hy) (fun h₁ hns₁ hsb₁ => ?_) hkind)
 dsimp only at hns₁ hsb₁ ⊢
 generalize hHp : s2.heap.push { cls := .type "list", dict := none, data := .seq ([] : List Value).toArray } = Hh at hns₁ hsb₁ ⊢
 have hC : Hh.objs.size = s2.heap.objs.size + 1 := by rw [← hHp, Heap.size_push]
 generalize hD : s2.heap.objs.size = D at hC ⊢
 generalize hCC : Hh.objs.size = C at hC hns₁ hsb₁ ⊢
 have hDC : D ≠ C := by omega
 have below : ∀ b o, s2.heap.get? b = some o → b < D := fun b o e => by rw [← hD]; exact Heap.lt_size e
 have old : ∀ b o, s2.heap.get? b = some o → h₁.get? b = some o := fun b o e =>
   hsb₁.extBut b o (Nat.ne_of_lt (by rw [hC]; exact Nat.lt_succ_of_lt (below b o e))) (Heap.get?_push_of_some _ (by rw [← hHp]; exact Heap.get?_push_of_some _ e))
 have hacc : h₁.get? D = some { cls := .type "list", data := .seq ([] : List Value).toArray } :=
   hsb₁.extBut D _ hDC (Heap.get?_push_of_some _ (by rw [← hHp, ← hD]; exact Heap.get?_push_size _ rfl))
 have fpD : ∀ b ∈ fp, b < D := fun b hb => by
   obtain ⟨o, e, _⟩ := T.obj _ _ st b hb
   exact below b o e
 have ltC : ∀ b : Addr, b < D → b ≠ C := fun b hb => Nat.ne_of_lt (by rw [hC]; exact Nat.lt_succ_of_lt hb)
 have hLt : X.env.locals < D := by rw [← hD]; exact I2.lt
 have cellLt : ∀ y c, X.env.cells.lookup y = some c → c < D := fun y c e => by
   obtain ⟨v, q⟩ := I2.cell y c e
   rw [← hD]; exact q.lt
 have frLt : ∀ b, b ∈ frs X.stack → b < D := fun b hb => by
   obtain ⟨_, o, ho, _⟩ := I2.stack.mem hb
   exact below b o ho
 let E' : Value → Shared → Prop := notedBy (model X.prog X.w) X.A (compEnvC scope cl C X.env) (fun e s' => RR (.ref D) C (.error e) s')
 let X' : Cx := cxC X scope cl C (x :: qO N js) s2 H2 fp E'
 have hok : X'.Ok := {
     mod := I2.ok.mod
     kind := hkind
     glob := I2.ok.glob
     blt := I2.ok.blt
     above := by show s2.heap.objs.size ≤ C; omega
     inj := fun a b c e1 e2 => I2.ok.inj a b c (cl1 _ _ e1) (cl1 _ _ e2)
     has := fun y hy => cl2 y (rR hcell hy)
     cab := fun _ _ e => nomatch e
     hd := I2.ok.hd
     frames := I2.ok.frames
     stk := .inl rfl
     exf := fun b hb => ⟨ltC b (fpD b hb), fun y c e => (f2 b hb).2.2.2.2.1 y c (cl1 _ _ e)⟩
     bs := I2.bs
     bsz := Nat.le_trans I2.ok.bsz I2.sz
     noex := fun b o e hb => by
       rcases (f2 b hb).2.2.2.1 with z | z
       · exact I2.ok.noex b o e z
       · have := Nat.lt_of_lt_of_le (Heap.lt_size e) I2.ok.bsz
         omega
     exfs := fun b hb z => by
       rcases List.mem_cons.mp (I2.stkSub b z) with e | e
       · exact (f2 b hb).2.1 e
       · exact (f2 b hb).2.2.1 e
     funs := I2.stack
     frf := I2.stkFree }
 have hl0 : (none :: lQ σ js : St).length = X'.N.length := by
   show _ = (x :: qO N js).length
   simp [lQ, qO]
 have nC2 : H2 C = none := I2.hok.fresh (by omega)
 have nD2 : H2 D = none := I2.hok.fresh (by omega)
 have I0 : Inv X' [] (none :: lQ σ js) H2 { s2 with heap := h₁, toks := s2.toks + ([] : List (Str × Value)).length } := by
   refine ⟨hok, rfl, I2.bare, Un.kept old, ⟨_, hns₁, fun i y v h1 h2 h3 => ?_⟩, fun y c e => ?_, nC2, fun y c e => I2.freeC y c (cl1 y c e), fun p hp => absurd (show p ∈ ([] : List (Addr × Obj)) from hp) (by simp), I2.hok.kept old, hl0⟩
   · cases i with
     | zero => simp at h2
     | succ i =>
       have h1' : (qO N js)[i]? = some y := by
         have z : (x :: qO N js)[i + 1]? = some y := h1
         simpa using z
       have h2' : (lQ σ js)[i]? = some (some v) := by simpa using h2
       unfold qO at h1'
       unfold lQ at h2'
       rw [List.getElem?_map] at h1' h2'
       cases ej : js[i]? with
       | none => rw [ej] at h1'; cases h1'
       | some j =>
         rw [ej] at h1' h2'
         have e1 : N.getD j Str.empty = y := Option.some.inj h1'
         have e2 : (σ[j]?).getD none = some v := Option.some.inj h2'
         have hσ : σ[j]? = some (some v) := by
           cases q : σ[j]? with
           | none => rw [q] at e2; cases e2
           | some o => rw [q] at e2; rw [show o = some v from e2]
         have hcj := (List.all_eq_true.mp hcap) j (List.mem_of_getElem? ej)
         simp only [Bool.and_eq_true, Bool.or_eq_true, beq_iff_eq, decide_eq_true_eq] at hcj
         obtain ⟨⟨hjl, hok1⟩, hok2⟩ := hcj
         rw [e1] at hok1 hok2
         have hNj : X.N[j]? = some y := by
           rw [hN, ← e1, List.getD_eq_getElem?_getD]
           simp [hjl]
         obtain ⟨m, hm, hl⟩ := I2.loc
         have hvis : Vis X.env.scope y := by
           rw [hsc]
           rcases hok1 with z | z
           · exact .inr (.inl z)
           · exact .inr (.inr z)
         obtain ⟨u, ru, look⟩ := hl j y v hNj hσ hvis
         refine ⟨u, ru, .inr ⟨jD hok2, ?_⟩⟩
         rcases look with ⟨lk, _⟩ | ⟨_, c, ec, hcl⟩
         · have lk' : X.env.scope.names.lookup y = some .local := lk
           rw [hsc] at lk'
           rcases hok1 with z | z <;> (rw [z] at lk'; cases lk')
         · obtain ⟨c', ec'⟩ := cl2 y (PySem.mem_of_lookup hok2)
           have := cl1 y c' ec'
           rw [ec] at this
           cases this
           exact ⟨c, ec', let ⟨o, ho, hd⟩ := hcl; ⟨o, old c o ho, hd⟩⟩
   · obtain ⟨v, o, ho, hd⟩ := I2.cell y c (cl1 y c e)
     exact ⟨v, o, old c o ho, hd⟩
 have DfsX : D ∉ X'.fs := fun z => absurd (frLt D z) (Nat.lt_irrefl _)
 have Dfp : D ∉ fp := fun z => absurd (fpD D z) (Nat.lt_irrefl _)
 have Dcell : ∀ y c, X'.env.cells.lookup y = some c → c ≠ D := fun y c e => Nat.ne_of_lt (cellLt y c (cl1 y c e))
 have D0 : X'.s₀.heap.objs.size ≤ D := by show s2.heap.objs.size ≤ D; omega
 have fpOk : ∀ {H : Hp} {pl : List (Addr × Obj)}, (∀ b ∈ fp, H b = none) → (∀ p ∈ pl, p.1 ∉ fp) → ∀ b ∈ fp, uN X' pl H b := fun {H pl} hn hp b hb => by
   refine ⟨hn b hb, ltC b (fpD b hb), fun z => ?_, .inl hb, fun y c e => (f2 b hb).2.2.2.2.1 y c (cl1 y c e), fun p q => ?_⟩
   · rcases List.mem_cons.mp (I2.stkSub b z) with e | e
     · exact (f2 b hb).2.1 e
     · exact (f2 b hb).2.2.1 e
   · intro e
     rcases List.mem_append.mp q with q | q
     · exact absurd (show p ∈ ([] : List (Addr × Obj)) from q) (by simp)
     · exact hp p q (by rw [e]; exact hb)
 have hif : PIf X' ifs tt := (hin C s2 H2 fp E').1
 have helt : PE X' elt te := (hin C s2 H2 fp E').2
 obtain ⟨W, ⟨m0, w0⟩, turn⟩ := h
 have loop : ∀ s₃ : Shared, s₃ = { s2 with heap := h₁, toks := s2.toks + ([] : List (Str × Value)).length } →
     codeAny (model X.prog X.w) X.A (.compLoop (.ListComp elt [⟨.Name x px, iter, ifs, 0⟩] scope pos) 0 (.ref it) (.ref D) (compEnvC scope cl C X.env)) (RR (.ref D) C) s₃ := by
   rintro s₃ rfl
   refine xH (fun n s' => ∃ i ys its nn H', Inv X' [] (none :: lQ σ js) H' s' ∧ tn i s'.heap ∧ (∀ b ∈ fp, H' b = none) ∧ s'.heap.get? D = some { cls := .type "list", data := .seq (its : List Value).toArray nn } ∧ H' D = none ∧ Vals ys its ∧ W i n ys H') ?_ m0
     ⟨0, [], [], 0, H2, I0, T.keep _ _ _ st fun b _ o e => old b o e, fun b hb => (f2 b hb).1, hacc, nD2, .nil, w0⟩
   rintro n s3 ⟨i, ys, its, nn, H3, I3, st3, fr3, hD3, nD3, rv, w3⟩
   have hlen : ys.length = its.length := rv.length
   let ob : Obj := { cls := .type "list", data := .seq its.toArray nn }
   have nocell : ∀ v, ob.data ≠ .cell v := fun v z => nomatch z
   have I3p : Inv X' [(D, ob)] (none :: lQ σ js) H3 s3 := I3.pins_of fun p hp => by
     have e : p = (D, ob) := by simpa using hp
     subst e
     exact ⟨hD3, nD3, hDC, DfsX, nocell⟩
   have pfp : ∀ p ∈ [(D, ob)], p.1 ∉ fp := fun p hp => by
     have e : p = (D, ob) := by simpa using hp
     subst e
     exact Dfp
   rcases turn i n ys H3 w3 with ⟨stop, hz, q⟩ | ⟨go, hz, Nx, hNx, step⟩
   · refine wpAny_mono (T.done X' rfl rfl rfl hc i [(D, ob)] s3 _ H3 E' I3p (fpOk fr3 pfp) st3 stop) (fun r s4 ⟨hr, I4⟩ => ?_) fun _ _ e => e
     subst hr
     have hD4 : s4.heap.get? D = some ob := (I4.pin (D, ob) (by simp)).1
     have un : Un (frs X.stack) fp H2 H3 s2.heap s4.heap := I4.base
     obtain ⟨m, hm, _⟩ := I4.loc
     have nC3 : H3 C = none := I4.free
     refine hRR D C ys H3 s4 q nD3 ?_ ⟨m, hm⟩ (Ne.symm (ltC _ hLt)) (by have := I2.sz; omega) (fun y c e => ltC c (cellLt y c e)) (fun p hp => ?_) (by rw [aI hDC.symm]; exact nC3)
     · refine I2.call' I4.os (un.track (by omega) nD3) (I4.hok.track nD3 ⟨hz, its, nn, rv, hD4⟩) I4.bare fun b hb => ?_
       obtain ⟨_, a2, _, a4, a5, a6⟩ := f2 b hb
       exact ⟨a4, a2, a5, a6⟩
     · exact ltC _ (below _ _ (I2.pin p hp).1)
   · refine wpAny_mono (T.item X' rfl rfl rfl hc i [(D, ob)] s3 _ H3 E' I3p (fpOk fr3 pfp) st3 go) (fun r s4 ⟨u, hr, h4⟩ => ?_) fun _ _ e => e
     subst hr
     refine wpAny_mono h4 (fun _ s5 ⟨xv, H5, I5, r5, y5, st5, fr5⟩ => ?_) fun _ _ e => e
     have I5' := I5.pinned (fpOk fr5 pfp) (T.obj _ _ st5)
     refine wpAny_assign_Name (kO (X := X') (i := 0) (x := x) I5' hnd rfl (.inl (lookup_relabel_local hxl)) r5 (fun s6 I6 => ?_) (.inr (lookup_relabel_local hxl)))
     have next : ∀ {s7 : Shared} {H7 : Hp}, Inv X' ([(D, ob)] ++ rV fp s5.heap) (some xv :: lQ σ js) H7 s7 →
         Inv X' [] (none :: lQ σ js) H7 s7 ∧ tn (i + 1) s7.heap ∧ (∀ b ∈ fp, H7 b = none) ∧ s7.heap.get? D = some ob ∧ H7 D = none := fun {s7 H7} I7 => by
       have pD := I7.pin (D, ob) (List.mem_append_right _ (List.mem_append_left _ (by simp)))
       refine ⟨(I7.weak (σ' := none :: lQ σ js) (by simp) fun j v e => ?_).pins_of (fun p hp => nomatch hp), T.keep _ _ _ st5 fun b hb o e => (I7.pin (b, o) (List.mem_append_right _ (List.mem_append_right _ (lE hb e)))).1, fun b hb => ?_, pD.1, pD.2.1⟩
       · cases j with
         | zero => simp at e
         | succ j => simpa using e
       · obtain ⟨o, e, d⟩ := T.obj _ _ st5 b hb
         exact (I7.pin (b, o) (List.mem_append_right _ (List.mem_append_right _ (lE hb e)))).2.1
     refine wpAny_mono (hif _ s6 _ H5 _ I6 (step xv H5 y5)) (fun b s7 ⟨H7, I7, q7⟩ => ?_) fun _ _ e => e
     cases b with
     | false =>
       rw [if_neg Bool.false_ne_true] at q7 ⊢
       obtain ⟨m', hm, w7⟩ := hNx ys H7 q7
       obtain ⟨a1, a2, a3, a4, a5⟩ := next I7
       exact ⟨m', hm, i + 1, ys, its, nn, H7, a1, a2, a3, a4, a5, rv, w7⟩
     | true =>
       rw [if_pos rfl] at q7 ⊢
       refine wpAny_mono (helt _ s7 _ H7 _ I7 q7) (fun uv s8 ⟨v, H8, I8, r8, q8⟩ => ?_) fun _ _ e => e
       obtain ⟨m', hm, w8⟩ := hNx _ H8 q8
       obtain ⟨a1, a2, a3, a4, a5⟩ := next I8
       refine call_meets F.slot_list_append ⟨_, a4, rfl⟩ F.entry_list_append (F.args_list_append_2 _ _) (PySem.list_append D its.toArray nn uv (by rw [List.size_toArray]; omega)) ⟨a4, ?_⟩
       have q := PySem.IsL.update a4 (·.push uv)
       have e2 : its.toArray.push uv = (its ++ [uv]).toArray := by simp
       rw [e2] at q
       have kk : ∀ b o, b ≠ D → s8.heap.get? b = some o → (s8.heap.update D (Obj.mapSeq (·.push uv))).get? b = some o := fun b o hb e => (Heap.get?_update_other s8.heap _ (Ne.symm hb)).trans e
       refine ⟨m', hm, i + 1, ys ++ [v], its ++ [uv], _, H8, a1.turned (t' := s8.toks) kk a5 hDC (.inr D0) Dcell (fun p hp => ?_), T.keep _ _ _ a2 fun b hb o e => kk b o (fun z => Dfp (z ▸ hb)) e, a3, q, a5, rv.append (.cons r8 .nil), w8⟩
       · exact absurd (show p ∈ ([] : List (Addr × Obj)) from hp) (by simp)
 exact codeAny_compStart_list (loop _ rfl) (T.self X.A 0 _ _ _ (T.keep _ _ _ st fun b _ o e => old b o e) (loop _ rfl))
def tLC (wi : TI) (js : List Nat) (tt : TT) (te : TE) : TE := fun σ H Q => wi σ H fun J H1 => tG J (lQ σ js) tt te H1 fun ys H2 => ∀ D, H2 D = none → Q (.ref D) (upd H2 D (.lst ys))
theorem aP5 (hs1 : pL osc scope x = true) (hsc : X.env.scope = osc) {pins : List (Addr × Obj)} {σ : St} {H : Hp} {s : Shared} (I : Inv X pins σ H s) : ∀ n, (n, NameKind.free) ∈ scope.names → ∃ c, X.env.cells.lookup n = some c := fun n hn => by
 unfold pL at hs1
 simp only [Bool.and_eq_true, beq_iff_eq, List.all_eq_true] at hs1
 have h := hs1.2 _ hn
 simp only [bne_self_eq_false, Bool.false_or, Bool.or_eq_true, beq_iff_eq] at h
 refine I.ok.has n ?_
 show X.env.scope.names.lookup n = _ ∨ X.env.scope.names.lookup n = _
 rw [hsc]; exact h
theorem pL.kind (hs1 : pL osc scope x = true) : scope.kind = .function := by
 unfold pL at hs1
 simp only [Bool.and_eq_true, beq_iff_eq, List.all_eq_true] at hs1
 exact hs1.1.1.1.1
theorem pL.names (hs1 : pL osc scope x = true) : ∀ y ∈ scope.names, y.2 = .local → scope.names.lookup y.1 = some .local := fun y hy e => by
 unfold pL at hs1
 simp only [Bool.and_eq_true, beq_iff_eq, List.all_eq_true] at hs1
 have := hs1.1.1.2 y hy
 rw [e] at this
 simpa using this
theorem aC0 {wi : TI} {ps : List Str} (_S : FnScope N ps osc) (js : List Nat) (hi : PI X (.Name x px) iter wi)
   (hin : ∀ cl C s H fp E, PIf (cxC X scope cl C (x :: qO N js) s H fp E) ifs tt ∧ PE (cxC X scope cl C (x :: qO N js) s H fp E) elt te)
   (hN : X.N = N := by rfl) (hsc : X.env.scope = osc := by rfl) (hcap : aV9 N osc scope js = true := by decide +kernel) (hs1 : pL osc scope x = true := by decide +kernel) (hnd : (x :: qO N js).Nodup := by decide +kernel) (hc : X.calm = true := by rfl)
   (hs : ∀ v, foldedSetIterable iter X.env v = pure v := by intro _; rfl) :
   PE X (.ListComp elt [⟨.Name x px, iter, ifs, 0⟩] scope pos) (tLC wi js tt te) := by
 intro pins s σ H Q I h
 obtain ⟨cl, hcl, cl1, cl2⟩ := aB1 (aP5 hs1 hsc I)
 rw [eval_ListComp]
 refine wpAny_comprehension_free (use := none) rfl hs hcl (pL.kind hs1) (pL.names hs1) (thn (hi pins s σ H _ I h) fun v s1 h1 => thn h1 fun itv s2 h2 => ?_)
 obtain ⟨it, fp, tn, J, H2, e, I2, T, st2, f2, lp⟩ := h2
 subst e
 refine aI0 (RR := fun acc C => compPost (model X.prog X.w) X.A X.xe none (EP X pins σ Q) acc C) hN hsc hcap hs1 hnd hc (hin cl) I2 T st2 f2 cl1 cl2 lp ?_
 intro D C ys H' s' q nD I' hm hL h0 hce hpi hfree
 refine ⟨hm.choose, hm.choose_spec, fun h' hs' => ⟨.ref D, _, I'.turned (t' := s'.toks) (fun b o hb e => hs'.extBut b o hb e) hfree hL (.inr h0) hce hpi, rfl, q D nD⟩⟩
end
end L2
namespace L2
open PySem PySem.Spec PyProof.Rows
section
variable {X : Cx}
inductive ClV : V → Value → Prop where
 | ty (n : String) : ClV (.ty n) (.type n)
 | ref (a : Addr) : ClV (.ref a) (.ref a)
theorem ClV.rel {c : V} {cv u : Value} (h : ClV c cv) (r : bY c u) : u = cv := by
 cases h with
 | ty n => exact r
 | ref a => exact r
theorem bV : kX X (.builtin "isinstance") (fun xs H Q => ∃ x c t cv b, xs = [x, c] ∧ ClV c cv ∧ TyOf X.K H x t ∧ W.kitOne X.K t cv = some b ∧ Q (.bl b) H) := by
 intro pins s σ H xs us Q I r h
 obtain ⟨x, c, t, cv, b, rfl, hc, ht, he, q⟩ := h
 cases r with
 | cons r1 r' =>
   cases r' with
   | cons r2 r'' =>
     cases r''
     obtain rfl := hc.rel r2
     exact aH4 I r1 ht he fun tk => ⟨.bl b, H, I.tok tk, rfl, q⟩
theorem aA7 {pins : List (Addr × Obj)} {σ : St} {H : Hp} {s : Shared} {A : Around} {E : Value → Shared → Prop} {Q : Value → Shared → Prop} {x : V} {u t : Value} {tp : Addr} {cs : List V} {cvs : List Value} {b : Bool}
   (I : Inv X pins σ H s) (rx : bY x u) (ty : TyOf X.K H x t) (ht : H tp = some (.tup cs)) (hcs : Paired ClV cs cvs) (e : W.kitAny X.K t cvs = some b) (h : ∀ tk, Q (.bool b) { s with toks := tk }) :
   wpAny (model X.prog X.w) A (call (.builtin "isinstance") [u, .ref tp]) Q E s := by
 obtain ⟨_, its, rv, p⟩ := (show bN X.prog X.w H s.heap tp (.tup cs) from I.hok tp _ ht)
 have eits : its = cvs := by
   have : ∀ {cs : List V} {its cvs : List Value}, Vals cs its → Paired ClV cs cvs → its = cvs := by
     intro cs
     induction cs with
     | nil => intro its cvs a b; cases a; cases b; rfl
     | cons c cs ih =>
       intro its cvs a b
       cases a with
       | cons a1 a2 =>
         cases b with
         | cons b1 b2 => rw [b1.rel a1, ih a2 b2]
   exact this rv hcs
 subst eits
 obtain ⟨⟨oc, od, odt, osl⟩, h1, h2, n, h3⟩ := p
 cases h2
 cases h3
 cases ty with
 | non => cases (show u = Value.none from rx); exact W.kia_tup W.kitx_none I.kIn True.intro h1 e (fun z => nomatch z) h
 | bl y => cases (show u = Value.bool y from rx); exact W.kia_tup W.kitx_bool I.kIn True.intro h1 e (fun z => nomatch z) h
 | int i => obtain ⟨t, q⟩ := (show ∃ t, u = Value.int i t from rx); cases q; exact W.kia_tup W.kitx_int I.kIn True.intro h1 e (fun z => nomatch z) h
 | str y => obtain ⟨t, q⟩ := (show ∃ t, u = Value.str y t from rx); cases q; exact W.kia_tup W.kitx_str I.kIn True.intro h1 e (fun z => nomatch z) h
 | flt y => obtain ⟨t, q⟩ := (show ∃ t, u = Value.float y t from rx); cases q; exact W.kia_tup W.kitx_float I.kIn True.intro h1 e (fun z => nomatch z) h
 | @lst a xs ea =>
   cases (show u = Value.ref a from rx)
   obtain ⟨_, _, n, _, h1'⟩ := (show bN X.prog X.w H s.heap a (.lst xs) from I.hok a _ ea)
   exact W.kia_tup W.kitx_list I.kIn ⟨_, h1', rfl⟩ h1 e (fun z => nomatch z) h
 | @frz a ob xs ea =>
   cases (show u = Value.ref a from rx)
   obtain ⟨_, _, _, n, _, h1'⟩ := (show bN X.prog X.w H s.heap a (.frz ob (.lst xs)) from I.hok a _ ea)
   exact W.kia_tup W.kitx_list I.kIn ⟨_, h1', rfl⟩ h1 e (fun z => nomatch z) h
 | @tup a xs ea =>
   cases (show u = Value.ref a from rx)
   obtain ⟨_, _, _, p⟩ := (show bN X.prog X.w H s.heap a (.tup xs) from I.hok a _ ea)
   obtain ⟨o, h1', h2, _⟩ := p
   exact W.kia_tup W.kitx_tuple I.kIn ⟨o, h1', h2⟩ h1 e (fun z => nomatch z) h
 | @dK a kvs ea =>
   cases (show u = Value.ref a from rx)
   obtain ⟨_, _, vs, _, p⟩ := (show bN X.prog X.w H s.heap a (.dK kvs) from I.hok a _ ea)
   obtain ⟨o, es, ep, h1', h2, _⟩ := p
   exact W.kia_tup W.kitx_dict I.kIn ⟨o, h1', h2.1⟩ h1 e (fun z => nomatch z) h
 | @dT a kvs ea =>
   cases (show u = Value.ref a from rx)
   obtain ⟨_, _, xs, _, o, es, ep, h1', h2, _⟩ := (show bN X.prog X.w H s.heap a (.dT kvs) from I.hok a _ ea)
   exact W.kia_tup W.kitx_dict I.kIn ⟨o, h1', h2.1⟩ h1 e (fun z => nomatch z) h
 | @ins a C dx fs ea cl ha hn htk hm =>
   cases (show u = Value.ref a from rx)
   obtain ⟨mA, O, _⟩ := oS I.hok ea
   obtain ⟨od, J, _⟩ := O.look
   exact W.kia_tup (W.kitx_own (cl.get _) cl.hd ha hn htk hm) I.kIn J h1 e (fun z => nomatch z) h
theorem jL : kX X (.builtin "isinstance") (fun xs H Q => ∃ x tp cs t cvs b, xs = [x, .ref tp] ∧ H tp = some (.tup cs) ∧ Paired ClV cs cvs ∧ TyOf X.K H x t ∧ W.kitAny X.K t cvs = some b ∧ Q (.bl b) H) := by
 intro pins s σ H xs us Q I r h
 obtain ⟨x, tp, cs, t, cvs, b, rfl, htp, hcs, ht, he, q⟩ := h
 cases r with
 | cons r1 r' =>
   cases r' with
   | cons r2 r'' =>
     cases r''
     cases r2
     exact aA7 I r1 ht htp hcs he fun tk => ⟨.bl b, H, I.tok tk, rfl, q⟩
end
def EqD (X : Cx) (H : Hp) (d : Nat) (x y : V) (b : Bool) : Prop :=
 ∀ (A : Around) (s : Shared) (pins : List (Addr × Obj)) (σ : St) (u v : Value), Inv X pins σ H s → A.units + d < cLine → bY x u → bY y v → SeqAt.EqAt A s u v b
def RcD (X : Cx) (H : Hp) (d : Nat) (x y : V) (b : Bool) : Prop :=
 ∀ (A : Around) (s : Shared) (pins : List (Addr × Obj)) (σ : St) (u v : Value), Inv X pins σ H s → A.units + d < cLine → bY x u → bY y v → SeqAt.RcAt A s u v b ∧ SeqAt.RcNeAt A s u v (!b)
structure EqR (X : Cx) (H : Hp) (d : Nat) {α : Type} [DecidableEq α] (R : V → α → Prop) : Prop where
 eq : ∀ x y a b, R x a → R y b → EqD X H d x y (decide (a = b))
 rc : ∀ x y a b, R x a → R y b → RcD X H d x y (decide (a = b))
 one : ∀ x a b, R x a → R x b → (∃ pins σ s, Inv X pins σ H s) → a = b
section
variable {X : Cx} {H : Hp} {d : Nat}
def isI : V → Int → Prop := fun v i => v = .int i
def isB : V → Bool → Prop := fun v i => v = .bl i
theorem EqR.int : EqR X H d isI := ⟨fun x y a b ha hb A s pins σ u v I hu ru rv => by
   cases ha; cases hb
   obtain ⟨t, rfl⟩ := ru
   obtain ⟨t', rfl⟩ := rv
   rw [show decide (a = b) = (a == b) from rfl]
   exact SeqAt.EqAt.int_int a t b t', fun x y a b ha hb A s pins σ u v I hu ru rv => by
   cases ha; cases hb
   obtain ⟨t, rfl⟩ := ru
   obtain ⟨t', rfl⟩ := rv
   rw [show decide (a = b) = (a == b) from rfl]
   exact ⟨SeqAt.RcAt.int_int a t b t', SeqAt.RcNeAt.int_int a t b t'⟩, fun x a b ha hb _ => by cases ha; cases hb; rfl⟩
theorem EqR.bl : EqR X H d isB := ⟨fun x y a b ha hb A s pins σ u v I hu ru rv => by
   cases ha; cases hb
   cases ru; cases rv
   rw [show decide (a = b) = (a == b) by cases a <;> cases b <;> rfl]
   exact SeqAt.EqAt.bool_bool a b, fun x y a b ha hb A s pins σ u v I hu ru rv => by
   cases ha; cases hb
   cases ru; cases rv
   rw [show decide (a = b) = (a == b) by cases a <;> cases b <;> rfl]
   exact ⟨SeqAt.RcAt.bool_bool a b, SeqAt.RcNeAt.bool_bool a b⟩, fun x a b ha hb _ => by cases ha; cases hb; rfl⟩
variable {α : Type} [DecidableEq α] {R : V → α → Prop}
def isT (K : W.Frag) (H : Hp) (R : V → α → Prop) : V → List α → Prop := fun v as => ∃ a xs, v = .ref a ∧ SqT K H a xs ∧ Paired R xs as
def isL (K : W.Frag) (H : Hp) (R : V → α → Prop) : V → List α → Prop := fun v as => ∃ a xs, v = .ref a ∧ SqL K H a xs ∧ Paired R xs as
theorem Paired.get {β γ : Type} {F : β → γ → Prop} : ∀ {xs : List β} {ys : List γ} {i : Nat} {x : β}, Paired F xs ys → xs[i]? = some x → ∃ y, ys[i]? = some y ∧ F x y
 | _, _, _, _, .nil, e => by simp at e
 | _, _, 0, _, .cons r _, e => by simp at e; subst e; exact ⟨_, rfl, r⟩
 | _, _, i + 1, x, .cons _ t, e => by
   obtain ⟨u, h1, h2⟩ := Paired.get (i := i) (x := x) t (by simpa using e)
   exact ⟨u, by simpa using h1, h2⟩
theorem jX {X : Cx} {H : Hp} {d : Nat} (h : EqR X H d R) (I : ∃ pins σ s, Inv X pins σ H s) : ∀ {xs : List V} {as bs : List α}, Paired R xs as → Paired R xs bs → as = bs
 | _, _, _, .nil, .nil => rfl
 | _, _, _, .cons r t, .cons r' t' => by rw [h.one _ _ _ r r' I, jX h I t t']
theorem oX {as bs : List α} (hl : as.length = bs.length) : (List.range as.length).all (fun j => decide (as[j]? = bs[j]?)) = decide (as = bs) := by
 rw [Bool.eq_iff_iff, List.all_eq_true, decide_eq_true_iff]
 constructor
 · intro h
   apply List.ext_getElem?
   intro j
   by_cases hj : j < as.length
   · exact of_decide_eq_true (h j (List.mem_range.mpr hj))
   · rw [List.getElem?_eq_none_iff.mpr (by omega), List.getElem?_eq_none_iff.mpr (by omega)]
 · intro h j _
   rw [h]; simp
theorem EqR.tup (h : EqR X H d R) : EqR X H (d + 1) (isT X.K H R) := by
 have rc : ∀ x y a b, isT X.K H R x a → isT X.K H R y b → RcD X H (d + 1) x y (decide (a = b)) := by
   rintro x y as bs ⟨a, xs, rfl, hx, pa⟩ ⟨b, ys, rfl, hy, pb⟩ A s pins σ u v I hu ru rv
   cases ru; cases rv
   obtain ⟨its, r1, t1, _⟩ := I.tuple hx
   obtain ⟨jts, r2, t2, _⟩ := I.tuple hy
   have l1 := r1.length
   have l2 := r2.length
   have l3 := pa.length
   have l4 := pb.length
   have hu1 : A.units < cLine := by omega
   have he : ∀ j (h1 : j < its.toArray.size) (h2 : j < jts.toArray.size), SeqAt.EqAt A.in1 s its.toArray[j] jts.toArray[j] (decide (as[j]? = bs[j]?)) := fun j h1 h2 => by
     simp only [List.size_toArray] at h1 h2
     obtain ⟨xv, ex⟩ : ∃ xv, xs[j]? = some xv := ⟨xs[j]'(by omega), List.getElem?_eq_getElem (by omega)⟩
     obtain ⟨yv, ey⟩ : ∃ yv, ys[j]? = some yv := ⟨ys[j]'(by omega), List.getElem?_eq_getElem (by omega)⟩
     obtain ⟨u1, q1, w1⟩ := r1.get ex
     obtain ⟨u2, q2, w2⟩ := r2.get ey
     obtain ⟨a1, p1, z1⟩ := Paired.get pa ex
     obtain ⟨a2, p2, z2⟩ := Paired.get pb ey
     have g1 : its.toArray[j]'(by simpa using h1) = u1 := by
       have := List.getElem?_eq_some_iff.mp q1
       simpa using this.2
     have g2 : jts.toArray[j]'(by simpa using h2) = u2 := by
       have := List.getElem?_eq_some_iff.mp q2
       simpa using this.2
     rw [g1, g2, p1, p2]
     have := h.eq xv yv a1 a2 z1 z2 A.in1 s pins σ u1 u2 I (by show A.units + 1 + d < cLine; omega) w1 w2
     rw [show decide (some a1 = some a2) = decide (a1 = a2) by simp]
     exact this
   have hb : ((List.range (min its.toArray.size jts.toArray.size)).all (fun j => decide (as[j]? = bs[j]?)) && its.toArray.size == jts.toArray.size) = decide (as = bs) := by
     simp only [List.size_toArray]
     by_cases hl : as.length = bs.length
     · have e1 : its.length = jts.length := by omega
       have e2 : min its.length jts.length = as.length := by omega
       rw [e2, oX hl, e1]; simp
     · have : (its.length == jts.length) = false := by simp; omega
       rw [this, Bool.and_false]
       exact (decide_eq_false fun e => hl (by rw [e])).symm
   have z1 := SeqAt.RcAt.tuples (A := A) (s := s) t1 t2 hu1 he
   have z2 := SeqAt.RcNeAt.tuples (A := A) (s := s) t1 t2 hu1 he
   rw [hb] at z1 z2
   exact ⟨z1, z2⟩
 refine ⟨?_, rc, ?_⟩
 · rintro x y as bs hx hy A s pins σ u v I hu ru rv
   obtain ⟨a, xs, rfl, hx', pa⟩ := id hx
   obtain ⟨b, ys, rfl, hy', pb⟩ := id hy
   cases ru; cases rv
   by_cases e : a = b
   · subst e
     have : xs = ys := I.tuple_inj hx' hy'
     subst this
     rw [jX h ⟨pins, σ, s, I⟩ pa pb, decide_eq_true rfl]
     exact SeqAt.EqAt.same _
   · exact SeqAt.EqAt.of_refs e (rc _ _ as bs hx hy A s pins σ _ _ I hu rfl rfl).1
 · rintro x as bs ⟨a, xs, rfl, hx, pa⟩ ⟨b, ys, e, hy, pb⟩ ⟨pins, σ, s, I⟩
   cases e
   have : xs = ys := I.tuple_inj hx hy
   subst this
   exact jX h ⟨pins, σ, s, I⟩ pa pb
theorem EqR.lst (h : EqR X H d R) : EqR X H (d + 1) (isL X.K H R) := by
 have rc : ∀ x y a b, isL X.K H R x a → isL X.K H R y b → RcD X H (d + 1) x y (decide (a = b)) := by
   rintro x y as bs ⟨a, xs, rfl, hx, pa⟩ ⟨b, ys, rfl, hy, pb⟩ A s pins σ u v I hu ru rv
   cases ru; cases rv
   obtain ⟨its, r1, t1, _⟩ := I.list hx
   obtain ⟨jts, r2, t2, _⟩ := I.list hy
   have l1 := r1.length
   have l2 := r2.length
   have l3 := pa.length
   have l4 := pb.length
   have hu1 : A.units < cLine := by omega
   by_cases hl : as.length = bs.length
   · have he : ∀ j (h1 : j < its.toArray.size) (h2 : j < jts.toArray.size), SeqAt.EqAt A.in1 s its.toArray[j] jts.toArray[j] (decide (as[j]? = bs[j]?)) := fun j h1 h2 => by
       simp only [List.size_toArray] at h1 h2
       obtain ⟨xv, ex⟩ : ∃ xv, xs[j]? = some xv := ⟨xs[j]'(by omega), List.getElem?_eq_getElem (by omega)⟩
       obtain ⟨yv, ey⟩ : ∃ yv, ys[j]? = some yv := ⟨ys[j]'(by omega), List.getElem?_eq_getElem (by omega)⟩
       obtain ⟨u1, q1, w1⟩ := r1.get ex
       obtain ⟨u2, q2, w2⟩ := r2.get ey
       obtain ⟨a1, p1, z1⟩ := Paired.get pa ex
       obtain ⟨a2, p2, z2⟩ := Paired.get pb ey
       have g1 : its.toArray[j]'(by simpa using h1) = u1 := by
         have := List.getElem?_eq_some_iff.mp q1
         simpa using this.2
       have g2 : jts.toArray[j]'(by simpa using h2) = u2 := by
         have := List.getElem?_eq_some_iff.mp q2
         simpa using this.2
       rw [g1, g2, p1, p2]
       have := h.eq xv yv a1 a2 z1 z2 A.in1 s pins σ u1 u2 I (by show A.units + 1 + d < cLine; omega) w1 w2
       rw [show decide (some a1 = some a2) = decide (a1 = a2) by simp]
       exact this
     have hsz : its.toArray.size = jts.toArray.size := by simp; omega
     have hb : (List.range its.toArray.size).all (fun j => decide (as[j]? = bs[j]?)) = decide (as = bs) := by
       simp only [List.size_toArray]
       rw [show its.length = as.length by omega, oX hl]
     have z1 := SeqAt.RcAt.lists (A := A) (s := s) t1.isList t2.isList hsz hu1 he
     have z2 := SeqAt.RcNeAt.lists (A := A) (s := s) t1.isList t2.isList hsz hu1 he
     rw [hb] at z1 z2
     exact ⟨z1, z2⟩
   · have hsz : (its.toArray.size != jts.toArray.size) = true := by simp; omega
     rw [decide_eq_false fun e => hl (by rw [e])]
     exact ⟨SeqAt.RcAt.lists_lengths t1.isList t2.isList hsz hu1, SeqAt.RcNeAt.lists_lengths t1.isList t2.isList hsz hu1⟩
 refine ⟨?_, rc, ?_⟩
 · rintro x y as bs hx hy A s pins σ u v I hu ru rv
   obtain ⟨a, xs, rfl, hx', pa⟩ := id hx
   obtain ⟨b, ys, rfl, hy', pb⟩ := id hy
   cases ru; cases rv
   by_cases e : a = b
   · subst e
     have : xs = ys := I.list_inj hx' hy'
     subst this
     rw [jX h ⟨pins, σ, s, I⟩ pa pb, decide_eq_true rfl]
     exact SeqAt.EqAt.same _
   · exact SeqAt.EqAt.of_refs e (rc _ _ as bs hx hy A s pins σ _ _ I hu rfl rfl).1
 · rintro x as bs ⟨a, xs, rfl, hx, pa⟩ ⟨b, ys, e, hy, pb⟩ ⟨pins, σ, s, I⟩
   cases e
   have : xs = ys := I.list_inj hx hy
   subst this
   exact jX h ⟨pins, σ, s, I⟩ pa pb
def bE7 (X : Cx) : R2 := fun x y H Q => ∃ b, RcD X H 20 x y b ∧ Q (.bl b) H
def bE5 (X : Cx) : R2 := fun x y H Q => ∃ b, RcD X H 20 x y b ∧ Q (.bl (!b)) H
theorem aL9 (hu : X.A.units + 20 < cLine) : OpR X (compareOp .Eq) (bE7 X) := by
 intro pins s σ H x y v u Q I rx ry h
 obtain ⟨b, hb, q⟩ := h
 exact (hb X.A s pins σ v u I hu rx ry).1 X.prog X.w X.xe _ ⟨.bl b, H, I, rfl, q⟩
theorem nR (hu : X.A.units + 20 < cLine) : OpR X (compareOp .NotEq) (bE5 X) := by
 intro pins s σ H x y v u Q I rx ry h
 obtain ⟨b, hb, q⟩ := h
 exact (hb X.A s pins σ v u I hu rx ry).2 X.prog X.w X.xe _ ⟨.bl (!b), H, I, rfl, q⟩
open Classical in
open Classical in
end
end L2
namespace L2
open PySem PySem.Spec PyProof.Rows
section
variable {X : Cx} {pins : List (Addr × Obj)} {σ : St} {H : Hp} {s : Shared} {h' : Heap}
theorem Inv.turnedL {t' : Nat} {ch : List Addr} (I : Inv X pins σ H s) (k : ∀ b o, b ∉ ch → s.heap.get? b = some o → h'.get? b = some o) (hf : ∀ b ∈ ch, uN X pins H b) : Inv X pins σ H { s with heap := h', toks := t' } := by
 have nit : ∀ b u, H b = some u → b ∉ ch := fun b u e z => by rw [(hf b z).1] at e; cases e
 refine I.step (g' := s.gens) (d' := s.drawn) (ch := ch) (fun b hb => ?_) (fun b o _ _ hc e _ => k b o hc e) (fun b o _ _ hc e _ => ⟨o.slots, k b o hc e⟩) (fun _ _ _ _ n => n)
   (fun b o hc e => ⟨o, k b o hc e⟩) (fun _ _ e => e) (fun _ _ _ e => e) (fun b ps e => ⟨#[], by rw [e]; simp⟩) (fun m hm => ?_) (fun b u e => ?_) I.bare
 · obtain ⟨_, a2, _, a4, a5, a6⟩ := hf b hb
   exact ⟨a4, a2, a5, a6⟩
 · obtain ⟨o, es, ep, ho, r⟩ := hm
   exact ⟨o, es, ep, k _ o (fun z => (hf _ z).2.1 rfl) ho, r⟩
 · refine (I.hok b u e).stay (fun c v hc q => k c v ?_ q) (fun _ q => q) fun _ _ q => q
   rcases hc with z | z
   · rw [z]; exact nit b u e
   · exact nit c _ z
theorem Inv.track {a : Addr} {o : HO} {t' : Nat} (I : Inv X pins σ H s) (hf : uN X pins H a) (new : bN X.prog X.w (upd H a o) s.heap a o) : Inv X pins σ (upd H a o) { s with toks := t' } := by
 have hn := hf.1
 refine I.step (h' := s.heap) (g' := s.gens) (d' := s.drawn) (ch := [a]) (fun b hb => ?_) (fun b o _ _ _ e _ => e) (fun b o _ _ _ e _ => ⟨o.slots, e⟩) (fun b ob hc e n => ?_)
   (fun b o _ e => ⟨o, e⟩) (fun b xs e => by rw [aI (aJ e hn)]; exact e) (fun b ob u e => by rw [aI (aJ e hn)]; exact e) (fun b ps e => ⟨#[], by rw [aI (aJ e hn), e]; simp⟩) (fun m hm => hm) (I.hok.track hn new) I.bare
 · have e : b = a := by simpa using hb
   subst e
   obtain ⟨_, a2, _, a4, a5, a6⟩ := hf
   exact ⟨a4, a2, a5, a6⟩
 · rw [aI (fun z => hc (by simp [z]))]; exact n
end
def Itz (K : W.Frag) (l1 l2 : Addr) : It :=
 ⟨fun i H => ∃ xs ys x y, SqL K H l1 xs ∧ SqL K H l2 ys ∧ xs[i]? = some x ∧ ys[i]? = some y,
  fun i H v H' => ∃ T x y, v = .ref T ∧ H T = none ∧ H' = upd H T (.tup [x, y]) ∧ (∀ xs, SqL K H l1 xs → xs[i]? = some x) ∧ (∀ ys, SqL K H l2 ys → ys[i]? = some y),
  fun i H => ∃ xs ys, SqL K H l1 xs ∧ SqL K H l2 ys ∧ (xs.length ≤ i ∨ ys.length ≤ i)⟩
theorem aI7 {P : Program} {w : World} {K : W.Frag} {es : List Expr} {k : Nat} {pos : Pos} {z TI TO i1 i2 l1 l2 : Addr} (D : ZipApart z TI TO i1 i2 l1 l2) :
   Turn P w K (.Tuple es k pos) (Itz K l1 l2) [z, TI, TO, i1, i2] z (fun i h => IsZip h z TI TO .none ∧ IsPair h TI (.ref i1) (.ref i2) ∧ (∃ a b, IsPair h TO a b) ∧ h.IsListIter i1 l1 i ∧ h.IsListIter i2 l2 i) where
 mem := by simp
 obj := fun i h st b hb => by
   obtain ⟨hz, hTI, ⟨a', b', hTO⟩, ⟨o1, e1, c1, d1⟩, ⟨o2, e2, c2, d2⟩⟩ := st
   simp only [List.mem_cons, List.not_mem_nil, or_false] at hb
   rcases hb with rfl | rfl | rfl | rfl | rfl
   · exact ⟨_, hz, fun v z => nomatch z⟩
   · exact ⟨_, hTI, fun v z => nomatch z⟩
   · exact ⟨_, hTO, fun v z => nomatch z⟩
   · exact ⟨o1, e1, fun v z => by rw [d1] at z; cases z⟩
   · exact ⟨o2, e2, fun v z => by rw [d2] at z; cases z⟩
 keep := fun i h h' st kk => by
   obtain ⟨hz, hTI, ⟨a', b', hTO⟩, h1, h2⟩ := st
   exact ⟨kk z (by simp) _ hz, kk TI (by simp) _ hTI, ⟨a', b', kk TO (by simp) _ hTO⟩, h1.at fun o e => kk i1 (by simp) o e, h2.at fun o e => kk i2 (by simp) o e⟩
 item := by
   intro X hP hw hK hc i pins s σ H E I hf st hg
   subst hP hw hK
   obtain ⟨xs, ys, x, y, hq1, hq2, hx, hy⟩ := hg
   obtain ⟨its, rv, p1, _⟩ := I.list hq1
   obtain ⟨jts, rw', p2, _⟩ := I.list hq2
   obtain ⟨u1, hu1, ru1⟩ := rv.get hx
   obtain ⟨u2, hu2, ru2⟩ := rw'.get hy
   obtain ⟨hz, hTI, ⟨a, b, hTO⟩, h1, h2⟩ := st
   refine wpAny_pyNext_zip_item D hz hTI hTO h1 h2 p1.isList p2.isList (x := u1) (y := u2) (by simpa using hu1) (by simpa using hu2) fun h' a1 a2 a3 a4 a5 a6 hk => ?_
   refine ⟨_, rfl, wpAny_letOwnedTupleGo_zip a1 fun h'' hz'' hs'' => ?_⟩
   have hne : ∀ c, c ∈ [z, TI, TO, i1, i2] → s.heap.objs.size ≠ c := fun c hc => by
     have : ∃ o, s.heap.get? c = some o := by
       simp only [List.mem_cons, List.not_mem_nil, or_false] at hc
       obtain ⟨o1, e1, _⟩ := id h1
       obtain ⟨o2, e2, _⟩ := id h2
       rcases hc with rfl | rfl | rfl | rfl | rfl
       · exact ⟨_, hz⟩
       · exact ⟨_, hTI⟩
       · exact ⟨_, hTO⟩
       · exact ⟨_, e1⟩
       · exact ⟨_, e2⟩
     obtain ⟨o, e⟩ := this
     exact Nat.ne_of_gt (Heap.lt_size e)
   have I1 : Inv X pins σ H { s with heap := h'' } := I.turnedL (t' := s.toks) (ch := [z, TI, TO, i1, i2]) (fun c o hc e => hs''.extBut _ _ (fun q => hc (by simp [q])) (hk c o (fun q => hc (by simp [q])) (fun q => hc (by simp [q])) (fun q => hc (by simp [q])) (fun q => hc (by simp [q])) e)) hf
   have hT : h''.get? s.heap.objs.size = some { cls := .type "tuple", data := .seq #[u1, u2] } := hs''.extBut _ _ (hne z (by simp)) a5
   have I2 : Inv X pins σ (upd H s.heap.objs.size (.tup [x, y])) { s with heap := h'' } := I1.track (t' := s.toks) (I.fpOk (Nat.le_refl _) (I.hok.fresh (Nat.le_refl _))) ⟨by show 2 ≤ sizeLine; decide, [u1, u2], .cons ru1 (.cons ru2 .nil), ⟨_, hT, rfl, _, rfl⟩⟩
   refine ⟨.ref s.heap.objs.size, _, I2, rfl, ⟨_, x, y, rfl, I.hok.fresh (Nat.le_refl _), rfl, fun xs' h => by rw [I.list_inj h hq1]; exact hx, fun ys' h => by rw [I.list_inj h hq2]; exact hy⟩, ⟨hz'', hs''.extBut _ _ D.TIz (hk _ _ D.TIz D.TITO D.TIi1 D.TIi2 hTI), ⟨_, _, hs''.extBut _ _ D.TOz a2⟩, a3.extBut hs''.extBut D.i1z, a4.extBut hs''.extBut D.i2z⟩, fun c hc => ?_⟩
   rw [aI (Ne.symm (hne c hc))]
   exact (hf c hc).1
 done := by
   intro X hP hw hK hc i pins s σ H E I hf st hg
   subst hP hw hK
   obtain ⟨xs, ys, hq1, hq2, hx⟩ := hg
   obtain ⟨its, rv, p1, _⟩ := I.list hq1
   obtain ⟨jts, rw', p2, _⟩ := I.list hq2
   obtain ⟨hz, hTI, ⟨a, b, hTO⟩, h1, h2⟩ := st
   have l1 := rv.length
   have l2 := rw'.length
   refine wpAny_pyNext_zip_end (I.ok.hd hc) D hz hTI hTO h1 h2 p1.isList p2.isList ?_ fun h' hk => ⟨rfl, ?_⟩
   · rcases hx with z | z
     · exact .inl (by simp; omega)
     · exact .inr (by simp; omega)
   · exact I.turnedL (t' := s.toks) (ch := [z, TI, TO, i1, i2]) (fun c o hc e => hk c o (fun q => hc (by simp [q])) (fun q => hc (by simp [q])) (fun q => hc (by simp [q])) (fun q => hc (by simp [q])) e) hf
 self := fun _ _ _ _ _ st h => wpAny_pyIter_zip st.1 h
def bF5 (K : W.Frag) (ta : TA) : TI := fun σ H R => ta σ H fun vs H1 => ∃ l1 l2 xs ys, vs = [.ref l1, .ref l2] ∧ SqL K H1 l1 xs ∧ SqL K H1 l2 ys ∧ R (Itz K l1 l2) H1
theorem aL1 {X : Cx} {a b : Expr} {ta : TA} {p pos : Pos} {es : List Expr} {k : Nat} {pt : Pos} (hg : Gl X "zip") (hm : X.mg "zip" = none) (ha : PA X [a, b] ta)
   (hs : starEach [a, b] X.env = [(false, eval a X.env), (false, eval b X.env)] := by rfl) (hs2 : starEach [b] X.env = [(false, eval b X.env)] := by rfl) (hv : bootBuiltins "zip" = some (.type "zip") := by decide +kernel) :
   PI X (.Tuple es k pt) (.Call (.Name "zip" p) [a, b] [] pos) (bF5 X.K ta) := by
 intro pins s σ H R I h
 refine Call_ (lG I hg hm hv (PyProof.Rows.callWith_type1 (thn (ha pos pins s σ H _ I h) fun us s1 ⟨vs, H1, I1, r1, q1⟩ => ?_) (by rw [hs, hs2]) (by rw [hs2]; rfl)))
 obtain ⟨l1, l2, xs, ys, e, hq1, hq2, q⟩ := q1
 subst e
 cases r1 with
 | cons r rr =>
   cases rr with
   | cons r' rr =>
     cases rr
     cases r
     cases r'
     obtain ⟨its, rv, p1, _⟩ := I1.list hq1
     obtain ⟨jts, rw', p2, _⟩ := I1.list hq2
     have lt1 : l1 < s1.heap.objs.size := by obtain ⟨o, n, e, _⟩ := p1; exact Heap.lt_size e
     have lt2 : l2 < s1.heap.objs.size := by obtain ⟨o, n, e, _⟩ := p2; exact Heap.lt_size e
     refine call_zip_2 p1.isList p2.isList fun h' hz hTI hTO hi1 hi2 hsz hk => wpAny_pyIter_zip hz ?_
     refine ⟨_, [_, _, _, _, _], _, Itz X.K l1 l2, H1, rfl, I1.kept (t' := s1.toks) hk, aI7 (zipApart_new lt1 lt2), ⟨hz, hTI, ⟨_, _, hTO⟩, hi1, hi2⟩, fun b hb => ?_, q⟩
     have hb' : s1.heap.objs.size ≤ b := by
       simp only [List.mem_cons, List.not_mem_nil, or_false] at hb
       rcases hb with rfl | rfl | rfl | rfl | rfl <;> omega
     exact I1.fpOk hb' (I1.hok.fresh hb')
theorem aD7 {K : W.Frag} {l1 l2 : Addr} {xs ys : List V} {g : TG} {tb : TS} {D : Ends} {σ : St} {H : Hp} (hlen : xs.length = ys.length) (Pv : Nat → St → Hp → Prop) (h0 : Pv 0 σ H) (hl : ∀ i σ H, i ≤ xs.length → Pv i σ H → SqL K H l1 xs ∧ SqL K H l2 ys)
   (hs : ∀ i x y T σ H, xs[i]? = some x → ys[i]? = some y → H T = none → Pv i σ H → g (.ref T) σ (upd H T (.tup [x, y])) fun σ2 H2 => tb { D with nx := Pv (i + 1), ct := Pv (i + 1), bk := D.nx } σ2 H2) (hd : ∀ σ H, Pv xs.length σ H → D.nx σ H) :
   ∃ W : Nat → Nat → St → Hp → Prop, (∃ m, W 0 m σ H) ∧ ∀ i m σ H, W i m σ H →
     ((Itz K l1 l2).stop i H ∧ D.nx σ H) ∨ ((Itz K l1 l2).go i H ∧ ∃ N : St → Hp → Prop, (∀ σ' H', N σ' H' → ∃ m', m' < m ∧ W (i + 1) m' σ' H') ∧ ∀ x H', (Itz K l1 l2).yld i H x H' → g x σ H' fun σ2 H2 => tb { D with nx := N, ct := N, bk := D.nx } σ2 H2) := by
 refine ⟨fun i m σ H => m = xs.length - i ∧ i ≤ xs.length ∧ Pv i σ H, ⟨xs.length, by simp, Nat.zero_le _, h0⟩, ?_⟩
 rintro i m σ H ⟨rfl, hi, p⟩
 obtain ⟨q1, q2⟩ := hl i σ H hi p
 by_cases hlt : i < xs.length
 · refine .inr ⟨⟨xs, ys, xs[i], ys[i], q1, q2, by simp [hlt], by simp [← hlen, hlt]⟩, Pv (i + 1), fun σ' H' p' => ⟨xs.length - (i + 1), by omega, rfl, hlt, p'⟩, fun x H' y => ?_⟩
   obtain ⟨T, a, b, e1, hn, e2, ya, yb⟩ := y
   subst e1 e2
   exact hs i a b T σ _ (ya xs q1) (yb ys q2) hn p
 · have e : i = xs.length := by omega
   subst e
   exact .inl ⟨⟨xs, ys, q1, q2, .inl (Nat.le_refl _)⟩, hd σ H p⟩
theorem aN8 {lo : Int} {n : Nat} {cap : St} {tt : TT} {te : TE} {H : Hp} {P : List V → Hp → Prop} (Pv : Nat → List V → Hp → Prop) (h0 : Pv 0 [] H) (hn : n < sizeLine) (hb : ∀ i ys H, Pv i ys H → ys.length ≤ i)
   (hs : ∀ i ys H, i < n → Pv i ys H → tt (some (.int (lo + i)) :: cap) H fun b H3 => if b = true then te (some (.int (lo + i)) :: cap) H3 fun v H4 => Pv (i + 1) (ys ++ [v]) H4 else Pv (i + 1) ys H3) (hd : ∀ ys H, Pv n ys H → P ys H) :
   tG (Itr lo n) cap tt te H P := by
 refine ⟨fun i m ys H => m = n - i ∧ i ≤ n ∧ Pv i ys H, ⟨n, by simp, Nat.zero_le _, h0⟩, ?_⟩
 rintro i m ys H ⟨rfl, hi, p⟩
 have hl := hb i ys H p
 by_cases hlt : i < n
 · refine .inr ⟨hlt, by omega, Pv (i + 1), fun σ' H' p' => ⟨n - (i + 1), by omega, rfl, hlt, p'⟩, fun x H' y => ?_⟩
   obtain ⟨e, y⟩ := y
   subst e y
   exact hs i ys _ hlt p
 · have e : i = n := by omega
   subst e
   exact .inl ⟨Nat.le_refl _, by omega, hd ys H p⟩
theorem aY3 {K : W.Frag} {a : Addr} {xs : List V} {cap : St} {tt : TT} {te : TE} {H : Hp} {P : List V → Hp → Prop} (Pv : Nat → List V → Hp → Prop) (h0 : Pv 0 [] H) (hn : xs.length < sizeLine) (hb : ∀ i ys H, Pv i ys H → ys.length ≤ i) (hl : ∀ i ys H, i ≤ xs.length → Pv i ys H → SqT K H a xs)
   (hs : ∀ i x ys H, xs[i]? = some x → Pv i ys H → tt (some x :: cap) H fun b H3 => if b = true then te (some x :: cap) H3 fun v H4 => Pv (i + 1) (ys ++ [v]) H4 else Pv (i + 1) ys H3) (hd : ∀ ys H, Pv xs.length ys H → P ys H) :
   tG (Itt K a) cap tt te H P := by
 refine ⟨fun i m ys H => m = xs.length - i ∧ i ≤ xs.length ∧ Pv i ys H, ⟨xs.length, by simp, Nat.zero_le _, h0⟩, ?_⟩
 rintro i m ys H ⟨rfl, hi, p⟩
 have hyl := hb i ys H p
 have q := hl i ys H hi p
 by_cases hlt : i < xs.length
 · refine .inr ⟨⟨xs, xs[i], q, by simp [hlt]⟩, by omega, Pv (i + 1), fun σ' H' p' => ⟨xs.length - (i + 1), by omega, rfl, hlt, p'⟩, fun x H' y => ?_⟩
   obtain ⟨e, y⟩ := y
   subst e
   exact hs i x ys _ (y xs q) p
 · have e : i = xs.length := by omega
   subst e
   exact .inl ⟨⟨xs, q, Nat.le_refl _⟩, by omega, hd ys H p⟩
section
variable (P : Program) (w : World) (K : W.Frag) (mg : Str → Option Value) (base : Heap) (k : Nat)
def FnB (x : Str) (ps : List Str) (sp : Sp) : Prop := ∃ f fd, FnOk P w K mg base CX0 k f fd ps sp ∧ mg x = some (.ref f) ∧ W.keepIn K (.ref f) = true ∧ Binds K fd ps []
def MeB (C : Addr) (m : Str) (ps : List Str) (sp : Sp) : Prop := ∃ f fd, FnOk P w K mg base CX0 k f fd ps sp ∧ Meth K C m f ∧ Binds K fd ps [] ∧ Cls K C
def MkB (x : Str) (C : Addr) (ps : List Str) (sp : Sp) : Prop := ∃ f fd, FnOk P w K mg base CX0 k f fd ps sp ∧ mg x = some (.ref C) ∧ Mk K C f ∧ Binds K fd ps []
end
section
variable {X : Cx} {k : Nat} {x m : Str} {C : Addr} {ps : List Str} {sp : Sp} {p pos apos : Pos} {e o : Expr} {es : List Expr} {ta : TE} {t : TA}
theorem aU (F : FnB X.prog X.w X.K X.mg X.base k x ps sp) (hr : Room k X.A) (ha : PA X (e :: es) t) (hg : Gl X x := by rfl) (hdb : (x == ("__debug__" : Str)) = false := by decide) (he : starEach (e :: es) X.env = (false, eval e X.env) :: starEach es X.env := by rfl) (hpl : (backTo pos (starEach es X.env)).any (·.1) = false := by rfl) :
   PE X (.Call (.Name x p) (e :: es) [] pos) (uR sp [] E0 t) := by
 obtain ⟨f, fd, F, hm, hk, hb⟩ := F
 exact aC1 F hr hg hm hk hb .nil vA ha hdb he hpl
theorem aX5 (F : FnB X.prog X.w X.K X.mg X.base k x ps sp) (hr : Room k X.A) (hg : Gl X x := by rfl) (hdb : (x == ("__debug__" : Str)) = false := by decide) : PE X (.Call (.Name x p) [] [] pos) (uR sp [] E0 xL) := by
 obtain ⟨f, fd, F, hm, hk, hb⟩ := F
 exact aL7 F hr hg hm hk hb .nil vA hdb
theorem nE {pl : Sem Bool} (M : MeB X.prog X.w X.K X.mg X.base k C m ps sp) (he : PE X o ta) (hr : Room k X.A) (ha : PA X (e :: es) t)
   (hst : starEach (e :: es) X.env = (false, eval e X.env) :: starEach es X.env := by rfl) (hpl : (backTo pos (starEach es X.env)).any (·.1) = false := by rfl)
   (ht : eval (.Call (.Attribute o m apos) (e :: es) [] pos) X.env = (do
     let ov ← eval o X.env
     standAt apos.atName
     let (f, first) ← holding [ov] (getMethod ov m pl)
     callWith pos f first (backTo pos (starEach (e :: es) X.env)) (backToKw pos (keywordEach [] X.env))) := by rfl) :
   PE X (.Call (.Attribute o m apos) (e :: es) [] pos) (xN C m sp [] E0 ta t) := by
 obtain ⟨f, fd, F, hm, hb, hc⟩ := M
 exact aB8 he hc hm F hr hb .nil vA ha hst hpl ht
theorem jW {pl : Sem Bool} (M : MeB X.prog X.w X.K X.mg X.base k C m ps sp) (he : PE X o ta) (hr : Room k X.A)
   (ht : eval (.Call (.Attribute o m apos) [] [] pos) X.env = (do
     let ov ← eval o X.env
     standAt apos.atName
     let (f, first) ← holding [ov] (getMethod ov m pl)
     callWith pos f first (backTo pos (starEach [] X.env)) (backToKw pos (keywordEach [] X.env))) := by rfl) :
   PE X (.Call (.Attribute o m apos) [] [] pos) (xN C m sp [] E0 ta xL) := by
 obtain ⟨f, fd, F, hm, hb, hc⟩ := M
 exact aL5 he hc hm F hr hb .nil vA ht
theorem bE (M : MkB X.prog X.w X.K X.mg X.base k x C ps sp) (hr : Room (k + 1) X.A) (ha : PA X (e :: es) t) (hg : Gl X x := by rfl) (hdb : (x == ("__debug__" : Str)) = false := by decide) (he : starEach (e :: es) X.env = (false, eval e X.env) :: starEach es X.env := by rfl) (hpl : (backTo pos (starEach es X.env)).any (·.1) = false := by rfl) :
   PE X (.Call (.Name x p) (e :: es) [] pos) (aJ0 C sp [] E0 t) := by
 obtain ⟨f, fd, F, hm, hM, hb⟩ := M
 exact aB9 hM F hr hg hm hb .nil vA ha hdb he hpl
end
theorem Room.u20 {k : Nat} {A : Around} (r : Room k A) : A.units + 20 < cLine := by have := r.un; omega
theorem Same.new {H : Hp} {a : Addr} {o : HO} (h : H a = none) : Same H (upd H a o) := fun b u e => by rw [aI (aJ e h)]; exact e
theorem Same.lay {H H' : Hp} {a : Addr} {o : HO} (s : Same H H') (h : H' a = none) : Same H (upd H' a o) := s.trans (Same.new h)
theorem Same.put {H H' : Hp} {a : Addr} {o : HO} (s : Same H H') (h : H a = none) : Same H (upd H' a o) := fun b u e => by rw [aI (aJ e h)]; exact s b u e
def bC2 : R2 := fun x y H Q => ∃ a b xs ys, x = .ref a ∧ y = .ref b ∧ H a = some (.tup xs) ∧ H b = some (.tup ys) ∧ xs.length + ys.length ≤ sizeLine ∧ ∀ p H', Same H H' → H' p = some (.tup (xs ++ ys)) → Q (.ref p) H'
theorem aS5 {X : Cx} : OpR X (binaryOp .Add) bC2 := by
 intro pins s σ H x y v u Q I rx ry h
 obtain ⟨a, b, xs, ys, rfl, rfl, ha, hb, hz, q⟩ := h
 by_cases hx : xs = []
 · subst hx
   cases rx
   cases ry
   obtain ⟨its, r1, p1, _⟩ := I.tuple (SqT.of (K := X.K) ha)
   obtain ⟨its2, r2, p2, _⟩ := I.tuple (SqT.of (K := X.K) hb)
   cases r1
   obtain ⟨⟨cls, dd, data, sl⟩, ho, hc, n, hd⟩ := id p1
   obtain ⟨⟨cls2, dd2, data2, sl2⟩, ho2, hc2, n2, hd2⟩ := id p2
   simp only at hc hd hc2 hd2
   subst hc hd hc2 hd2
   refine concat_meets ⟨_, ho, rfl⟩ ⟨_, ho2, rfl⟩ noFill_tuple_add seq_tuple_add PySem.F.slot_tuple_add PySem.F.entry_tuple_add (PySem.F.args_tuple_add_2 _ _)
     (tuple_addW0 a b _ _ n n2 dd dd2 sl sl2 (by simp)) ⟨ho, ho2, ⟨.ref b, H, I, rfl, q b H (Same.refl _) (by simpa using hb)⟩⟩
 · refine aS6 pins s σ H (.ref a) (.ref b) v u Q I rx ry ⟨a, b, xs, ys, rfl, rfl, SqT.of ha, SqT.of hb, hx, hz, fun e => ?_, fun e p hp => ?_⟩
   · subst e
     exact q a H (Same.refl _) (by simpa using ha)
   · exact q p _ (Same.new hp) aD
end L2
namespace L2
open PySem PySem.Spec PyProof.Rows
section
variable {X : Cx} {k : Nat} {x m : Str} {ps : List Str} {sp : Sp} {p pos apos : Pos} {e o : Expr} {es : List Expr} {ta : TE} {t : TA}
def aW4 (S : Addr → Prop) (m : Str) (sp : Sp) (ta : TE) (t : TA) : TE := fun σ H Q => ta σ H fun x H1 => ∃ C a dx fs, S C ∧ x = .ref a ∧ H1 a = some (.ins C dx fs) ∧ fs.lookup m = none ∧
 t σ H1 fun vs H2 => sp (x :: (vs ++ [])) H2 Q E0
theorem aX3 {pl : Sem Bool} {S : Addr → Prop} (M : ∀ C, S C → MeB X.prog X.w X.K X.mg X.base k C m ps sp) (he : PE X o ta) (hr : Room k X.A) (ha : PA X (e :: es) t)
   (hst : starEach (e :: es) X.env = (false, eval e X.env) :: starEach es X.env := by rfl) (hpl : (backTo pos (starEach es X.env)).any (·.1) = false := by rfl)
   (ht : eval (.Call (.Attribute o m apos) (e :: es) [] pos) X.env = (do
     let ov ← eval o X.env
     standAt apos.atName
     let (f, first) ← holding [ov] (getMethod ov m pl)
     callWith pos f first (backTo pos (starEach (e :: es) X.env)) (backToKw pos (keywordEach [] X.env))) := by rfl) :
   PE X (.Call (.Attribute o m apos) (e :: es) [] pos) (aW4 S m sp ta t) := by
 intro pins s σ H Q I h
 refine W.methodCall_KW (pl := pl) (thn (he pins s σ H _ I h) fun u s1 ⟨x, H1, I1, rx, C, a, dx, fs, hS, ex, ea, l, q⟩ => ?_) ht
 subst ex
 obtain rfl : u = Value.ref a := rx
 obtain ⟨f, fd, F, hm, hb, c⟩ := M C hS
 refine lI I1 ea c hm l ?_
 refine W.callWith_K (first := [.ref a]) (h₀ := X.base) I.ok.mod.kin hm.kp (thn (ha pos pins s1 σ H1 _ I1 q) fun us s2 ⟨vs, H2, I2, r, q2⟩ => ⟨I2.kIn, ?_⟩) hst hpl
 exact pN (us := .ref a :: us) (vs := .ref a :: vs) F hr hb .nil vA I2 (.cons rfl r) q2
end
theorem uO : ∀ {ss : List Str} {us : List Value}, Vals (ss.map V.str) us → StrsAre us ss
 | [], us, r => by cases r; exact .nil
 | x :: ss, us, r => by
   cases r with
   | cons r rr =>
     obtain ⟨t, rfl⟩ := r
     exact .cons _ _ (uO rr)
section
variable {X : Cx}
def aU7 (K : W.Frag) : V → List V → Hp → VK → Prop := fun x vs H Q => ∃ sep l ss, x = .str sep ∧ vs = [.ref l] ∧ SqL K H l (ss.map V.str) ∧ (ss.map (·.length)).sum + ss.length * sep.length ≤ 16777216 ∧ Q (.str (Txt.join sep ss)) H
theorem aT4 : MtR X "str.join" (aU7 X.K) := by
 intro pins s σ H x vs v us Q I rx rv h
 obtain ⟨sep, l, ss, rfl, rfl, hl, hz, q⟩ := h
 obtain ⟨t, rfl⟩ := rx
 obtain ⟨u, rfl, ru⟩ := rv.one
 cases ru
 obtain ⟨its, r, pl, _⟩ := I.list hl
 exact join_list pl.isList (by simpa using uO r) hz fun t' k => ⟨.str _, H, I.tok k, ⟨t', rfl⟩, q⟩
open Builtin Builtin.Str in
end
theorem lJ {n : Nat} {g : TG} {tb : TS} {D : Ends} {σ : St} {H : Hp} (Pv : Nat → St → Hp → Prop) (h0 : Pv 0 σ H)
   (hs : ∀ (i : Nat) σ H, i < n → Pv i σ H → g (.int (i : Int)) σ H fun σ2 H2 => tb { D with nx := Pv (i + 1), ct := Pv (i + 1), bk := D.nx } σ2 H2) (hd : ∀ σ H, Pv n σ H → D.nx σ H) :
   ∃ W : Nat → Nat → St → Hp → Prop, (∃ m, W 0 m σ H) ∧ ∀ i m σ H, W i m σ H →
     ((Itr 0 n).stop i H ∧ D.nx σ H) ∨ ((Itr 0 n).go i H ∧ ∃ N : St → Hp → Prop, (∀ σ' H', N σ' H' → ∃ m', m' < m ∧ W (i + 1) m' σ' H') ∧ ∀ x H', (Itr 0 n).yld i H x H' → g x σ H' fun σ2 H2 => tb { D with nx := N, ct := N, bk := D.nx } σ2 H2) :=
 aH7 (lo := 0) (n := n) Pv h0 (fun i σ H hi p => by rw [Int.zero_add]; exact hs i σ H hi p) hd
theorem vH {n : Nat} {cap : St} {tt : TT} {te : TE} {H : Hp} {P : List V → Hp → Prop} (Pv : Nat → List V → Hp → Prop) (h0 : Pv 0 [] H) (hn : n < sizeLine) (hb : ∀ i ys H, Pv i ys H → ys.length ≤ i)
   (hs : ∀ (i : Nat) ys H, i < n → Pv i ys H → tt (some (.int (i : Int)) :: cap) H fun b H3 => if b = true then te (some (.int (i : Int)) :: cap) H3 fun v H4 => Pv (i + 1) (ys ++ [v]) H4 else Pv (i + 1) ys H3) (hd : ∀ ys H, Pv n ys H → P ys H) :
   tG (Itr 0 n) cap tt te H P := aN8 (lo := 0) (n := n) Pv h0 hn hb (fun i ys H hi p => by rw [Int.zero_add]; exact hs i ys H hi p) hd
theorem aE9 {n : Nat} (h : n ≤ 3000) : n < sizeLine := Nat.lt_of_le_of_lt h (by decide)
section
variable {X : Cx} {a e : Expr} {ta te : TE} {apos cpos : Pos}
theorem mJ (ha : PE X a ta) (he : PE X e te) (hbase : attributeBase a "append" X.env (eval a X.env) = eval a X.env := by rfl)
   (hfew : ((backTo cpos (starEach [e] X.env)).all (fun x => !x.1) && (backToKw cpos (keywordEach [] X.env)).all (fun x => x.1.isSome)
     && decide (([e] : List Expr).length + ([] : List Keyword).length + (if ([] : List Keyword).isEmpty then 0 else 1) < 30)) = true := by rfl)
   (hline : (apos.endLine == cpos.line) = true := by rfl) (hs : starEach [e] X.env = (false, eval e X.env) :: starEach [] X.env := by rfl) (hplain : (backTo cpos (starEach [] X.env)).any (·.1) = false := by rfl) :
   PE X (.Call (.Attribute a "append" apos) [e] [] cpos) (tBM X.K "list" aB6 ta (aB2 te xL)) :=
 aL8 PySem.F.plainAttrs_list PySem.F.slot_list_append PySem.F.type_list_append aG5 ha (aA he aB hs) hbase hfew hline hs hplain
theorem uZ (ha : PE X a ta) (he : PE X e te) (hbase : attributeBase a "extend" X.env (eval a X.env) = eval a X.env := by rfl)
   (hfew : ((backTo cpos (starEach [e] X.env)).all (fun x => !x.1) && (backToKw cpos (keywordEach [] X.env)).all (fun x => x.1.isSome)
     && decide (([e] : List Expr).length + ([] : List Keyword).length + (if ([] : List Keyword).isEmpty then 0 else 1) < 30)) = true := by rfl)
   (hline : (apos.endLine == cpos.line) = true := by rfl) (hs : starEach [e] X.env = (false, eval e X.env) :: starEach [] X.env := by rfl) (hplain : (backTo cpos (starEach [] X.env)).any (·.1) = false := by rfl) :
   PE X (.Call (.Attribute a "extend" apos) [e] [] cpos) (tBM X.K "list" aB5 ta (aB2 te xL)) :=
 aL8 PySem.F.plainAttrs_list PySem.F.slot_list_extend PySem.F.type_list_extend aG4 ha (aA he aB hs) hbase hfew hline hs hplain
theorem aS4 (ha : PE X a ta) (he : PE X e te) (hbase : attributeBase a "join" X.env (eval a X.env) = eval a X.env := by rfl)
   (hfew : ((backTo cpos (starEach [e] X.env)).all (fun x => !x.1) && (backToKw cpos (keywordEach [] X.env)).all (fun x => x.1.isSome)
     && decide (([e] : List Expr).length + ([] : List Keyword).length + (if ([] : List Keyword).isEmpty then 0 else 1) < 30)) = true := by rfl)
   (hline : (apos.endLine == cpos.line) = true := by rfl) (hs : starEach [e] X.env = (false, eval e X.env) :: starEach [] X.env := by rfl) (hplain : (backTo cpos (starEach [] X.env)).any (·.1) = false := by rfl) :
   PE X (.Call (.Attribute a "join" apos) [e] [] cpos) (tBM X.K "str" (aU7 X.K) ta (aB2 te xL)) :=
 aL8 PySem.F.plainAttrs_str PySem.F.slot_str_join PySem.F.type_str_join aT4 ha (aA he aB hs) hbase hfew hline hs hplain
end
end L2
namespace L2
open PySem PySem.Spec PyProof.Rows
section
variable {X : Cx}
theorem kF : kX X (.type "range") (fun xs H Q => ∃ j : Int, xs = [.int j] ∧ ∀ p, H p = none → Q (.ref p) (upd H p (.rng 0 j))) := by
 intro pins s σ H xs us Q I r h
 obtain ⟨j, rfl, q⟩ := h
 obtain ⟨u, rfl, t, rfl⟩ := qY r
 refine call_range_1 ⟨.ref s.heap.objs.size, _, I.laid (o := .rng 0 j) (fun b o e => Heap.get?_push_of_some _ e) (Nat.le_refl _) ⟨_, _, _, Heap.get?_push_size _ rfl⟩, rfl, q _ I.fresh⟩
theorem zB {F : Nat → Int} : ∀ (l : List Value) (n : Nat), l.length = n → (∀ i v, l[i]? = some v → ∃ t, v = Value.int (F i) t) → Vals ((List.range n).map fun k => V.int (F k)) l := by
 intro l n hl h
 have : ∀ (l : List Value) (k n : Nat), l.length = n → (∀ i v, l[i]? = some v → ∃ t, v = Value.int (F (k + i)) t) → Vals ((List.range' k n).map fun k => V.int (F k)) l := by
   intro l
   induction l with
   | nil => intro k n hl _; subst hl; exact .nil
   | cons a l ih =>
     intro k n hl h
     cases n with
     | zero => cases hl
     | succ n =>
       rw [List.range'_succ, List.map_cons]
       refine .cons ?_ (ih (k + 1) n (by simpa using hl) fun i v e => ?_)
       · exact h 0 a rfl
       · have := h (i + 1) v (by simpa using e)
         rw [Nat.add_assoc, Nat.add_comm 1 i]
         exact this
 rw [List.range_eq_range']
 exact this l 0 n hl fun i v e => by rw [Nat.zero_add]; exact h i v e
theorem iV (hc : X.calm = true) : kX X (.type "list") (fun xs H Q => ∃ p hi, xs = [.ref p] ∧ H p = some (.rng 0 hi) ∧ -(2 ^ 62) ≤ hi ∧ hi ≤ 16777216 ∧ ∀ l, H l = none → Q (.ref l) (upd H l (.lst ((List.range hi.toNat).map fun (k : Nat) => V.int (k : Int))))) := by
 intro pins s σ H xs us Q I r h
 obtain ⟨p, hi, rfl, hp, h1, h2, q⟩ := h
 obtain ⟨u, rfl, ru⟩ := qY r
 cases ru
 obtain ⟨t, u, v, e⟩ := (show bN X.prog X.w H s.heap p (.rng 0 hi) from I.hok p _ hp)
 have e2 : Builtin.Range.rangeSize 0 hi 1 = ((hi.toNat : Nat) : Int) := by rw [rangeSize_one]; split <;> omega
 refine call_list_range (I.ok.hd hc) e (small_one (by decide) (by decide) h1 (by omega)) e2 (by omega) fun h' tk acc' c' hk hS hacc => ?_
 refine ⟨.ref s.heap.objs.size, _, I.laid (t' := tk) (o := .lst ((List.range hi.toNat).map fun (k : Nat) => V.int (k : Int))) hk (Nat.le_refl _) ⟨?_, acc'.toList, c', ?_, ?_⟩, rfl, q _ I.fresh⟩
 · rw [List.length_map, List.length_range]; show _ ≤ 2 ^ 24; omega
 · refine zB (F := fun k => (k : Int)) acc'.toList _ (by simpa using hacc.1) fun i v e => ?_
   obtain ⟨t', rfl⟩ := hacc.2 i v (by simpa using e)
   exact ⟨t', by simp⟩
 · simpa using hS
end
end L2
namespace L2
open PySem PySem.Spec PyProof.Rows
section
variable {X : Cx}
end
section
variable {X : Cx} {K : W.Frag}
theorem aO6 (K : W.Frag) (hK : X.K = K := by rfl) : IxR X (bC1 K) := by subst hK; exact dA
end
end L2
namespace L2
open PySem PySem.Spec PyProof.Rows
def Cx.catch (X : Cx) (E : Value → Shared → Prop) : Cx := { X with xe := E }
section
variable {X : Cx}
theorem Inv.catch {E : Value → Shared → Prop} {pins : List (Addr × Obj)} {σ : St} {H : Hp} {s : Shared} (I : Inv X pins σ H s) : Inv (X.catch E) pins σ H s :=
 ⟨⟨I.ok.mod, I.ok.kind, I.ok.glob, I.ok.blt, I.ok.above, I.ok.inj, I.ok.has, I.ok.cab, I.ok.hd, I.ok.frames, I.ok.stk, I.ok.exf, I.ok.bs, I.ok.bsz, I.ok.noex, I.ok.exfs, I.ok.funs, I.ok.frf⟩, I.os, I.bare, I.base, I.loc, I.cell, I.free, I.freeC, I.pin, I.hok, I.len⟩
theorem Inv.uncatch {E : Value → Shared → Prop} {pins : List (Addr × Obj)} {σ : St} {H : Hp} {s : Shared} (I : Inv (X.catch E) pins σ H s) : Inv X pins σ H s :=
 ⟨⟨I.ok.mod, I.ok.kind, I.ok.glob, I.ok.blt, I.ok.above, I.ok.inj, I.ok.has, I.ok.cab, I.ok.hd, I.ok.frames, I.ok.stk, I.ok.exf, I.ok.bs, I.ok.bsz, I.ok.noex, I.ok.exfs, I.ok.funs, I.ok.frf⟩, I.os, I.bare, I.base, I.loc, I.cell, I.free, I.freeC, I.pin, I.hok, I.len⟩
theorem SP.uncatch {E : Value → Shared → Prop} {pins : List (Addr × Obj)} {D : Ends} {f : Flow} {s : Shared} (h : SP (X.catch E) pins D f s) : SP X pins D f s := by
 cases f with
 | next => obtain ⟨σ, H, I, q⟩ := h; exact ⟨σ, H, I.uncatch, q⟩
 | brk => obtain ⟨σ, H, I, q⟩ := h; exact ⟨σ, H, I.uncatch, q⟩
 | cont => obtain ⟨σ, H, I, q⟩ := h; exact ⟨σ, H, I.uncatch, q⟩
 | ret u => obtain ⟨v, σ, H, I, r, q⟩ := h; exact ⟨v, σ, H, I.uncatch, r, q⟩
theorem aW9 {body : List Stmt} {h₀ : ExceptHandler} {hs : List ExceptHandler} {pos : Pos} {t : TS} (hb : ∀ E, PSs (X.catch E) body t) : PS X (.Try body (h₀ :: hs) [] [] pos) t := by
 intro pins s σ H D I h
 refine wpAny_Try_except (wpAny_mono (hb (fun e s₁ => wpAny (model X.prog X.w) X.A (noteFrame e X.env) (fun _ s₂ => wpAny (model X.prog X.w) X.A (setFlight e none) (fun _ s₃ => wpAny (model X.prog X.w) X.A (handleBy e X.env (h₀ :: hs)) (SP X pins D) X.xe s₃) X.xe s₂) X.xe s₁) pins s σ H D I.catch h) (fun f s1 q => ?_) fun _ _ e => e)
 have q' := SP.uncatch q
 cases f with
 | next => exact wpAny_execs_nil q'
 | brk => exact q'
 | cont => exact q'
 | ret u => exact q'
def bE4 (K : W.Frag) : List V → Hp → VK → Prop := fun xs H Q => ∃ (l : Addr) (ns : List Int), xs = [.ref l] ∧ SqL K H l (ns.map V.int) ∧ Q (.int ns.sum) H
theorem aQ7 (hc : X.calm = true) : kX X (.builtin "sum") (bE4 X.K) := by
 intro pins s σ H xs us Q I r h
 obtain ⟨l, ns, rfl, hl, q⟩ := h
 obtain ⟨u, rfl, ru⟩ := qY r
 cases ru
 obtain ⟨its, rv, pl, _⟩ := I.list hl
 have hi := nW rv
 obtain ⟨xs, hx⟩ := hi.allInts.items
 have hl' : s.heap.IsList l (intItems xs) := hx ▸ pl.isList
 refine sum_intListG (I.ok.hd hc) hl' fun h' tk t' hk => ?_
 have e1 : ns = xs.toList.map (·.1) := by
   rw [← nums_intItems, ← hx]
   exact (show numsOf its.toArray.toList = ns from hi.numsOf).symm
 have e2 : preSum (numAt xs) xs.size = ns.sum := by
   rw [preSum_eq, List.take_of_length_le (by simp), e1]
 rw [e2]
 exact ⟨.int _, H, I.kept (t' := tk) hk, ⟨t', rfl⟩, q⟩
theorem sV : ∀ (ns acc : List Int), (acc ++ ns).Nodup → ns.foldl step_dedup acc = acc ++ ns
 | [], acc, _ => by simp
 | n :: ns, acc, h => by
   have hn : ¬ (acc.any (· == n) = true) := by
     intro e
     obtain ⟨x, hx, e2⟩ := List.any_eq_true.mp e
     have : x = n := by simpa using e2
     subst this
     have := (List.nodup_append.mp h).2.2 x hx x List.mem_cons_self
     exact this rfl
   rw [List.foldl_cons]
   have e : step_dedup acc n = acc ++ [n] := by unfold step_dedup; rw [if_neg hn]
   rw [e, sV ns (acc ++ [n]) (by rw [List.append_assoc]; exact h), List.append_assoc]
   rfl
theorem uJ {ns : List Int} (h : ns.Nodup) : (firstMet (fun i => ns.getD i 0) ns.length).length = ns.length := by
 unfold firstMet
 have e : (List.range ns.length).map (fun i => ns.getD i 0) = ns := by
   apply List.ext_getElem?
   intro i
   by_cases hi : i < ns.length
   · simp [hi]
   · simp [hi]
 rw [e, sV ns [] (by simpa using h)]
 simp
def aR6 (K : W.Frag) (te : TE) : TE := fun σ H Q => te σ H fun x H1 => ∃ (l : Addr) (ns : List Int), x = .ref l ∧ SqL K H1 l (ns.map V.int) ∧ ns.Nodup ∧ ns.length < 1000 ∧ Q (.int ns.length) H1
theorem aF3 {e : Expr} {te : TE} {p p' pos pos' : Pos} (hc : X.calm = true) (hg : Gl X "len") (hm : X.mg "len" = none) (hg' : Gl X "set") (hm' : X.mg "set" = none) (he : PE X e te)
   (hs : starEach [e] X.env = (false, eval e X.env) :: starEach [] X.env := by rfl)
   (hs2 : starEach [Expr.Call (.Name "set" p') [e] [] pos'] X.env = (false, eval (.Call (.Name "set" p') [e] [] pos') X.env) :: starEach [] X.env := by rfl)
   (hv : bootBuiltins "set" = some (.type "set") := by decide +kernel) :
   PE X (.Call (.Name "len" p) [.Call (.Name "set" p') [e] [] pos'] [] pos) (aR6 X.K te) := by
 intro pins s σ H Q I h
 refine wpAny_Call_Name_kw (lG I hg hm PySem.boot_len ?_)
 refine PyProof.Rows.callWith_builtin1 ?_ hs2
 rw [hs2]
 show wpAny _ _ (spliced ((false, eval (.Call (.Name "set" p') [e] [] pos') X.env) :: backTo pos (starEach [] X.env))) _ _ s
 refine Calls.spliced_cons (wpAny_Call_Name_kw (lG I hg' hm' hv ?_))
 refine PyProof.Rows.callWith_type1 ?_ hs
 rw [hs]
 show wpAny _ _ (spliced ((false, eval e X.env) :: backTo pos' (starEach [] X.env))) _ _ s
 refine Calls.spliced_cons (thn (he pins s σ H _ I h) fun u s1 ⟨x, H1, I1, r1, l, ns, e1, hl, hnd, hlt, q⟩ => Calls.spliced_nil ?_)
 subst e1
 cases r1
 obtain ⟨its, rv, pl, _⟩ := I1.list hl
 have hi := nW rv
 have hlen := rv.length
 rw [List.length_map] at hlen
 refine PySem.call_set_list (items := its.toArray) (ns := ns) (I1.ok.hd hc) pl.isList (by simpa using hi) (by rw [List.size_toArray]; unfold scanBound; omega) fun h' tk hS hk => ?_
 have I2 : Inv X pins σ H1 { s1 with heap := h', toks := tk } := I1.kept (t' := tk) fun b o e => hk b o (Heap.lt_size e) e
 have hsz : its.toArray.size = ns.length := by rw [List.size_toArray, hlen]
 rw [hsz, uJ hnd] at hS
 obtain ⟨o, es, ep, t, ho, hex, hd, _, _, _, hf, hn⟩ := hS
 refine Calls.spliced_nil ?_
 refine call_len_set ho hex hd hf (by omega) ?_
 rw [hn]
 exact ⟨.int _, H1, I2.tok _, ⟨_, rfl⟩, q⟩
end
end L2
namespace L2
open PySem PySem.Spec PyProof.Rows
section
variable {X : Cx} {st : Stmt} {rest : List Stmt} {t u : TS}
end
end L2
namespace L2
open PySem PySem.Spec PyProof.Rows
section
variable {prog : Program} {w : World} {A : Around} {E : Value → Shared → Prop} {s : Shared} {d it : Addr} {od : Obj} {es : Array DictEntry} {ep i : Nat}
theorem aD9 {Q : Value → Shared → Prop} (nd : (d == sysModules) = false) (hg : s.heap.get? d = some od) (hx : od.ExactDict) (ht : od.data = .dict es ep)
   (q : Q (.ref s.heap.objs.size) { s with heap := s.heap.push { cls := .type "dict_keyiterator", data := .fields #[.ref d, .int 0 0, .int es.size 0, .int ep 0] } }) : wpAny (model prog w) A (pyIter (.ref d)) Q E s := by
 have ty : s.TypeIs (.ref d) "dict" := ⟨od, hg, hx.1⟩
 refine wpAny_pyIter_slot ty F.slot_dict_iter (wpAny_call_entry F.slot_dict_iter ty F.entry_dict_iter ?_ (F.args_dict_iter_1 _))
 unfold Builtin.«dict.__iter__»
 unfold Builtin.Dict.dictSlotNone
 refine wpAny_bind (wpAny_bind (wpAny_notOrdered_dict ty (wpAny_pure ?_)))
 refine (show wpAny _ _ (Builtin.Dict.showsAll d >>= _) _ _ s from ?_)
 unfold Builtin.Dict.showsAll
 rw [if_neg (by rw [nd]; exact Bool.false_ne_true)]
 refine wpAny_bind (wpAny_pure (wpAny_bind (wpAny_dictEntries hg ht (wpAny_bind (wpAny_dictEpoch hg ht ?_)))))
 refine wpAny_bind (wpAny_newObj_type (wpAny_pure ⟨_, rfl, "dict_keyiterator", _, ⟨_, Heap.get?_push_size _ rfl, rfl⟩, F.slot_dict_keyiterator_next.lookup, ?_⟩))
 simpa [rawInt] using q
theorem aE0 {Q : Option Value → Shared → Prop} (st : s.heap.IsKeyIter it d i es.size ep) (hg : s.heap.get? d = some od) (ht : od.data = .dict es ep) (lt : i < es.size)
   (q : ∀ h', h'.IsKeyIter it d (i + 1) es.size ep → Heap.SameBut it s.heap h' → Q (some es[i].key) { s with heap := h' }) : wpAny (model prog w) A (pyNext (.ref it)) Q E s := by
 obtain ⟨o, ho, hc, hf⟩ := id st
 have ty := st.typeIs
 unfold pyNext
 refine wpAny_bind (wpAny_attempt (wpAny_callSpecial?_slot (name := Str.ofString "__next__") ty F.slot_dict_keyiterator_next (wpAny_call_entry F.slot_dict_keyiterator_next ty F.entry_dict_keyiterator_next ?_ (F.args_dict_keyiterator_next_1 _))))
 refine wpAny_bind (wpAny_pure (wpAny_bind (wpAny_bind ?_)))
 first | refine wpAny_bind (wpAny_typeNameOfWhole_keyiter ty (wpAny_pure (wpAny_bind (wpAny_fieldsOf ho hf ?_)))) | refine wpAny_bind (wpAny_typeNameOf_keyiter ty (wpAny_pure (wpAny_bind (wpAny_fieldsOf ho hf ?_))))
 simp only [show Builtin.Dict_items.ownsTuple "dict_keyiterator" = false by decide, Bool.false_eq_true, if_false]
 show wpAny _ _ (if (Value.ref d == Value.none) = true then _ else _) _ _ s
 rw [if_neg (show ¬ ((Value.ref d == Value.none) = true) from Bool.false_ne_true)]
 refine wpAny_bind (wpAny_pure (wpAny_bind (wpAny_dictEntries hg ht ?_)))
 rw [if_neg (by simp)]
 refine wpAny_bind (wpAny_pure (wpAny_bind (wpAny_dictEpoch hg ht ?_)))
 rw [if_neg (by simp)]
 refine wpAny_pure ?_
 simp only [show ¬ ((i : Int) < 0) from by omega, if_false, Int.toNat_natCast, Array.getElem?_eq_getElem lt]
 refine wpAny_bind ?_
 first | refine wpAny_bind (wpAny_typeNameOfWhole_keyiter ty (wpAny_pure (wpAny_bind (wpAny_isOneOf_keyiter ty ?_)))) | refine wpAny_bind (wpAny_typeNameOf_keyiter ty (wpAny_pure (wpAny_bind (wpAny_isOneOf_keyiter ty ?_))))
 show wpAny _ _ (setField (.ref it) 1 (rawInt ((i : Int) + 1)) >>= _) _ _ s
 refine wpAny_bind (wpAny_setField ho hf (by simp) ?_)
 have st' : (s.heap.update it (Obj.mapFields (·.setIfInBounds 1 (rawInt ((i : Int) + 1))))).IsKeyIter it d (i + 1) es.size ep :=
   ⟨_, Heap.get?_update_self _ ho (Obj.isFreed_of_fields (Obj.data_mapFields hf _)), (Obj.cls_mapFields ..).trans hc, by rw [Obj.data_mapFields hf]; simp [rawInt]⟩
 refine wpAny_bind (wpAny_holding (wpAny_bind (wpAny_isOneOf_keyiter (s := { s with heap := s.heap.update it (Obj.mapFields (·.setIfInBounds 1 (rawInt ((i : Int) + 1)))) }) st'.typeIs ?_)))
 show wpAny _ _ (pure es[i].key) _ _ _
 exact wpAny_pure (wpAny_pure ⟨_, rfl, wpAny_pure (q _ st' (Heap.SameBut.update ..))⟩)
theorem aP9 {Q : Option Value → Shared → Prop} (hh : A.handled = none) (st : s.heap.IsKeyIter it d i es.size ep) (hg : s.heap.get? d = some od) (ht : od.data = .dict es ep) (ge : es.size ≤ i)
   (q : ∀ h', Heap.ExtBut it s.heap h' → Q none { s with heap := h' }) : wpAny (model prog w) A (pyNext (.ref it)) Q E s := by
 obtain ⟨o, ho, hc, hf⟩ := id st
 have ty := st.typeIs
 unfold pyNext
 refine wpAny_bind (wpAny_attempt (wpAny_callSpecial?_slot (name := Str.ofString "__next__") ty F.slot_dict_keyiterator_next (wpAny_call_entry F.slot_dict_keyiterator_next ty F.entry_dict_keyiterator_next ?_ (F.args_dict_keyiterator_next_1 _))))
 refine wpAny_bind (wpAny_pure (wpAny_bind (wpAny_bind ?_)))
 first | refine wpAny_bind (wpAny_typeNameOfWhole_keyiter ty (wpAny_pure (wpAny_bind (wpAny_fieldsOf ho hf ?_)))) | refine wpAny_bind (wpAny_typeNameOf_keyiter ty (wpAny_pure (wpAny_bind (wpAny_fieldsOf ho hf ?_))))
 simp only [show Builtin.Dict_items.ownsTuple "dict_keyiterator" = false by decide, Bool.false_eq_true, if_false]
 show wpAny _ _ (if (Value.ref d == Value.none) = true then _ else _) _ _ s
 rw [if_neg (show ¬ ((Value.ref d == Value.none) = true) from Bool.false_ne_true)]
 refine wpAny_bind (wpAny_pure (wpAny_bind (wpAny_dictEntries hg ht ?_)))
 rw [if_neg (by simp)]
 refine wpAny_bind (wpAny_pure (wpAny_bind (wpAny_dictEpoch hg ht ?_)))
 rw [if_neg (by simp)]
 refine wpAny_pure ?_
 simp only [show ¬ ((i : Int) < 0) from by omega, if_false, Int.toNat_natCast, Array.getElem?_eq_none ge]
 refine wpAny_bind ?_
 first | refine wpAny_bind (wpAny_typeNameOfWhole_keyiter ty (wpAny_pure ?_)) | refine wpAny_bind (wpAny_typeNameOf_keyiter ty (wpAny_pure ?_))
 show wpAny _ _ (setField (.ref it) 0 .none >>= _) _ _ s
 refine wpAny_bind (wpAny_setField ho hf (by simp) ?_)
 show wpAny _ _ (newExc (.type "StopIteration") [] >>= _) _ _ _
 refine wpAny_bind ?_
 simp only [newExc, newTuple]
 refine wpAny_bind (wpAny_newObj_type ?_ (by size_fits))
 refine wpAny_bind (m := firstArgMember _ _) (wpAny_of_eq (a := Value.none) (by first | rfl | (simp only [firstArgMember]; rfl)) (wpAny_newObj_type ?_ (by size_fits)))
 simp only [raiseNew]
 refine wpAny_bind (wpAny_handled ?_)
 rw [show A.in1.handled = none from hh]
 refine wpAny_bind (wpAny_pure (wpAny_throw ?_))
 refine wpAny_bind (wpAny_isInstance (b := true) (T := "StopIteration") ⟨_, Heap.get?_push_size _ rfl, rfl⟩ isSubtype_stop ?_)
 exact wpAny_pure (q _ (((Heap.SameBut.update ..).extBut.push _).push _))
end
def Itd (a : Addr) (kvs : List (List Key × V)) (o : Obj) : It :=
 ⟨fun i H => H a = some (.frz o (.dT kvs)) ∧ i < kvs.length, fun i H x H' => H' = H ∧ ∃ b k v, x = .ref b ∧ kvs[i]? = some (k, v) ∧ H b = some (.tup (k.map kV)), fun i H => H a = some (.frz o (.dT kvs)) ∧ kvs.length ≤ i⟩
theorem KT.at {H : Hp} {kvs : List (List Key × V)} {xs : List (List Key × Addr × Value)} (r : KT H kvs xs) {i : Nat} {p : List Key × V} (e : kvs[i]? = some p) : ∃ q, xs[i]? = some q ∧ p.1 = q.1 ∧ H q.2.1 = some (.tup (p.1.map kV)) ∧ bY p.2 q.2.2 := by
 induction r generalizing i with
 | nil => simp at e
 | cons h _ ih =>
   cases i with
   | zero => simp at e; subst e; exact ⟨_, rfl, h⟩
   | succ i => simpa using ih (by simpa using e)
theorem aR4 {P : Program} {w : World} {K : W.Frag} {tg : Expr} (a it : Addr) (kvs : List (List Key × V)) (o : Obj) :
   Turn P w K tg (Itd a kvs o) [it] it (fun i h => ∃ es ep, o.data = .dict es ep ∧ h.IsKeyIter it a i es.size ep) where
 mem := by simp
 obj := fun i h st b hb => by
   have e : b = it := by simpa using hb
   subst e
   obtain ⟨_, _, _, o, e, c, d⟩ := st
   exact ⟨o, e, fun v z => by rw [d] at z; cases z⟩
 keep := fun i h h' ⟨es, ep, e, st⟩ k => ⟨es, ep, e, st.at fun o e => k it (by simp) o e⟩
 item := by
   intro X hP hw hK hc i pins s σ H E I hf st hg
   subst hP hw hK
   obtain ⟨ha, hi⟩ := hg
   obtain ⟨es, ep, ed, st⟩ := st
   obtain ⟨ho, _, _, xs, r, o', es', ep', h1, h2, h3, h4, _⟩ := (show bN X.prog X.w H s.heap a (.frz o (.dT kvs)) from I.hok a _ ha)
   rw [ho] at h1; cases h1
   rw [ed] at h3; cases h3
   obtain ⟨f0, f1, f2, f3, f4, f5⟩ := hf it (by simp)
   have hk : kvs[i]? = some kvs[i] := by simp [hi]
   obtain ⟨q, q1, q2, q3, q4⟩ := KT.at r hk
   have he : es.toList[i]? = some (entryOfKey (tupleKind (dM X.prog X.w)) q) := by rw [h4, List.getElem?_map, q1]; rfl
   obtain ⟨hl, he'⟩ := List.getElem?_eq_some_iff.mp he
   have lt : i < es.size := by simpa using hl
   refine aE0 st ho ed lt fun h' st' sb => ?_
   have ek : es[i].key = .ref q.2.1 := by
     have : es[i] = entryOfKey (tupleKind (dM X.prog X.w)) q := by rw [← he']; simp
     rw [this]; rfl
   rw [ek]
   have I1 : Inv X pins σ H { s with heap := h' } := I.turned (t' := s.toks) (fun b o hb e => (sb.2 b hb).trans e) f0 f1 f3 f4 f5
   obtain ⟨oi, e, c, d⟩ := id st'
   exact ⟨_, rfl, aD6 (s := { s with heap := h' }) e c d (by decide) ⟨.ref q.2.1, H, I1, rfl, ⟨rfl, q.2.1, kvs[i].1, kvs[i].2, rfl, hk, q3⟩, ⟨es, ep, ed, st'⟩, fun b hb => (hf b hb).1⟩⟩
 done := by
   intro X hP hw hK hc i pins s σ H E I hf st hg
   subst hP hw hK
   obtain ⟨ha, hi⟩ := hg
   obtain ⟨es, ep, ed, st⟩ := st
   obtain ⟨ho, _, _, xs, r, o', es', ep', h1, h2, h3, h4, _⟩ := (show bN X.prog X.w H s.heap a (.frz o (.dT kvs)) from I.hok a _ ha)
   rw [ho] at h1; cases h1
   rw [ed] at h3; cases h3
   obtain ⟨f0, f1, f2, f3, f4, f5⟩ := hf it (by simp)
   have hl : es.size = kvs.length := by
     have e1 : es.toList.length = xs.length := by rw [h4]; simp
     have e2 := Paired.length r
     simp at e1; omega
   exact aP9 (I.ok.hd hc) st ho ed (by omega) fun h' eb => ⟨rfl, I.turned (t' := s.toks) (fun b o hb e => eb b o hb e) f0 f1 f3 f4 f5⟩
 self := fun _ _ _ _ _ ⟨_, _, _, st⟩ h => wpAny_pyIter_keyiter st h
section
variable {X : Cx} {tg : Expr}
theorem Inv.fastT {pins : List (Addr × Obj)} {σ : St} {H : Hp} {s : Shared} {a : Addr} {kvs : List (List Key × V)} (I : Inv X pins σ H s) (e : H a = some (.dT kvs)) : ∃ o, s.heap.get? a = some o ∧ Inv X pins σ (upd H a (.frz o (.dT kvs))) s := by
 obtain ⟨z, y, xs, r, o, es, ep, h1, h2, h3⟩ := (show bN X.prog X.w H s.heap a (.dT kvs) from I.hok a _ e)
 refine ⟨o, h1, ?_⟩
 refine I.write (x := a) (e := a) (h' := s.heap) (t' := s.toks) (by rw [e]; trivial) (.inl rfl) (fun b u _ q => q) ⟨o, h1⟩ ⟨h1, z, y, xs, Paired.mapP r fun p q t => ⟨t.1, ?_, t.2.2⟩, o, es, ep, h1, h2, h3⟩
 rw [aI (yM t.2.1 e (by intro h; cases h))]
 exact t.2.1
def iDt (td : TE) : TI := fun σ H R => td σ H fun x H1 => ∃ a kvs, x = .ref a ∧ ((H1 a = some (.dT kvs) ∧ ∀ o, R (Itd a kvs o) (upd H1 a (.frz o (.dT kvs)))) ∨ ∃ o, H1 a = some (.frz o (.dT kvs)) ∧ R (Itd a kvs o) H1)
theorem aV0 {l : Expr} {td : TE} (hl : PE X l td) : PI X tg l (iDt td) := by
 intro pins s σ H R I h
 refine thn (hl pins s σ H _ I h) fun v s1 ⟨x, H1, I1, r1, q1⟩ => ?_
 obtain ⟨a, kvs, e, q⟩ := q1
 subst e
 cases r1
 have core : ∀ (o : Obj) (H2 : Hp), Inv X pins σ H2 s1 → H2 a = some (.frz o (.dT kvs)) → R (Itd a kvs o) H2 → wpAny (model X.prog X.w) X.A (pyIter (.ref a)) (PIE X pins σ tg R) X.xe s1 := by
   intro o H2 I2 ha q
   obtain ⟨ho, _, y, xs, r, o', es, ep, h1, h2, h3, h4, _⟩ := (show bN X.prog X.w H2 s1.heap a (.frz o (.dT kvs)) from I2.hok a _ ha)
   rw [ho] at h1; cases h1
   refine aD9 y ho h2 h3 ?_
   refine ⟨s1.heap.objs.size, [s1.heap.objs.size], _, _, H2, rfl, I2.kept (t' := s1.toks) fun b o e => Heap.get?_push_of_some _ e, aR4 a _ kvs o, ⟨es, ep, h3, _, Heap.get?_push_size _ rfl, rfl, rfl⟩, fun b hb => ?_, q⟩
   have e : b = s1.heap.objs.size := by simpa using hb
   subst e
   exact I2.fpOk (Nat.le_refl _) (I2.hok.fresh (Nat.le_refl _))
 rcases q with ⟨ha, q⟩ | ⟨o, ha, q⟩
 · obtain ⟨o, ho, I2⟩ := I1.fastT ha
   exact core o _ I2 aD (q o)
 · exact core o H1 I1 ha q
theorem aZ7 {a : Addr} {kvs : List (List Key × V)} {o : Obj} {g : TG} {tb : TS} {D : Ends} {σ : St} {H : Hp} (Pv : Nat → St → Hp → Prop) (h0 : Pv 0 σ H) (hl : ∀ i σ H, i ≤ kvs.length → Pv i σ H → H a = some (.frz o (.dT kvs)))
   (hs : ∀ i k v b σ H, kvs[i]? = some (k, v) → H b = some (.tup (k.map kV)) → Pv i σ H → g (.ref b) σ H fun σ2 H2 => tb { D with nx := Pv (i + 1), ct := Pv (i + 1), bk := D.nx } σ2 H2) (hd : ∀ σ H, Pv kvs.length σ H → D.nx σ H) :
   ∃ W : Nat → Nat → St → Hp → Prop, (∃ m, W 0 m σ H) ∧ ∀ i m σ H, W i m σ H →
     ((Itd a kvs o).stop i H ∧ D.nx σ H) ∨ ((Itd a kvs o).go i H ∧ ∃ N : St → Hp → Prop, (∀ σ' H', N σ' H' → ∃ m', m' < m ∧ W (i + 1) m' σ' H') ∧ ∀ x H', (Itd a kvs o).yld i H x H' → g x σ H' fun σ2 H2 => tb { D with nx := N, ct := N, bk := D.nx } σ2 H2) := by
 refine ⟨fun i m σ H => m = kvs.length - i ∧ i ≤ kvs.length ∧ Pv i σ H, ⟨kvs.length, by simp, Nat.zero_le _, h0⟩, ?_⟩
 rintro i m σ H ⟨rfl, hi, p⟩
 have q := hl i σ H hi p
 by_cases lt : i < kvs.length
 · refine .inr ⟨⟨q, lt⟩, Pv (i + 1), fun σ' H' p' => ⟨kvs.length - (i + 1), by omega, rfl, lt, p'⟩, fun x H' y => ?_⟩
   obtain ⟨rfl, b, k, v, rfl, e, hb⟩ := y
   exact hs i k v b σ _ e hb p
 · have e : i = kvs.length := by omega
   subst e
   exact .inl ⟨⟨q, Nat.le_refl _⟩, hd σ H p⟩
end
section
variable {X : Cx} {k v : Expr} {tk tv : TE} {pos : Pos}
def aR7 (tk tv : TE) : TE := fun σ H Q => ∀ p, H p = none → tk σ (upd H p (.dT [])) fun x H1 => tv σ H1 fun y H2 => ∃ ks b, x = .ref b ∧ H2 b = some (.tup (ks.map kV)) ∧ H2 p = some (.dT []) ∧ Q (.ref p) (upd H2 p (.dT [(ks, y)]))
theorem aF4 (hu : X.A.units < cLine) (hk : PE X k tk) (hv : PE X v tv) : PE X (.Dict [some k] [v] pos) (aR7 tk tv) := by
 intro pins s σ H Q I q
 have hn := I.hok.fresh (Nat.le_refl s.heap.objs.size)
 have I1 := I.laid (a := s.heap.objs.size) (o := .dT []) (t' := s.toks) (fun _ _ q => Heap.get?_push_of_some _ q) (Nat.le_refl _) (aQ2 s.heap I.big)
 refine wpAny_Dict_any rfl rfl (by simp) (by simp) (pairTrees_cons_walk (thn (hk pins _ σ _ _ I1 (q _ hn)) fun u s1 ⟨x, H1, I1, rx, q1⟩ => thn (hv pins s1 σ H1 _ I1 q1) fun u2 s2 ⟨y, H2, I2, ry, q2⟩ => pairTrees_nil_walk ?_))
 obtain ⟨ks, b, rfl, eb, ep, q3⟩ := q2
 cases (show u = Value.ref b from rx)
 obtain ⟨z, hd, xs, rel, dd⟩ := aV7 I2.hok ep
 cases rel
 unfold storeAll
 rw [List.forIn_cons]
 refine wpAny_bind (wpAny_bind (wpAny_dictSet_heap (v := u2) (by exact hu) (wU I2.hok eb) dd fun h' dd' hs => wpAny_pure ?_))
 dsimp only
 rw [List.forIn_nil]
 refine wpAny_pure ⟨.ref s.heap.objs.size, _, ?_, rfl, q3⟩
 obtain ⟨o, es, e2, hq, h2, h3, h4, _, h5⟩ := dd'
 refine xE I2 (by rw [ep]; exact True.intro) hs ⟨o, hq⟩ ⟨by rw [sizeLine_eq]; simp, hd, _, .cons ⟨rfl, ?_, ry⟩ .nil, o, es, e2, hq, h2, h3, h4, h5⟩
 rw [aI (yM eb ep (fun z => nomatch z))]
 exact eb
end
section
variable {P : Program} {w : World} {A : Around} {I d : Addr} {od : Obj} {es : Array DictEntry} {ep : Nat}
theorem aI4 (hh : A.handled = none) (hne : d ≠ I) (ht : od.data = .dict es ep) :
   Walks P w A I [I, d] [I] es.size (fun i v => ∃ h : i < es.size, v = es[i].key) (fun i h => h.IsKeyIter I d i es.size ep ∧ h.get? d = some od) where
 sub := fun b hb => by simp at hb; simp [hb]
 frame := fun _ _ _ st hk => ⟨st.1.at fun o e => hk I (by simp) o e, hk d (by simp) od st.2⟩
 item := fun i s Q E hi st hQ => aE0 st.1 st.2 ht hi fun h' st' sb => hQ _ h' s.toks ⟨hi, rfl⟩ ⟨st', (sb.2 d hne).trans st.2⟩ fun b o hb e => (sb.2 b fun z => hb (by simp [z])).trans e
 done := fun s Q E st hQ => aP9 hh st.1 st.2 ht (Nat.le_refl _) fun h' he => hQ h' s.toks fun b o hb e => he b o (fun z => hb (by simp [z])) e
 self := fun _ _ _ _ st hQ => wpAny_pyIter_keyiter st.1 hQ
theorem aW6 (nd : (d == sysModules) = false) (hx : od.ExactDict) (ht : od.data = .dict es ep) : W.KdlSrc P w "dict" d d es.size (fun i v => ∃ h : i < es.size, v = es[i].key) (fun h => h.get? d = some od) where
 type := fun s hm => ⟨od, hm, hx.1⟩
 there := fun h hm => ⟨Heap.lt_size hm, Heap.lt_size hm⟩
 keep := fun h h' hm hk => hk d (.inl rfl) od hm
 notList := by decide
 notTuple := by decide
 hint := fun _ _ s _ hm hq => W.kdl_hint_dict (⟨od, hm, hx.1⟩ : s.TypeIs (.ref d) "dict") hq
 iter := fun A s hh hm => ⟨_, _, (fun E Q q => aD9 nd hm hx ht q), aI4 hh (Nat.ne_of_lt (Heap.lt_size hm)) ht, ⟨⟨_, Heap.get?_push_size _ rfl, rfl, rfl⟩, Heap.get?_push_of_some _ hm⟩⟩
end
section
variable {X : Cx}
theorem uP : ∀ (xs : List (List Key × Addr × Value)), Vals (xs.map fun q => V.ref q.2.1) (xs.map fun q => Value.ref q.2.1)
 | [] => .nil
 | _ :: xs => .cons rfl (uP xs)
end
section
variable {P : Program} {w : World} {H : Hp} {h h' : Heap} {a : Addr} {o : HO}
theorem bN.there : ∀ {o : HO}, bN P w H h a o → ∃ ob, h.get? a = some ob
 | .lst _, ⟨_, _, _, _, e⟩ => ⟨_, e⟩
 | .tup _, ⟨_, _, _, _, e, _⟩ => ⟨_, e⟩
 | .dK _, ⟨_, _, _, _, _, _, _, e, _⟩ => ⟨_, e⟩
 | .dT _, ⟨_, _, _, _, _, _, _, e, _⟩ => ⟨_, e⟩
 | .set _ _, ⟨_, _, _, _, e, _⟩ => ⟨_, e⟩
 | .ins _ _ _, ⟨_, _, _, e, _⟩ => ⟨_, e⟩
 | .own _, ⟨_, e⟩ => ⟨_, e⟩
 | .xd _, ⟨_, ⟨_, _, _, e, _⟩, _⟩ => ⟨_, e⟩
 | .rng _ _, ⟨_, _, _, e⟩ => ⟨_, e⟩
 | .frz _ _, ⟨e, _⟩ => ⟨_, e⟩
 | .tbl _, e => ⟨_, e⟩
 | .met _ _, e => ⟨_, e⟩
 | .ext _, ⟨_, e, _⟩ => e
theorem HOk.noneAt (x : HOk P w H h) (na : h.get? a = none) : H a = none := by
 cases q : H a with
 | none => rfl
 | some u => obtain ⟨_, e⟩ := (x a u q).there; rw [na] at e; cases e
theorem HOk.laidAt (x : HOk P w H h) (k : ∀ b u, h.get? b = some u → h'.get? b = some u) (na : h.get? a = none) (new : bN P w (upd H a o) h' a o) : HOk P w (upd H a o) h' := fun b u e => by
 have hn := x.noneAt na
 by_cases hb : b = a
 · subst hb
   rw [aD] at e
   cases e
   exact new
 · rw [aI hb] at e
   exact (x b u e).stay (fun c v _ q => k c v q) (fun c q => by rw [aI (aJ q hn), q]) fun c xs q => by rw [aI (aJ q hn), q]
theorem Un.laidAt {fs ex : List Addr} (k : ∀ b u, h.get? b = some u → h'.get? b = some u) (na : h.get? a = none) (hn : H a = none) : Un fs ex H (upd H a o) h h' :=
 ⟨fun b u q _ _ _ => k b u q, fun b u q _ _ _ => ⟨u.slots, k b u q⟩, fun b u q n _ => by rw [aI (fun z => by subst z; rw [na] at q; cases q)]; exact n, fun b u q _ => ⟨u, k b u q⟩,
   fun b xs q => by rw [aI (aJ q hn), q], fun b u xs q => by rw [aI (aJ q hn), q], fun b ps q => ⟨#[], by rw [aI (aJ q hn), q]; simp⟩⟩
end
theorem Inv.laidAt {X : Cx} {pins : List (Addr × Obj)} {σ : St} {H : Hp} {s : Shared} {h' : Heap} {a : Addr} {o : HO} {t' : Nat} (I : Inv X pins σ H s) (k : ∀ b u, s.heap.get? b = some u → h'.get? b = some u) (na : s.heap.get? a = none)
   (new : bN X.prog X.w (upd H a o) h' a o) : Inv X pins σ (upd H a o) { s with heap := h', toks := t' } := I.un (Un.laidAt k na (I.hok.noneAt na)) (I.hok.laidAt k na new)
section
variable {X : Cx}
end
end L2
namespace L2
open PySem PySem.Spec PyProof.Rows
section
variable {prog : Program} {w : World} {A : Around} {E : Value → Shared → Prop} {s : Shared} {T : String} {it S : Addr} {fp : List Addr} {n : Nat} {P : Nat → Value → Prop} {St : Nat → Heap → Prop}
end
section
variable {X : Cx}
end
end L2
namespace L2
open PySem PySem.Spec PyProof.Rows
section
variable {X : Cx}
inductive I_maxL (K : W.Frag) (xs : List V) (H : Hp) (Q : VK) : Prop where
 | mk (a : Addr) (ns : List Int) (h0 : xs = [.ref a]) (h1 : SqL K H a (ns.map V.int)) (h2 : 0 < ns.length) (h3 : ∀ M, M ∈ ns → (∀ x ∈ ns, x ≤ M) → Q (.int M) H) : I_maxL K xs H Q
inductive I_rngL (Q : VK) (vs : List V) (H : Hp) : Prop where
 | mk (i j k : Int) (n : Nat) (h0 : vs = [.int i, .int j, .int k]) (h1 : k ≠ 0) (h2 : Builtin.Range.small i j k = true) (h3 : Builtin.Range.rangeSize i j k = n) (h4 : n ≤ 2 ^ 24) (h5 : Builtin.divisionGoesByPylong (j - i) k = false)
   (h6 : ∀ l, H l = none → Q (.ref l) (upd H l (.lst ((List.range n).map fun (m : Nat) => V.int (i + m * k))))) : I_rngL Q vs H
end
end L2
namespace L2
open PySem PySem.Spec PyProof.Rows
section
variable {prog : Program} {w : World} {A : Around} {E : Value → Shared → Prop} {s : Shared} {d it S : Addr} {od : Obj} {es : Array DictEntry} {ep i : Nat}
end
section
variable {P : Program} {w : World} {H nw : Hp} {h h' : Heap}
end
section
variable {X : Cx}
def bA6 (H : Hp) : List V → List (List Key × V) → Prop := Paired fun y kv => ∃ t b, y = .ref t ∧ H t = some (.tup [.ref b, kv.2]) ∧ H b = some (.tup (kv.1.map kV))
inductive I_itemsL (Q : VK) (x : V) (H : Hp) : Prop where
 | mk (a : Addr) (kvs : List (List Key × V)) (h0 : x = .ref a) (h1 : Rd H a (.dT kvs)) (h2 : ∀ (l : Addr) (H' : Hp) (ys : List V), (∀ b o, H b = some o → H' b = some o) → H l = none → H' l = some (.lst ys) → bA6 H' ys kvs → Q (.ref l) H') : I_itemsL Q x H
end
end L2
namespace L2
open PySem PySem.Spec PyProof.Rows
section
variable {X : Cx} {tg : Expr}
end
end L2
namespace L2
open PySem PySem.Spec PyProof.Rows
section
variable {α : Type}
end
section
variable {prog : Program} {w : World} {A : Around} {E : Value → Shared → Prop} {s : Shared}
theorem aJ6 {a : Addr} {vs : List Value} {n : Nat} {P : PySem.Fin → Shared → Prop} (ho : s.heap.get? a = some (seqObj "list" vs.toArray n)) (h2 : vs.length < 2)
   (h : P (.done (.ret .none)) { s with heap := sortedHeap s.heap a vs vs.toArray }) : wpAny (model prog w) A (Builtin.«list.sort» ⟨[.ref a], []⟩) P E s := by
 rw [list_sort_plain]
 have ha : a < s.heap.objs.size := Heap.lt_size ho
 refine wpAny_bind (listItems_at ho rfl ?_)
 refine wpAny_bind (listUpdate_at ho rfl ?_)
 obtain ⟨e1, ho1⟩ : ∃ e1, (s.heap.update a (Obj.mapSeq fun _ => #[])).get? a = some (seqObj "list" #[] e1) := ⟨_, get?_update_seq ho (fun _ => #[])⟩
 refine wpAny_bind (seqEpoch_at ho1 rfl ?_)
 refine wpAny_bind (wpAny_newTuple ?_)
 refine wpAny_bind (wpAny_newList ?_)
 refine wpAny_holding ?_
 have ho6 : (((s.heap.update a (Obj.mapSeq fun _ => #[])).push (seqObj "tuple" vs.toArray 0)).push (seqObj "list" #[] 0)).get? a = some (seqObj "list" #[] e1) := by
   rw [Heap.get?_push_ne _ _ _ (by rw [size_push', Heap.size_update]; exact Nat.ne_of_lt (Nat.lt_succ_of_lt ha)), Heap.get?_push_ne _ _ _ (by rw [Heap.size_update]; exact Nat.ne_of_lt ha)]
   exact ho1
 show wpAny (model prog w) A _ P E { s with heap := ((s.heap.update a (Obj.mapSeq fun _ => #[])).push (seqObj "tuple" vs.toArray 0)).push (seqObj "list" #[] 0) }
 dsimp only
 have hsz : vs.toArray.size = vs.length := by simp
 have n2 : vs.toArray.size < 2 := by omega
 have hm : (vs.toArray.zip vs.toArray).map (·.2) = vs.toArray := by
   apply Array.toList_inj.mp
   simp only [Array.toList_map, Array.toList_zip]
   exact List.map_snd_zip (Nat.le_refl _)
 rw [if_pos n2, if_pos n2]
 refine wpAny_bind (wpAny_pure ?_)
 rw [StateT.run_pure]
 refine wpAny_bind (wpAny_pure ?_)
 dsimp only
 refine wpAny_bind (seqEpoch_at ho6 rfl ?_)
 refine wpAny_bind (listUpdate_at ho6 rfl ?_ (hsz2 := by show ((vs.toArray.zip vs.toArray).map (·.2)).size ≤ _; rw [hm, hsz, sizeLine_eq]; omega))
 simp only [bne_self_eq_false, Bool.false_eq_true, if_false]
 refine wpAny_pure ?_
 show P (.done (.ret .none)) { s with heap := sortedHeap s.heap a vs ((vs.toArray.zip vs.toArray).map (·.2)) }
 rw [hm]
 exact h
end
section
variable {X : Cx} {β : Type}
end
end L2
namespace HT
open PySem PyProof.Rows
open PySem.SeqAt
open PySem.AutoSeq1 (wpAny_loadPart')
open PySem.MeetsSeq PySem.MeetsSeq2 PySem.MeetsSeq3
end HT
namespace L2
open PySem PySem.Spec PyProof.Rows
section
variable {prog : Program} {w : World} {A : Around} {E : Value → Shared → Prop} {s : Shared}
end
section
variable {X : Cx}
def aV3 (H : Hp) : V → List Int → Prop := fun v st => ∃ a, v = .ref a ∧ H a = some (.tup (st.map V.int))
end
end L2
namespace L2
open PySem PySem.Spec PyProof.Rows
section
variable {X : Cx} {tg : Expr}
end
end L2
namespace L2
open PySem PySem.Spec PyProof.Rows
section
variable {X : Cx} {β : Type}
theorem aJ5 {F : V → β → Prop} {pins : List (Addr × Obj)} {s : Shared} {σ : St} {H : Hp} {Q : VK} (I : Inv X pins σ H s) {a : Addr} {vs : List V} {bs : List β} (pb : Paired F vs bs) (hm : vs.length < 2)
   (hcol : ∀ R : List Value → Shared → Prop, (∀ (its : List Value) (h' : Heap) (tk : Nat), Vals vs its → (∀ b o, s.heap.get? b = some o → h'.get? b = some o) → R its { s with heap := h', toks := tk }) → wpAny (model X.prog X.w) X.A.in1 (collect (.ref a)) R X.xe s)
   (q : ∀ (l : Addr) (ys : List V), H l = none → Paired F ys (bs) → Q (.ref l) (upd H l (.lst ys))) :
   wpAny (model X.prog X.w) X.A (call (.builtin "sorted") [.ref a]) (EP X pins σ Q) X.xe s := by
 have lb := pb.length
 refine PySem.Calls.call_function_entry kind_sorted plain_sorted entry_sorted (args_sorted1 _) ?_
 unfold Builtin.«sorted»
 refine wpAny_bind (m := checkCount "sorted" 1 1 _) (wpAny_pure ?_)
 refine wpAny_bind (hcol _ fun its h1 tk rv keep => ?_)
 have lv := rv.length
 refine wpAny_bind (wpAny_newList ?_ (by rw [sizeLine_eq]; omega))
 have hoL : (h1.push (seqObj "list" its.toArray 0)).get? h1.objs.size = some (seqObj "list" its.toArray 0) := Heap.get?_push_size _ rfl
 have keep2 : ∀ b o, s.heap.get? b = some o → (h1.push (seqObj "list" its.toArray 0)).get? b = some o := fun b o e => Heap.get?_push_of_some _ (keep b o e)
 show wpAny _ _ _ _ _ { s with heap := h1.push (seqObj "list" its.toArray 0), toks := tk }
 have nal : s.heap.get? h1.objs.size = none := by
   cases e : s.heap.get? h1.objs.size with
   | none => rfl
   | some o => exact absurd (Heap.lt_size (keep _ _ e)) (Nat.lt_irrefl _)
 have fin : ∀ (ws : List Value) (ys : List V), Vals ys ws → ys.length ≤ sizeLine → Paired F ys (bs) → EP X pins σ Q (.ref h1.objs.size) { s with heap := sortedHeap (h1.push (seqObj "list" its.toArray 0)) h1.objs.size its ws.toArray, toks := tk } := fun ws ys rw' hy py => by
   obtain ⟨e, he⟩ := sortedHeap_at (out := ws.toArray) hoL
   refine ⟨.ref h1.objs.size, _, I.laidAt (t' := tk) (o := .lst ys) (fun b u eb => ?_) nal ⟨hy, ws, e, rw', he⟩, rfl, q _ ys (I.hok.noneAt nal) py⟩
   have e1 := keep b u eb
   have lt := Heap.lt_size e1
   rw [sortedHeap_old (Nat.ne_of_lt lt) (Heap.lt_size (keep2 b u eb))]
   exact keep2 b u eb
 refine wpAny_bind (wpAny_holding (wpAny_call_entry slot_list_sort ⟨_, hoL, rfl⟩ entry_list_sort ?body (args_list_sort _)))
 case body =>
   exact aJ6 hoL (by omega) ⟨.none, rfl, wpAny_pure ⟨_, rfl, fin its vs rv (by rw [sizeLine_eq]; omega) pb⟩⟩
inductive I_sortD1 (xs : List V) (H : Hp) (Q : VK) : Prop
 | mk (a : Addr) (kvs : List (List Key × V)) (sts : List (List Int)) (h0 : xs = [.ref a]) (h1 : Rd H a (.dT kvs)) (h2 : kvs.map (·.1) = sts.map fun st => st.map Sum.inl) (h3 : kvs.length < 2) (h5 : ∀ (l : Addr) (ys : List V), H l = none → Paired (aV3 H) ys sts → Q (.ref l) (upd H l (.lst ys))) : I_sortD1 xs H Q
theorem aD0 {H : Hp} : ∀ {kvs : List (List Key × V)} {xs : List (List Key × Addr × Value)} {sts : List (List Int)}, KT H kvs xs → kvs.map (·.1) = sts.map (fun st => st.map Sum.inl) → Paired (aV3 H) (xs.map fun q => V.ref q.2.1) sts
 | _, _, [], .nil, _ => .nil
 | _, _, _ :: _, .nil, e => by simp at e
 | _, _, [], .cons _ _, e => by simp at e
 | _, _, st :: sts, .cons h t, e => by
   rw [List.map_cons, List.map_cons, List.cons.injEq] at e
   refine .cons ⟨_, rfl, ?_⟩ (aD0 t e.2)
   have := h.2.1
   rw [e.1, List.map_map] at this
   exact this
theorem qH (hc : X.calm = true) : kX X (.builtin "sorted") I_sortD1 := by
 intro pins s σ H xs us Q I r h
 obtain ⟨a, kvs, sts, rfl, ha, ek, hm, q⟩ := h
 obtain ⟨u, rfl, rx⟩ := qY r
 cases rx
 obtain ⟨z, y, ts, rel, o, es, ep, h1, h2, h3, h4, h5⟩ := (show bN X.prog X.w H s.heap a (.dT kvs) from aK6 I.hok ha)
 have e1 : es.size = ts.length := by have := congrArg List.length h4; simpa using this
 have e2 := Paired.length rel
 have pb := aD0 rel ek
 refine aJ5 I pb (by rw [List.length_map]; omega) (fun R hR => ?_) q
 refine W.kdu_collect (A := X.A.in1) (aW6 (P := X.prog) (w := X.w) y h2 h3) (I.ok.hd hc) h1 (by rw [sizeLine_eq]; omega) fun h' tk acc hk hacc => ?_
 have e3 : acc.toList = ts.map fun q => Value.ref q.2.1 := by
   refine List.ext_getElem? fun i => ?_
   by_cases hi : i < ts.length
   · have ha : i < acc.size := by have := hacc.1; omega
     obtain ⟨hj, e⟩ := hacc.2 i acc[i] (by simp [ha])
     have e4 : es.toList[i]? = some (entryOfKey (tupleKind (dM X.prog X.w)) ts[i]) := by rw [h4]; simp [hi]
     have e5 : es[i] = entryOfKey (tupleKind (dM X.prog X.w)) ts[i] := by
       obtain ⟨_, e6⟩ := List.getElem?_eq_some_iff.mp e4
       simpa using e6
     simp only [Array.getElem?_toList, List.getElem?_map]
     rw [Array.getElem?_eq_getElem ha, e, e5, List.getElem?_eq_getElem hi]
     rfl
   · have ha : acc.size ≤ i := by have := hacc.1; omega
     rw [List.getElem?_eq_none (by simpa using ha), List.getElem?_eq_none (by simpa using hi)]
 refine hR acc.toList h' tk ?_ hk
 rw [e3]
 exact uP ts
end
end L2
namespace L2
open PySem PySem.Spec PyProof.Rows
def Tr (h B : Heap) (e : Addr) (c k fl : Value) : Prop := ∃ oe vs T oT ts, h.get? e = some oe ∧ oe.cls = c ∧ oe.data = .fields vs ∧ vs[2]? = some k ∧ vs[1]? = some (.ref T) ∧ B.get? T = none ∧ T ≠ e ∧ h.get? T = some oT ∧ oT.data = .fields ts ∧ ts[3]? = some fl
def Fly (B : Heap) (l : List Env) (e : Addr) (c k : Value) (h : Heap) : Prop := B.StaysIn h ∧ B.get? e = none ∧ h.FunFrames B l ∧ Tr h B e c k .none
def Hel (B : Heap) (l : List Env) (e : Addr) (c k : Value) (L : Addr) (h : Heap) : Prop := B.StaysIn h ∧ B.get? e = none ∧ h.FunFrames B l ∧ Tr h B e c k (rawInt L)
theorem aY2 {vs : Array Value} {v x : Value} (h : vs[2]? = some x) : (vs.setIfInBounds 1 v)[2]? = some x := by
 rw [Array.getElem?_setIfInBounds_ne (by decide)]; exact h
section
variable {M : Model} {A : Around} {E : Value → Shared → Prop} {s : Shared} {B : Heap} {env : Env} {outer l : List Env} {L e : Addr} {c k : Value} {Q : Unit → Shared → Prop}
theorem aV5 {h : Heap} {oe : Obj} {vs : Array Value} (hl : h.FunFrames B l) (he : h.get? e = some oe) (hd : oe.data = .fields vs) : e ∉ frs l := fun hm => by
 obtain ⟨_, o, ho, hn⟩ := hl.mem hm
 rw [he] at ho
 cases ho
 exact hn vs hd
theorem aQ1 {oe : Obj} {vs : Array Value} {head : Value} {had : Bool} (hfr : A.frames = some (env :: outer)) (hl : s.heap.FunFrames B (env :: outer)) (hf : env.frame = some L) (he : s.heap.get? e = some oe) (hk : B.StaysIn s.heap) (hen : B.get? e = none)
   (hd : oe.data = .fields vs) (hz : 1 < vs.size) (h2 : vs[2]? = some k)
   (h : ∀ h', B.StaysIn h' → h'.FunFrames B (env :: outer) → Tr h' B e oe.cls k (rawInt L) → s.heap.UpToSlots h' → Q () { s with heap := h' }) :
   wpAny M A (frameOf env >>= fun a => entryPlaceOf L had >>= fun pl => EntryCells.newEntry head a .none (rawInt L) .none pl >>= fun b => setField (.ref e) 1 b) Q E s := by
 have nfr := aV5 hl he hd
 refine wpAny_bind (wpAny_frameOf_fun hfr hl hf fun g1 so => ?_)
 refine wpAny_bind (wpAny_entryPlaceOf fun pl hp => ?_)
 unfold EntryCells.newEntry newFields
 refine wpAny_bind (wpAny_newObj_type ?_ (hp.sizeOk5 _ _ _ _ _))
 have e1 : g1.get? e = some oe := (so.2.1 e nfr).trans he
 have k1 : B.StaysIn g1 := fun b o q => (so.2.1 b fun hm => by rw [(hl.mem hm).1] at q; cases q).trans (hk b o q)
 generalize hpd : (⟨.type "traceback", none, .fields ([head, .ref L, .none, rawInt L, .none] ++ (if pl.isEmpty then List.replicate 6 Value.none else pl)).toArray, #[]⟩ : Obj) = nw
 have hnw : nw.data = .fields ([head, .ref L, .none, rawInt L, .none] ++ (if pl.isEmpty then List.replicate 6 Value.none else pl)).toArray := by rw [← hpd]
 have h3 : ([head, Value.ref L, .none, rawInt L, .none] ++ (if pl.isEmpty then List.replicate 6 Value.none else pl)).toArray[3]? = some (rawInt L) := by simp
 have e2 : (g1.push nw).get? e = some oe := Heap.get?_push_of_some nw e1
 have hTe : g1.objs.size ≠ e := Nat.ne_of_gt (Heap.lt_size e1)
 have oth : ∀ b o, b ≠ e → g1.get? b = some o → ((g1.push nw).update e (Obj.mapFields (·.setIfInBounds 1 (Value.ref g1.objs.size)))).get? b = some o := fun b o n q => by
   rw [Heap.get?_update_other _ _ (Ne.symm n)]
   exact Heap.get?_push_of_some nw q
 have noe : ∀ b o, s.heap.get? b = some o → (∀ ws, o.data ≠ .fields ws) → b ≠ e := fun b o q hn z => by
   rw [z, he] at q
   cases q
   exact hn vs hd
 refine wpAny_setField e2 hd hz (h _ ?_ ?_ ?_ ?_)
 · exact fun b o q => oth b o (fun z => by rw [z, hen] at q; cases q) (k1 b o q)
 · refine hl.of_keeps fun b o q hn => ?_
   obtain ⟨sl, q1⟩ := so.2.2 b o q
   exact ⟨_, oth b _ (noe b o q hn) q1, rfl⟩
 · have hd3 := Obj.data_mapFields hd (·.setIfInBounds 1 (Value.ref g1.objs.size))
   refine ⟨_, _, g1.objs.size, nw, _, Heap.get?_update_self _ e2 (Obj.isFreed_of_fields hd3), Obj.cls_mapFields _ _, hd3, aY2 h2, by simp [hz], k1.fresh, hTe, ?_, hnw, h3⟩
   rw [Heap.get?_update_other _ _ (Ne.symm hTe)]
   exact Heap.get?_push_size g1 (by rw [← hpd]; rfl)
 · intro b o q hn
   obtain ⟨sl, q1⟩ := so.2.2 b o q
   exact ⟨sl, oth b _ (noe b o q hn) q1⟩
theorem aD8 {fl : Value} (hk : B.StaysIn s.heap) (hl : s.heap.FunFrames B l) (ht : Tr s.heap B e c k fl)
   (h : ∀ h', B.StaysIn h' → h'.FunFrames B l → Tr h' B e c k .none → s.heap.UpToSlots h' → Q () { s with heap := h' }) : wpAny M A (setFlight (.ref e) none) Q E s := by
 obtain ⟨oe, vs, T, oT, ts, he, hc, hd, h2, h1, nT, hTe, hT, hdT, h3⟩ := ht
 have z3 := (Array.getElem?_eq_some_iff.mp h3).1
 have oth : ∀ b, b ≠ T → (s.heap.update T (Obj.mapFields (·.setIfInBounds 3 Value.none))).get? b = s.heap.get? b := fun b n => Heap.get?_update_other _ _ (Ne.symm n)
 have noT : ∀ b o, s.heap.get? b = some o → (∀ ws, o.data ≠ .fields ws) → b ≠ T := fun b o q hn z => by
   rw [z, hT] at q
   cases q
   exact hn ts hdT
 unfold setFlight
 refine wpAny_bind (wpAny_field he hd h1 ?_)
 rw [if_pos (by rfl)]
 refine wpAny_setField hT hdT z3 (h _ (fun b o q => (oth b fun z => by rw [z, nT] at q; cases q).trans (hk b o q)) (hl.of_keeps fun b o q hn => ⟨o, (oth b (noT b o q hn)).trans q, rfl⟩) ?_ fun b o q hn => ⟨o.slots, (oth b (noT b o q hn)).trans q⟩)
 exact ⟨oe, vs, T, _, _, (oth e (Ne.symm hTe)).trans he, hc, hd, h2, h1, nT, hTe, Heap.get?_update_self _ hT (Obj.isFreed_of_fields (Obj.data_mapFields hdT _)), Obj.data_mapFields hdT _, by simp [z3]⟩
theorem wO (hfr : A.frames = some (env :: outer)) (hf : env.frame = some L) (x : Fly B (env :: outer) e c k s.heap) (h : ∀ h', Hel B (env :: outer) e c k L h' → s.heap.UpToSlots h' → Q () { s with heap := h' }) : wpAny M A (noteFrame (.ref e) env) Q E s := by
 obtain ⟨hk, hen, hl, oe, vs, T, oT, ts, he, hc, hd, h2, h1, nT, hTe, hT, hdT, h3⟩ := x
 subst hc
 have oth : ∀ b, b ≠ T → (s.heap.update T (Obj.mapFields (·.setIfInBounds 3 Value.none))).get? b = s.heap.get? b := fun b n => Heap.get?_update_other _ _ (Ne.symm n)
 have noT : ∀ b o, s.heap.get? b = some o → (∀ ws, o.data ≠ .fields ws) → b ≠ T := fun b o q hn z => by
   rw [z, hT] at q
   cases q
   exact hn ts hdT
 unfold noteFrame
 simp only [hf]
 refine wpAny_bind (wpAny_field he hd h1 ?_)
 rw [if_pos (by rfl)]
 refine wpAny_bind (wpAny_field hT hdT h3 ?_)
 rw [if_neg (by simp [rawInt])]
 refine wpAny_bind (wpAny_setField hT hdT (Array.getElem?_eq_some_iff.mp h3).1 ?_)
 refine aQ1 (s := { s with heap := s.heap.update T (Obj.mapFields (·.setIfInBounds 3 Value.none)) }) hfr (hl.of_keeps fun b o q hn => ⟨o, (oth b (noT b o q hn)).trans q, rfl⟩) hf ((oth e (Ne.symm hTe)).trans he) (fun b o q => (oth b fun z => by rw [z, nT] at q; cases q).trans (hk b o q)) hen hd (Array.getElem?_eq_some_iff.mp h1).1 h2 fun h' x1 x2 x3 x4 => ?_
 exact h h' ⟨x1, hen, x2, x3⟩ fun b o q hn => x4 b o ((oth b (noT b o q hn)).trans q) hn
theorem lands (x : Hel B l e c k L s.heap) (h : ∀ h', Fly B l e c k h' → s.heap.UpToSlots h' → Q () { s with heap := h' }) : wpAny M A (setFlight (.ref e) none) Q E s :=
 aD8 x.1 x.2.2.1 x.2.2.2 fun h' x1 x2 x3 x4 => h h' ⟨x1, x.2.1, x2, x3⟩ x4
theorem aN9 (x : Fly B l e c k s.heap) (h : ∀ h', Fly B l e c k h' → s.heap.UpToSlots h' → Q () { s with heap := h' }) : wpAny M A (setFlight (.ref e) none) Q E s :=
 aD8 x.1 x.2.2.1 x.2.2.2 fun h' x1 x2 x3 x4 => h h' ⟨x1, x.2.1, x2, x3⟩ x4
theorem aN7 (hfr : A.frames = some (env :: outer)) (hf : env.frame = some L) (x : Fly B (env :: outer) e c k s.heap) (h : ∀ h', Fly B outer e c k h' → s.heap.UpToSlots h' → Q () { s with heap := h' }) : wpAny M A (leaving env (.ref e)) Q E s := by
 unfold leaving
 refine wpAny_bind (wO hfr hf x fun h1 x1 u1 => ?_)
 refine lands x1 fun h2 x2 u2 => ?_
 obtain ⟨y1, y2, ⟨_, _, y3⟩, y4⟩ := x2
 exact h h2 ⟨y1, y2, y3, y4⟩ (u1.trans u2)
theorem aG9 {oe : Obj} {vs : Array Value} (hfr : A.frames = some (env :: outer)) (hl : s.heap.FunFrames B (env :: outer)) (hf : env.frame = some L) (he : s.heap.get? e = some oe) (hk : B.StaysIn s.heap) (hen : B.get? e = none)
   (hd : oe.data = .fields vs) (h1 : vs[1]? = some Value.none) (h2 : vs[2]? = some k) (h : ∀ h', Fly B outer e oe.cls k h' → s.heap.UpToSlots h' → Q () { s with heap := h' }) : wpAny M A (leaving env (.ref e)) Q E s := by
 unfold leaving noteFrame
 simp only [hf]
 refine wpAny_bind (wpAny_bind (wpAny_field he hd h1 ?_))
 rw [if_neg (by decide)]
 refine aQ1 hfr hl hf he hk hen hd (Array.getElem?_eq_some_iff.mp h1).1 h2 fun g1 x1 x2 x3 x4 => ?_
 refine lands (L := L) ⟨x1, hen, x2, x3⟩ fun g2 y u => ?_
 obtain ⟨y1, y2, ⟨_, _, y3⟩, y4⟩ := y
 exact h g2 ⟨y1, y2, y3, y4⟩ (x4.trans u)
end
end L2
namespace L2
open PySem PySem.Spec PyProof.Rows
structure Body (X : Cx) : Prop where
 ex : X.ex = []
 stk : X.stack = X.env :: X.outer
 fr : X.env.frame = some X.env.locals
 fn : ∀ x, X.fn x = true
def Cov (B h : Heap) (l : List Env) : Prop := ∀ b o, h.get? b = some o → b ∉ frs l → ∃ o', B.get? b = some o'
def aI2 (B : Heap) (H : Hp) : Prop := ∀ b u, H b = some u → ∃ o, B.get? b = some o
def cxV : Option Addr → Value
 | none => .none
 | some a => .ref a
def CX1 (P : Program) (w : World) : CXT := fun outer H s E e s' => ∃ x C H' B o, e = Value.ref x ∧ s'.os = s.os ∧ AllBare s'.gens ∧ Un (frs outer) [] H H' s.heap s'.heap ∧ HOk P w H' s'.heap ∧ H' x = none ∧ Fly B outer x (.ref C) (cxV o) s'.heap ∧ aI2 B H' ∧ Cov B s.heap outer ∧ E (.ref C) o H'
section
variable {P : Program} {w : World} {H : Hp} {B h h' : Heap}
theorem aD4 (x : HOk P w H h) (c : aI2 B H) (k : B.StaysIn h) (k' : B.StaysIn h') : HOk P w H h' := fun a o e => by
 refine (x a o e).stay (fun b u hb hu => ?_) (fun _ q => q) fun _ _ q => q
 have : ∃ o, B.get? b = some o := by
   rcases hb with rfl | hb
   · exact c _ _ e
   · exact c _ _ hb
 obtain ⟨o', ho'⟩ := this
 have := k _ _ ho'
 rw [hu] at this
 cases this
 exact k' _ _ ho'
end
section
variable {X : Cx} {pins : List (Addr × Obj)} {σ : St} {H : Hp} {s : Shared} {B h' : Heap}
theorem aI6 (I : Inv X pins σ H s) (bd : Body X) (c0 : Cov B X.s₀.heap X.outer) (k : B.StaysIn s.heap) (k' : B.StaysIn h') (up : s.heap.UpToSlots h') : Un X.fs [] X.H₀ H X.s₀.heap h' := by
 have nx : ∀ b : Addr, b ∉ X.ex := fun b => by rw [bd.ex]; simp
 have sl : ∀ b o, X.s₀.heap.get? b = some o → X.H₀ b = none → b ∈ X.fs → ∃ sl, h'.get? b = some { o with slots := sl } := fun b o q n hb => by
   obtain ⟨sl, h1⟩ := I.base.slot b o q n hb (nx b)
   obtain ⟨_, o2, h2, h3⟩ := I.ok.funs.mem hb
   rw [q] at h2; cases h2
   obtain ⟨sl2, h4⟩ := up b _ h1 h3
   exact ⟨sl2, h4⟩
 refine ⟨fun b o q n hb _ => ?_, fun b o q n hb _ => sl b o q n hb, fun b o q n _ => I.base.free b o q n (nx b), fun b o q _ => ?_, I.base.tups, I.base.frzs, I.base.tbls⟩
 · have h1 := I.base.keep b o q n hb (nx b)
   obtain ⟨o', ho'⟩ := c0 b o q hb
   have := k _ _ ho'
   rw [h1] at this; cases this
   exact k' _ _ ho'
 · by_cases hb : b ∈ X.fs
   · obtain ⟨sl, h1⟩ := sl b o q (I.ok.frf b hb) hb
     exact ⟨_, h1⟩
   · obtain ⟨o', ho'⟩ := c0 b o q hb
     exact ⟨_, k' _ _ ho'⟩
theorem jO (bd : Body X) : frs X.stack = X.env.locals :: X.fs := by
 rw [bd.stk]
 show List.filterMap _ _ = _
 rw [List.filterMap_cons, bd.fr]
 rfl
theorem qV {Hc : Hp} {sc : Shared} {t' : Nat} (I : Inv X pins σ H s) (bd : Body X) (Ic : Inv X pins σ Hc sc) (c : Cov B sc.heap X.stack) (cH : aI2 B H) (k : B.StaysIn s.heap) (k' : B.StaysIn h') (up : s.heap.UpToSlots h') : Inv X pins σ H { s with heap := h', toks := t' } := by
 have nx : ∀ b : Addr, b ∉ X.ex := fun b => by rw [bd.ex]; simp
 have stay : ∀ b o, sc.heap.get? b = some o → b ≠ X.env.locals → b ∉ X.fs → ∀ u, s.heap.get? b = some u → h'.get? b = some u := fun b o q n1 n2 u hu => by
   obtain ⟨o', ho'⟩ := c b o q (by rw [jO bd]; intro z; rcases List.mem_cons.mp z with z | z; exact n1 z; exact n2 z)
   have := k _ _ ho'
   rw [hu] at this; cases this
   exact k' _ _ ho'
 have c0 : Cov B X.s₀.heap X.outer := fun b o q hb => by
   obtain ⟨o1, h1⟩ := Ic.base.there b o q (nx b)
   refine c b o1 h1 ?_
   rw [jO bd]
   intro z
   rcases List.mem_cons.mp z with z | z
   · have := Heap.lt_size q
     rw [z] at this
     exact absurd (Nat.lt_of_lt_of_le this I.ok.above) (Nat.lt_irrefl _)
   · exact hb z
 have ccell : ∀ x c, X.env.cells.lookup x = some c → ∀ u, s.heap.get? c = some u → h'.get? c = some u := fun x c e u hu => by
   obtain ⟨v, o, ho, hd⟩ := Ic.cell x c e
   refine stay c o ho (I.cne x c e) (fun z => ?_) u hu
   obtain ⟨_, o2, h2, _⟩ := I.ok.funs.mem z
   exact absurd (Nat.lt_of_lt_of_le (Heap.lt_size h2) (I.ok.cab x c (bd.fn x) e)) (Nat.lt_irrefl _)
 obtain ⟨m, hm, look⟩ := I.loc
 have hm' : h'.Ns X.env.locals m := up.ns hm
 refine ⟨I.ok, I.os, I.bare, by have := aI6 I bd c0 k k' up; rw [← bd.ex] at this; exact this, ⟨m, hm', fun i x v h1 h2 h3 => ?_⟩, fun x c e => ?_, I.free, I.freeC, fun p hp => ?_, aD4 I.hok cH k k', I.len⟩
 · obtain ⟨u, ru, lk⟩ := look i x v h1 h2 h3
   refine ⟨u, ru, ?_⟩
   rcases lk with lk | ⟨kd, c, e, o, ho, hd⟩
   · exact .inl lk
   · exact .inr ⟨kd, c, e, o, ccell x c e o ho, hd⟩
 · obtain ⟨v, o, ho, hd⟩ := I.cell x c e
   exact ⟨v, o, ccell x c e o ho, hd⟩
 · obtain ⟨h1, h2, h3, h4, h5⟩ := I.pin p hp
   obtain ⟨g1, _⟩ := Ic.pin p hp
   exact ⟨stay _ _ g1 h3 h4 _ h1, h2, h3, h4, h5⟩
def XE (X : Cx) (P : Program) (w : World) (E : XK) : Prop := X.xe = fun e s' => wpAny (model P w) X.A (leaving X.env e) (fun _ s'' => CX1 P w X.outer X.H₀ X.s₀ E e s'') (fun e' s'' => CX1 P w X.outer X.H₀ X.s₀ E e' s'') s'
theorem aQ6 {E : XK} {x C : Addr} {o : Option Addr} {h'' : Heap} (I : Inv X pins σ H s) (bd : Body X) (c0 : Cov B X.s₀.heap X.outer) (cH : aI2 B H) (k : B.StaysIn s.heap) (hx : H x = none) (fl : Fly B X.outer x (.ref C) (cxV o) h'') (up : s.heap.UpToSlots h'') (e : E (.ref C) o H) :
   CX1 X.prog X.w X.outer X.H₀ X.s₀ E (.ref x) { s with heap := h'' } :=
 ⟨x, C, H, B, o, rfl, I.os, I.bare, aI6 I bd c0 k fl.1 up, aD4 I.hok cH k fl.1, hx, fl, cH, c0, e⟩
theorem xF {Hc : Hp} {sc : Shared} (bd : Body X) (Ic : Inv X pins σ Hc sc) (c : Cov B sc.heap X.stack) : Cov B X.s₀.heap X.outer := fun b o q hb => by
 obtain ⟨o1, h1⟩ := Ic.base.there b o q (by rw [bd.ex]; simp)
 refine c b o1 h1 ?_
 rw [jO bd]
 intro z
 rcases List.mem_cons.mp z with z | z
 · have := Heap.lt_size q
   rw [z] at this
   exact absurd (Nat.lt_of_lt_of_le this Ic.ok.above) (Nat.lt_irrefl _)
 · exact hb z
theorem aC2 {E : XK} (bd : Body X) (xe : XE X X.prog X.w E) : Passes (CX1 X.prog X.w) X E := by
 intro pins σ H s e s' I h
 obtain ⟨x, C, H', B, o, rfl, os, bare, un, hok, hx, fl, cH, c, he⟩ := h
 have I' := I.call' os un hok bare (fun b z => absurd z (by simp))
 have c0 := xF bd I c
 rw [xe]
 show wpAny _ _ _ _ _ _
 refine aN7 (B := B) (outer := X.outer) (k := cxV o) (c := .ref C) (by rw [I.ok.frames, bd.stk]) bd.fr (by rw [bd.stk] at fl; exact fl) fun h'' fl' up => ?_
 exact aQ6 I' bd c0 cH fl.1 hx fl' up he
theorem bC6 {E : XK} {C e : Addr} {o : Option Addr} {vs : Array Value} {oe : Obj} {h1 : Heap} {tk : Nat} (bd : Body X) (xe : XE X X.prog X.w E) (I : Inv X pins σ H s) (kp : ∀ b o, s.heap.get? b = some o → h1.get? b = some o) (nw : s.heap.get? e = none) (he1 : h1.get? e = some oe) (hcl : oe.cls = .ref C) (hd : oe.data = .fields vs) (v1 : vs[1]? = some Value.none) (v2 : vs[2]? = some (cxV o))
   (he : E (.ref C) o H) : X.xe (.ref e) { s with heap := h1, toks := tk } := by
 rw [xe]
 show wpAny _ _ _ _ _ _
 have hin : ∀ env ∈ X.stack, ∀ b, env.frame = some b → b ∈ frs X.stack := fun env h b hb => List.mem_filterMap.mpr ⟨env, h, hb⟩
 have ff : s.heap.FunFrames (W.hideAll s.heap (frs X.stack)) X.stack := W.funFrames_hide I.stack hin
 have ff1 : h1.FunFrames (W.hideAll s.heap (frs X.stack)) (X.env :: X.outer) := by
   rw [← bd.stk]
   exact ff.of_keeps fun b o q _ => ⟨o, kp b o q, rfl⟩
 have hcov : ∀ b o, s.heap.get? b = some o → b ∉ frs X.stack → (W.hideAll s.heap (frs X.stack)).get? b = some o := fun b o q n => W.hideAll_get _ q n
 have cH : aI2 (W.hideAll s.heap (frs X.stack)) H := fun b u q => by
   obtain ⟨o, ho⟩ := (I.hok b u q).there
   exact ⟨o, hcov b o ho fun z => by rw [I.stkFree b z] at q; cases q⟩
 have c0 : Cov (W.hideAll s.heap (frs X.stack)) X.s₀.heap X.outer := xF bd I fun b o q n => ⟨o, hcov b o q n⟩
 have I' : Inv X pins σ H { s with heap := h1, toks := tk } := I.kept (t' := tk) kp
 have st : (W.hideAll s.heap (frs X.stack)).StaysIn h1 := fun b o q => kp b o (W.of_hideAll _ q)
 have en : (W.hideAll s.heap (frs X.stack)).get? e = none := by
   cases q : (W.hideAll s.heap (frs X.stack)).get? e with
   | none => rfl
   | some o => have := W.of_hideAll _ q; rw [nw] at this; cases this
 refine aG9 (s := { s with heap := h1, toks := tk }) (k := cxV o) (by rw [I.ok.frames, bd.stk]) ff1 bd.fr he1 st en hd v1 v2 fun h'' fl up => ?_
 rw [hcl] at fl
 exact aQ6 (s := { s with heap := h1, toks := tk }) I' bd c0 cH st (I.hok.noneAt nw) fl up he
end
end L2
namespace L2
open PySem PySem.Spec PyProof.Rows
abbrev bmV : List Value := [.type "ValueError", .type "Exception", .type "BaseException", .type "object"]
structure XC (K : W.Frag) (mg : Str → Option Value) (x : Str) (C : Addr) : Prop where
 g : mg x = some (.ref C)
 ex : W.excIn K C bmV "ValueError.__new__" = true
theorem qW {K : W.Frag} {h : Heap} {C : Addr} {bmB : List Value} {newId : String} (X : K.In h) (q : W.excIn K C bmB newId = true) :
   ∃ bm N nm q bs hdct sn sub ab col dd k0 k1 k2 k3 k5 mN, h.get? C = some (excClassObj nm q C N bs bm hdct sn sub ab col dd k0 k1 k2 k3 k5 newId) ∧ h.Ns N mN ∧ mN "__init__" = none ∧ OwnTail h bmB bm ∧ (∃ cd sl dd', K.lookup C = some ⟨.type "type", dd', .cls cd, sl⟩ ∧ cd.mro = .ref C :: bm) := by
 unfold W.excIn at q
 split at q
 case h_2 => exact absurd q (by decide)
 case h_1 dd cd sl look =>
   split at q
   case h_2 => exact absurd q (by decide)
   case h_1 C' bm k0 k1 k2 k3 n k5 hm hs =>
     simp only [Bool.and_eq_true, Bool.not_eq_true', beq_iff_eq] at q
     obtain ⟨⟨⟨⟨⟨e1, e2⟩, e3⟩, e4⟩, e5⟩, e6⟩ := q
     subst e1 e2
     obtain ⟨nm, bs, mro, ns, qn, hd, sn, sub, ab, col, del⟩ := cd
     dsimp only at hm e3 e5 e6
     subst hm e3
     obtain ⟨sll⟩ := sl
     dsimp only at hs
     subst hs
     have hob := X _ _ look
     exact ⟨bm, ns, nm, qn, bs, hd, sn, sub, ab, col, dd, k0, k1, k2, k3, k5, _, hob, .of_isNs (W.isNs_of_in X e5), W.nsMap_none_of_in X e5 e6, W.tail_of_in X e4, _, _, _, look, rfl⟩
section
variable {X : Cx} {E : XK} {C : Addr}
theorem bX {x msg : Str} {np cpos pos p : Pos} {j : Nat} (bd : Body X) (xe : XE X X.prog X.w E) (hc : X.calm = true) (c : XC X.K X.mg x C) (hg : Gl X x := by rfl) (hd : (x == ("__debug__" : Str)) = false := by decide) :
   PS X (.Raise (some (.Call (.Name x np) [.Constant (.str msg) j p] [] cpos)) none pos) (fun _ _ H => E (.ref C) none H) := by
 intro pins s σ H D I h
 obtain ⟨bm, N, nm, q, bs, hdct, sn, sub, ab, col, dd, k0, k1, k2, k3, k5, mN, hC, hN, hni, T, _⟩ := qW I.kIn c.ex
 refine wpAny_Raise_call_subT (C := C) (nm := nm) (q := q) (N := N) (bs := bs) (bm := bm) (hdct := hdct) (sn := sn) (sub := sub) (ab := ab) (col := col) (dd := dd) (k0 := k0) (k1 := k1) (k2 := k2) (k3 := k3) (k5 := k5)
   PySem.F.excBase_ValueError (mN := mN) (T.hasType PySem.F.excBase_ValueError.hasBase) (I.ok.hd hc) rfl hni (iU I hg c.g ⟨rfl, ?_⟩ hd)
 refine Calls.evalArgs_plain (Calls.spliced_cons (Calls.Constant_str (k := j) (pos := p) (Calls.spliced_nil ?_)))
 refine ⟨rfl, (by show 1 ≤ sizeLine; decide), hC, hN, T, fun h' e hx => ?_⟩
 obtain ⟨t, ht, _, _⟩ := hx.there
 exact bC6 (o := none) bd xe (I.tok _) hx.keeps hx.new ht rfl rfl rfl rfl h
end
section
variable (P : Program) (w : World) (K : W.Frag) (mg : Str → Option Value) (base : Heap) (k : Nat)
def FnX (x : Str) (ps : List Str) (sp : Sp) : Prop := ∃ f fd, FnOk P w K mg base (CX1 P w) k f fd ps sp ∧ mg x = some (.ref f) ∧ W.keepIn K (.ref f) = true ∧ Binds K fd ps []
def MeX (C : Addr) (m : Str) (ps : List Str) (sp : Sp) : Prop := ∃ f fd, FnOk P w K mg base (CX1 P w) k f fd ps sp ∧ Meth K C m f ∧ Binds K fd ps [] ∧ Cls K C
def MkX (x : Str) (C : Addr) (ps : List Str) (sp : Sp) : Prop := ∃ f fd, FnOk P w K mg base (CX1 P w) k f fd ps sp ∧ mg x = some (.ref C) ∧ Mk K C f ∧ Binds K fd ps []
end
section
variable {X : Cx} {E : XK} {k : Nat} {x m : Str} {C : Addr} {ps : List Str} {sp : Sp} {p pos apos : Pos} {e o : Expr} {es : List Expr} {ta : TE} {t : TA}
theorem bI (bd : Body X) (xe : XE X X.prog X.w E) (F : FnX X.prog X.w X.K X.mg X.base k x ps sp) (hr : Room k X.A) (ha : PA X (e :: es) t) (hg : Gl X x := by rfl) (hdb : (x == ("__debug__" : Str)) = false := by decide) (he : starEach (e :: es) X.env = (false, eval e X.env) :: starEach es X.env := by rfl) (hpl : (backTo pos (starEach es X.env)).any (·.1) = false := by rfl) :
   PE X (.Call (.Name x p) (e :: es) [] pos) (uR sp [] E t) := by
 obtain ⟨f, fd, F, hm, hk, hb⟩ := F
 exact aC1 F hr hg hm hk hb .nil (aC2 bd xe) ha hdb he hpl
theorem iH (bd : Body X) (xe : XE X X.prog X.w E) (M : MkX X.prog X.w X.K X.mg X.base k x C ps sp) (hr : Room (k + 1) X.A) (ha : PA X (e :: es) t) (hg : Gl X x := by rfl) (hdb : (x == ("__debug__" : Str)) = false := by decide) (he : starEach (e :: es) X.env = (false, eval e X.env) :: starEach es X.env := by rfl) (hpl : (backTo pos (starEach es X.env)).any (·.1) = false := by rfl) :
   PE X (.Call (.Name x p) (e :: es) [] pos) (aJ0 C sp [] E t) := by
 obtain ⟨f, fd, F, hm, hM, hb⟩ := M
 exact aB9 hM F hr hg hm hb .nil (aC2 bd xe) ha hdb he hpl
theorem lB {pl : Sem Bool} (bd : Body X) (xe : XE X X.prog X.w E) (M : MeX X.prog X.w X.K X.mg X.base k C m ps sp) (he : PE X o ta) (hr : Room k X.A) (ha : PA X (e :: es) t)
   (hst : starEach (e :: es) X.env = (false, eval e X.env) :: starEach es X.env := by rfl) (hpl : (backTo pos (starEach es X.env)).any (·.1) = false := by rfl)
   (ht : eval (.Call (.Attribute o m apos) (e :: es) [] pos) X.env = (do
     let ov ← eval o X.env
     standAt apos.atName
     let (f, first) ← holding [ov] (getMethod ov m pl)
     callWith pos f first (backTo pos (starEach (e :: es) X.env)) (backToKw pos (keywordEach [] X.env))) := by rfl) :
   PE X (.Call (.Attribute o m apos) (e :: es) [] pos) (xN C m sp [] E ta t) := by
 obtain ⟨f, fd, F, hm, hb, hc⟩ := M
 exact aB8 he hc hm F hr hb .nil (aC2 bd xe) ha hst hpl ht
end
section
variable {P : Program} {w : World} {K : W.Frag} {mg : Str → Option Value} {base : Heap} {CX : CXT} {N : List Str} {qual : Str} {scope : Scope} {f : Addr} {cd : Value} {A : Around} {outer : List Env} {s : Shared} {H : Hp} {E : XK}
abbrev cxX (P : Program) (w : World) (K : W.Frag) (mg : Str → Option Value) (base : Heap) (N : List Str) (qual : Str) (scope : Scope) (f : Addr) (cd : Value) (A : Around) (outer : List Env) (s : Shared) (H : Hp) (E : XK) : Cx := oV (CX1 P w) P w K mg base N qual scope f cd A outer s H E
theorem bdX : Body (cxX P w K mg base N qual scope f cd A outer s H E) := ⟨rfl, rfl, rfl, fun _ => rfl⟩
theorem xeX : XE (cxX P w K mg base N qual scope f cd A outer s H E) P w E := rfl
theorem wA : PassesOwn (model P w) (cxX P w K mg base N qual scope f cd A outer s H E).A (cxX P w K mg base N qual scope f cd A outer s H E).env (cxX P w K mg base N qual scope f cd A outer s H E).xe := PassesOwn.leaving
theorem Fun.okX {x qual : Str} {st : Stmt} {f : Addr} {fd : FuncData} {N ps : List Str} {k : Nat} {sp : Sp} (F : Fun K x qual st f fd) (S : FnScope N ps (aF st)) (len : ∀ vs H Q E, sp vs H Q E → vs.length = ps.length)
   (hbody : ∀ (cdv : Value) (A : Around) (outer : List Env) (s : Shared) (H : Hp) (vs : List V) (Q : VK) (E : XK), Room k (A.deeper (envOfC qual (aF st) s.heap.objs.size f cdv)) → sp vs H Q E →
     ∃ t, PSs (cxX P w K mg base N qual (aF st) f cdv A outer s H E) (aK st) t ∧ t { nx := fun _ H' => Q .non H', rt := Q } (start N vs) H) : FnOk P w K mg base (CX1 P w) (k + 1) f fd ps sp := by
 obtain ⟨oc, od, kV, doc, pm, an, cdv, ct, osl, rfl, lk, hcd⟩ := F.ex
 exact aP8 lk hcd S len fun A outer s H vs Q E hr hsp => hbody cdv A outer s H vs Q E hr hsp
theorem FnOk.up {k : Nat} {fd : FuncData} {ps : List Str} {sp : Sp} (F : FnOk P w K mg base CX0 k f fd ps sp) : FnOk P w K mg base (CX1 P w) k f fd ps sp := by
 refine ⟨F.len, fun A outer s H args us vs Q E hr he hb hv hs => codeAny_mono (F.run A outer s H args us vs Q E hr he hb hv hs) fun r s' hq => ?_⟩
 cases r with
 | error e => exact False.elim hq
 | ok fl => cases fl <;> exact hq
end
end L2
namespace L2
open PySem PySem.Spec PyProof.Rows
def XP (X : Cx) (pins : List (Addr × Obj)) (σ : St) (E : XK) (ev : Value) (s' : Shared) : Prop :=
 ∃ x C H' B o Hc sc, ev = Value.ref x ∧ Inv X pins σ H' s' ∧ H' x = none ∧ Fly B X.stack x (.ref C) (cxV o) s'.heap ∧ aI2 B H' ∧ Inv X pins σ Hc sc ∧ Cov B sc.heap X.stack ∧ E (.ref C) o H'
abbrev TX := St → Hp → VK → XK → Prop
def PX (X : Cx) (e : Expr) (t : TX) : Prop := ∀ (pins : List (Addr × Obj)) (s : Shared) (σ : St) (H : Hp) (Q : VK) (E : XK), Inv X pins σ H s → t σ H Q E → wpAny (model X.prog X.w) X.A (eval e X.env) (EP X pins σ Q) (XP X pins σ E) s
def PSX (X : Cx) (st : Stmt) (t : Ends → St → Hp → XK → Prop) : Prop := ∀ (pins : List (Addr × Obj)) (s : Shared) (σ : St) (H : Hp) (D : Ends) (E : XK), Inv X pins σ H s → t D σ H E → wpAny (model X.prog X.w) X.A (exec st X.env) (SP X pins D) (XP X pins σ E) s
section
variable {X : Cx} {k : Nat} {f C : Addr} {fd : FuncData} {x m : Str} {ps : List Str} {sp : Sp} {p pos apos : Pos} {e o : Expr} {es : List Expr} {ta : TE} {t : TA}
theorem aS1 {pins : List (Addr × Obj)} {σ : St} {H : Hp} {s : Shared} {Q : VK} {E : XK} {us : List Value} {vs : List V} (F : FnOk X.prog X.w X.K X.mg X.base (CX1 X.prog X.w) k f fd ps sp) (hr : Room k X.A) (hb : Binds X.K fd ps [])
   (I : Inv X pins σ H s) (r : Vals vs us) (h : sp vs H Q E) : wpAny (model X.prog X.w) X.A (call (.ref f) us) (EP X pins σ Q) (XP X pins σ E) s := by
 have hl : (us ++ []).length = ps.length := by rw [List.append_nil, ← r.length]; exact F.len _ _ _ _ h
 have hb' := hb s us I.kIn hl
 rw [List.append_nil] at hb'
 refine wpAny_call (codeAny_mono (F.run X.A X.stack s H ⟨us, []⟩ us vs Q E hr I.env0 hb' r h) fun r s' hq => ?_)
 cases r with
 | error e =>
   obtain ⟨x, C, H', B, o, rfl, os, bare, un, hok, hx, fl, cH, c, he⟩ := hq
   exact ⟨x, C, H', B, o, H, s, rfl, I.call' os un hok bare (fun b z => absurd z (by simp)), hx, fl, cH, I, c, he⟩
 | ok fl =>
   cases fl with
   | ret u => exact I.after hq
   | next => exact False.elim hq
   | brk => exact False.elim hq
   | cont => exact False.elim hq
theorem bC4 (F : FnX X.prog X.w X.K X.mg X.base k x ps sp) (hr : Room k X.A) (ha : ∀ xe, PA (X.catch xe) (e :: es) t) (hg : Gl X x := by rfl) (hdb : (x == ("__debug__" : Str)) = false := by decide) (he : starEach (e :: es) X.env = (false, eval e X.env) :: starEach es X.env := by rfl) (hpl : (backTo pos (starEach es X.env)).any (·.1) = false := by rfl) :
   PX X (.Call (.Name x p) (e :: es) [] pos) (fun σ H Q E => t σ H fun vs H1 => sp vs H1 Q E) := by
 obtain ⟨f, fd, F, hm, hk, hb⟩ := F
 intro pins s σ H Q E I h
 refine wpAny_Call_Name_kw (iU I hg hm ?_ hdb)
 refine W.callWith_K (h₀ := X.base) I.ok.mod.kin hk (wpAny_mono (ha (XP X pins σ E) pos pins s σ H _ I.catch h) (fun us s1 ⟨vs, H1, I1, r, q⟩ => ⟨I1.uncatch.kIn, ?_⟩) fun _ _ z => z) he hpl
 exact aS1 F hr hb I1.uncatch r q
theorem xV {te : TX} (he : PX X e te) (hs : swapsWith e none pos.line X.env = pure false := by rfl) : PSX X (.Expr e pos) (fun D σ H E => te σ H (fun _ H' => D.nx σ H') E) := by
 intro pins s σ H D E I h
 exact wpAny_Expr_any (wpAny_mono (he pins s σ H _ E I h) (fun v s1 ⟨x, H1, I1, r1, q1⟩ => ⟨σ, H1, I1, q1⟩) fun _ _ z => z) I.quiet hs
end
def lS (K : W.Frag) (C D : Addr) : Bool := match K.lookup C with
 | some ⟨_, _, .cls cd, _⟩ => cd.mro.contains (.ref D)
 | _ => false
section
variable {M : Model} {A : Around} {E : Value → Shared → Prop} {s : Shared}
theorem qE {K : W.Frag} {e C D : Addr} {oe : Obj} {b : Bool} {Q : Bool → Shared → Prop} (X : K.In s.heap) (qC : W.excIn K C bmV "ValueError.__new__" = true) (qD : W.excIn K D bmV "ValueError.__new__" = true) (hs : lS K C D = b)
   (he : s.heap.get? e = some oe) (hc : oe.cls = .ref C) (h : Q b s) : wpAny M A (excMatches (.ref e) (.ref D)) Q E s := by
 obtain ⟨bm, N, nm, q, bs, hdct, sn, sub, ab, col, dd, k0, k1, k2, k3, k5, mN, hC, hN, hni, T, cd, sl, dd', look, hm⟩ := qW X qC
 obtain ⟨bm', N', nm', q', bs', hdct', sn', sub', ab', col', dd2, l0, l1, l2, l3, l5, mN', hD, hN', hni', T', _⟩ := qW X qD
 have cb : (Value.ref D :: bm').contains (.type "BaseException") = true := by rw [List.contains_cons, T'.hasType PySem.F.excBase_ValueError.hasBase, Bool.or_true]
 have cc : (Value.ref C :: bm).contains (.ref D) = b := by
   unfold lS at hs
   rw [look] at hs
   rw [← hm]; exact hs
 have nt := tc_notTuple
 obtain ⟨hp, g, d, t, os⟩ := s
 unfold excMatches
 cases b
 all_goals
   repeat (first | (with_reducible refine wpAny_loadPart_at he ?_; rw [hc]) | with_reducible refine wpAny_loadPart_at hD ?_ | (with_reducible refine wpAny_isSubtype_exc hD ?_; rw [cb]) | (with_reducible refine wpAny_isSubtype_exc hC ?_; rw [cc]) | wp_step)
   exact h
end
end L2
namespace L2
open PySem PySem.Spec PyProof.Rows
def Cx.suite (X : Cx) (x : Addr) : Cx := { X with A := X.A.mark (some (.ref x)), calm := false }
section
variable {X : Cx} {pins : List (Addr × Obj)} {σ : St} {H : Hp} {s : Shared}
theorem Inv.suite (x : Addr) (I : Inv X pins σ H s) : Inv (X.suite x) pins σ H s :=
 ⟨⟨I.ok.mod, I.ok.kind, I.ok.glob, I.ok.blt, I.ok.above, I.ok.inj, I.ok.has, I.ok.cab, fun z => absurd (show false = true from z) (by decide), I.ok.frames, I.ok.stk, I.ok.exf, I.ok.bs, I.ok.bsz, I.ok.noex, I.ok.exfs, I.ok.funs, I.ok.frf⟩, I.os, I.bare, I.base, I.loc, I.cell, I.free, I.freeC, I.pin, I.hok, I.len⟩
theorem Inv.unsuite {x : Addr} (ok : X.Ok) (I : Inv (X.suite x) pins σ H s) : Inv X pins σ H s :=
 ⟨ok, I.os, I.bare, I.base, I.loc, I.cell, I.free, I.freeC, I.pin, I.hok, I.len⟩
theorem Inv.trackO {x : Addr} {o : HO} (I : Inv X pins σ H s) (hx : H x = none) (hs0 : X.s₀.heap.get? x = none) (nl : x ≠ X.env.locals) (nc : ∀ y c, X.env.cells.lookup y = some c → c ≠ x) (np : ∀ p ∈ X.pn ++ pins, p.1 ≠ x) (ok : bN X.prog X.w (upd H x o) s.heap x o) : Inv X pins σ (upd H x o) s := by
 have ne : ∀ b u, H b = some u → b ≠ x := fun b u e => aJ e hx
 refine ⟨I.ok, I.os, I.bare, ⟨I.base.keep, I.base.slot, fun b o' q n hx' => ?_, I.base.there, fun b xs q => ?_, fun b o' u q => ?_, fun b ps q => ?_⟩, I.loc, I.cell, ?_, fun y c e => ?_, fun p hp => ?_, fun b u e => ?_, I.len⟩
 · rw [aI (fun z => by rw [z, hs0] at q; cases q)]; exact I.base.free b o' q n hx'
 · have := I.base.tups b xs q; rw [aI (ne _ _ this)]; exact this
 · have := I.base.frzs b o' u q; rw [aI (ne _ _ this)]; exact this
 · obtain ⟨more, this⟩ := I.base.tbls b ps q; exact ⟨more, by rw [aI (ne _ _ this)]; exact this⟩
 · rw [aI nl.symm]; exact I.free
 · rw [aI (nc y c e)]; exact I.freeC y c e
 · obtain ⟨h1, h2, h3⟩ := I.pin p hp
   exact ⟨h1, by rw [aI (np p hp)]; exact h2, h3⟩
 · by_cases hb : b = x
   · subst hb; rw [aD] at e; cases e; exact ok
   · rw [aI hb] at e
     exact (I.hok b u e).stay (fun _ _ _ q => q) (fun c q => by rw [aI (ne _ _ q)]; exact q) fun c xs q => by rw [aI (ne _ _ q)]; exact q
theorem bA0 {M : Model} {A : Around} {E : Value → Shared → Prop} {i : Nat} {n : Str} {v : V} {Q : Unit → Shared → Prop} (I : Inv X pins σ H s) (hN : X.N.Nodup) (hi : X.N[i]? = some n) (hlo : X.env.scope.names.lookup n = some .local) (hv : σ[i]? = some (some v))
   (h : ∀ s', Inv X pins (σ.set i none) H s' → Q () s') : wpAny M A (unbindName X.env n) Q E s := by
 obtain ⟨m, hn, hl⟩ := id I.loc
 have hm : ∃ u, m n = some u := by
   obtain ⟨u, _, lk⟩ := hl i n v hi hv (.inl hlo)
   rcases lk with ⟨_, e⟩ | ⟨hk, _⟩
   · exact ⟨u, e⟩
   · have hk' : X.env.kindOf n = some .local := hlo
     rw [hk'] at hk
     rcases hk with hk | hk <;> cases hk
 obtain ⟨u, hu⟩ := hm
 have lt0 : ∀ b o, X.s₀.heap.get? b = some o → b ≠ X.env.locals := fun b o q => Nat.ne_of_lt (Nat.lt_of_lt_of_le (Heap.lt_size q) I.ok.above)
 refine wpAny_unbindName_local hlo hn hu (by rw [I.ok.kind]; rfl) fun h' u' hn' sb => h _ ?_
 have oth : ∀ b o, b ≠ X.env.locals → s.heap.get? b = some o → h'.get? b = some o := fun b o nb q => (sb.2 b nb).trans q
 refine ⟨I.ok, I.os, I.bare, ⟨fun b o q n' hb hx => oth b o (lt0 b o q) (I.base.keep b o q n' hb hx), fun b o q n' hb hx => ?_, I.base.free, fun b o q hx => ?_, I.base.tups, I.base.frzs, I.base.tbls⟩, ⟨_, hn', fun j y w e1 e2 e3 => ?_⟩, fun y c e => ?_, I.free, I.freeC, fun p hp => ?_, fun b ob e => ?_, by rw [List.length_set]; exact I.len⟩
 · obtain ⟨sl, q1⟩ := I.base.slot b o q n' hb hx
   exact ⟨sl, oth b _ (lt0 b o q) q1⟩
 · obtain ⟨o1, q1⟩ := I.base.there b o q hx
   exact ⟨o1, oth b _ (lt0 b o q) q1⟩
 · have hj : j ≠ i := fun z => by
     subst z
     rw [List.getElem?_set_self (by rw [I.len]; exact (List.getElem?_eq_some_iff.mp hi).1)] at e2
     cases e2
   rw [List.getElem?_set_ne (Ne.symm hj)] at e2
   obtain ⟨u2, r2, lk⟩ := hl j y w e1 e2 e3
   refine ⟨u2, r2, ?_⟩
   rcases lk with ⟨hk, e⟩ | ⟨hk, c, hc, o, ho, hd⟩
   · refine .inl ⟨hk, ?_⟩
     have ny : ¬ y = n := fun z => hj (sJ hN e1 (by rw [z]; exact hi))
     show (if y = n then u' else m y) = some u2
     rw [if_neg ny]
     exact e
   · exact .inr ⟨hk, c, hc, o, oth c o (I.cne y c hc) ho, hd⟩
 · obtain ⟨w, o, ho, hd⟩ := I.cell y c e
   exact ⟨w, o, oth c o (I.cne y c e) ho, hd⟩
 · obtain ⟨h1, h2, h3, h4⟩ := I.pin p hp
   exact ⟨oth _ _ h3 h1, h2, h3, h4⟩
 · refine (I.hok b ob e).stay (fun c w hc q => oth c w (fun z => ?_) q) (fun _ q => q) fun _ _ q => q
   have fr := I.free
   rcases hc with hc | hc
   · rw [← hc, z, fr] at e; cases e
   · rw [z, fr] at hc; cases hc
def xO (C x : Addr) : HO := .ext fun h => ∃ o vs, h.get? x = some o ∧ o.cls = .ref C ∧ o.data = .fields vs
theorem tracked {x C : Addr} {k : Value} {B h' : Heap} {Hc : Hp} {sc : Shared} {t' : Nat} (I : Inv X pins σ H { s with heap := h', toks := t' }) (bd : Body X) (hx : H x = none) (fl : Fly B X.stack x (.ref C) k h') (Ic : Inv X pins σ Hc sc) (c : Cov B sc.heap X.stack) : Inv X pins σ (upd H x (xO C x)) { s with heap := h', toks := t' } := by
 obtain ⟨hk, hen, hl, oe, vs, T, oT, ts, he, hc, hd, _⟩ := fl
 have nfr : x ∉ frs X.stack := aV5 hl he hd
 have notB : ∀ b o, sc.heap.get? b = some o → b ∉ frs X.stack → b ≠ x := fun b o q n z => by
   obtain ⟨o', q'⟩ := c b o q n
   rw [z, hen] at q'; cases q'
 rw [jO bd] at nfr
 refine I.trackO hx ?_ (fun z => nfr (by rw [z]; exact List.mem_cons_self)) (fun y cc e => ?_) (fun p hp => ?_) ⟨⟨oe, vs, he, hc, hd⟩, ⟨oe, he⟩, fun h1 h2 ⟨o, ws, q1, q2⟩ st => ⟨o, ws, st _ q1, q2⟩⟩
 · cases q : X.s₀.heap.get? x with
   | none => rfl
   | some o =>
     obtain ⟨o', q'⟩ := xF bd Ic c x o q fun z => nfr (List.mem_cons_of_mem _ z)
     rw [hen] at q'; cases q'
 · obtain ⟨v, o, ho, _⟩ := Ic.cell y cc e
   refine notB cc o ho fun z => ?_
   rw [jO bd] at z
   rcases List.mem_cons.mp z with z | z
   · exact I.cne y cc e z
   · obtain ⟨_, o2, h2, _⟩ := I.ok.funs.mem z
     exact absurd (Nat.lt_of_lt_of_le (Heap.lt_size h2) (I.ok.cab y cc (bd.fn y) e)) (Nat.lt_irrefl _)
 · obtain ⟨h1, _, h3, h4, _⟩ := Ic.pin p hp
   refine notB p.1 _ h1 fun z => ?_
   rw [jO bd] at z
   rcases List.mem_cons.mp z with z | z
   · exact h3 z
   · exact h4 z
theorem aF1 {st : Stmt} {tb : Ends → St → Hp → XK → Prop} {d n : Str} {i : Nat} {b₀ : Stmt} {suite : List Stmt} {np hpos pos : Pos} {D : Addr} {ts : TS} (bd : Body X) (hb : PSX X st tb) (gd : XC X.K X.mg d D) (hN : X.N.Nodup) (hi : X.N[i]? = some n) (hlo : X.env.scope.names.lookup n = some .local)
   (hs : ∀ x E, PSs ((X.suite x).catch E) (b₀ :: suite) ts) (hgl : Gl X d := by rfl) (hdd : (d == ("__debug__" : Str)) = false := by decide) :
   PS X (.Try [st] [.ExceptHandler (some (.Name d np)) (some n) (b₀ :: suite) hpos] [] [] pos) (fun D' σ H => tb D' σ H (fun cv o H' => ∃ C, cv = .ref C ∧ W.excIn X.K C bmV "ValueError.__new__" = true ∧ lS X.K C D = true ∧
     ∀ x, H' x = none → ts { nx := fun _ _ => False, rt := D'.rt } (σ.set i (some (.ref x))) (upd H' x (xO C x)))) := by
 intro pins s σ H D' I h
 refine wpAny_Try_except (wpAny_execs_cons (wpAny_mono (hb pins s σ H D' _ I h) (fun f s1 q => ?_) (fun ev s1 he => ?_)))
 · cases f with
   | next => exact wpAny_execs_nil (wpAny_execs_nil q)
   | brk => exact q
   | cont => exact q
   | ret u => exact q
 obtain ⟨x, C, H', B, o, Hc, sc, rfl, I', hx, fl, cH, Ic, c, C', eC, qC, hsub, rd⟩ := he
 cases eC
 have fr1 : X.A.frames = some (X.env :: X.outer) := by rw [I.ok.frames, bd.stk]
 have fl' := fl
 rw [bd.stk] at fl'
 refine wO fr1 bd.fr fl' fun h4 hel4 up4 => ?_
 refine lands hel4 fun h5 fl5 up5 => ?_
 have I5 := qV (t' := s1.toks) I' bd Ic c cH fl.1 fl5.1 (up4.trans up5)
 obtain ⟨_, _, _, oe, vs, _, _, _, he5, hc5, _⟩ := id fl5
 refine wpAny_handleBy_cons (codeAny_handlers_test (iU (X := X.suite x) (I5.suite x) hgl gd.g ?_ hdd)) (by intro z; cases z)
 refine qE I5.kIn qC gd.ex hsub he5 hc5 ?_
 refine codeAny_handlers_suite_as ?_
 refine aN9 fl5 fun h6 fl6 up6 => ?_
 have I6 := qV (t' := s1.toks) I' bd Ic c cH fl.1 fl6.1 ((up4.trans up5).trans up6)
 have I6t := tracked I6 bd hx (by rw [bd.stk]; exact fl6) Ic c
 refine kO (X := X.suite x) (I6t.suite x) hN hi (.inl hlo) (v := .ref x) rfl (fun s7 I7 => ?_) (.inr hlo)
 refine wpAny_mono (hs x _ pins s7 _ _ _ I7.catch (rd x hx)) (fun f s8 q => ?_) (fun _ _ z => z)
 have q' := SP.uncatch q
 cases f with
 | next => obtain ⟨_, _, _, z⟩ := q'; exact z.elim
 | brk => obtain ⟨_, _, _, z⟩ := q'; exact z.elim
 | cont => obtain ⟨_, _, _, z⟩ := q'; exact z.elim
 | ret u =>
   obtain ⟨v, σ', H'', I8, r, hq⟩ := q'
   have I8' := I8.unsuite I.ok
   refine wpAny_bind (wpAny_bindName (kO (X := X) I8' hN hi (.inl hlo) (v := .non) rfl (fun s9 I9 => ?_) (.inr hlo)))
   unfold unbindBehindTheSuite
   refine wpAny_onRaise (bA0 I9 hN hi hlo (v := .non) ?_ fun s10 I10 => ⟨v, _, H'', I10, r, hq⟩)
   rw [List.getElem?_set_self (by rw [I8'.len]; exact (List.getElem?_eq_some_iff.mp hi).1)]
end
end L2
namespace L2
open PySem PySem.Spec PyProof.Rows
theorem uL : entryFor table "proto.unchain" = some Builtin.«proto.unchain» := entryFor_of_tree (by kernel_rfl)
theorem tR : plainId "proto.unchain" = true := by decide +kernel
section
variable {prog : Program} {w : World} {A : Around} {E : Value → Shared → Prop} {env : Env}
variable {nm q : Str} {C N : Addr} {bs bm : List Value} {hdct : Bool} {sn : List Str} {sub : List Value} {ab : Bool} {col : Option Bool} {dd : Option Addr} {k0 k1 k2 k3 k5 : Option Value} {newId : String}
theorem zJ {s : Shared} {x : Sem Value} {c : Sem Value} {y : Addr} {Q : Flow → Shared → Prop} (hbase : bm.contains (.type "BaseException") = true) (hh : A.handled = some (.ref y))
   (h : wpAny (model prog w) A x (fun v s₁ => ∃ e t, v = .ref e ∧ e ≠ y ∧ s₁.heap.get? C = some (excClassObj nm q C N bs bm hdct sn sub ab col dd k0 k1 k2 k3 k5 newId) ∧
     s₁.heap.get? e = some { cls := .ref C, data := .fields #[.ref t, .none, .none, .none, .bool false, .none] } ∧ (∃ oy vs, s₁.heap.get? y = some oy ∧ oy.data = .fields vs ∧ vs[2]? = some Value.none) ∧
     wpAny (model prog w) A c (fun v s₂ => v = .none ∧ s₂ = s₁) E s₁ ∧
     ∀ h', (∀ b, b ≠ e → h'.get? b = s₁.heap.get? b) → h'.get? e = some { cls := .ref C, data := .fields #[.ref t, .none, .ref y, .none, .bool true, .none] } → E (.ref e) { s₁ with heap := h' }) E s) :
   wpAny (model prog w) A (raiseStmt env (some x) (some c)) Q E s := by
 have hcB : (Value.ref C :: bm).contains (.type "BaseException") = true := by rw [List.contains_cons, hbase, Bool.or_true]
 unfold raiseStmt
 refine wpAny_bind (wpAny_mono h (fun v s₁ h₁ => ?_) fun _ _ x => x)
 obtain ⟨e, t, rfl, hey, hC, he, ⟨oy, vs, hy, hdy, h2⟩, hc, hE⟩ := h₁
 refine wpAny_bind (wpAny_holding (wpAny_mono hc (fun v s₂ hv => ?_) fun _ _ x => x))
 obtain ⟨rfl, rfl⟩ := hv
 obtain ⟨hp, g, d, tk, os⟩ := s₂
 repeat (first | with_reducible refine wpAny_loadPart_at he ?_ | with_reducible refine wpAny_loadPart_at hC ?_ | (with_reducible refine wpAny_isSubtype_exc hC ?_; rw [hcB]) | wp_step)
 have hCe : C ≠ e := fun z => by
   rw [z, he] at hC
   injection hC with hC
   injection hC with _ _ hC
   cases hC
 have e3 := Heap.get?_update_self (Obj.mapFields fun x => x.setIfInBounds 3 Value.none) he (by rfl)
 have e4 := Heap.get?_update_self (Obj.mapFields fun x => x.setIfInBounds 4 (Value.bool true)) e3 (by rfl)
 have oth : ∀ b, b ≠ e → ((hp.update e (Obj.mapFields fun x => x.setIfInBounds 3 Value.none)).update e (Obj.mapFields fun x => x.setIfInBounds 4 (Value.bool true))).get? b = hp.get? b := fun b n => by
   rw [Heap.get?_update_other _ _ (Ne.symm n), Heap.get?_update_other _ _ (Ne.symm n)]
 have hC4 := (oth C hCe).trans hC
 have hy4 := (oth y (Ne.symm hey)).trans hy
 generalize hgen : (hp.update e (Obj.mapFields fun x => x.setIfInBounds 3 Value.none)).update e (Obj.mapFields fun x => x.setIfInBounds 4 (Value.bool true)) = h4 at e4 oth hC4 hy4 ⊢
 refine wpAny_loadPart_at hC4 (wpAny_pure ?_)
 rw [if_pos (by rfl)]
 refine wpAny_pure ?_
 unfold setFlight
 refine wpAny_bind (wpAny_bind (wpAny_field e4 rfl (x := Value.none) rfl ?_))
 rw [if_neg (by decide)]
 refine wpAny_pure ?_
 unfold raiseNew
 refine wpAny_bind (wpAny_handled ?_)
 rw [hh]
 dsimp only
 have hne : (Value.ref y != Value.ref e) = true := by simp [Ne.symm hey]
 rw [if_pos hne]
 refine wpAny_bind (wpAny_holding (wpAny_runValue (codeAny_builtin uL ?_)))
 rw [Around.under_plainId tR _]
 unfold Builtin.«proto.unchain»
 refine wpAny_bind (wpAny_field hy4 hdy h2 ?_)
 rw [if_pos (by rfl)]
 refine wpAny_pure ?_
 show wpAny _ _ (setField (.ref e) 2 (.ref y) >>= fun _ => throw (.ref e)) Q E _
 refine wpAny_bind (wpAny_setField e4 rfl (by simp) (wpAny_throw (hE _ (fun b n => ?_) ?_)))
 · rw [Heap.get?_update_other _ _ (Ne.symm n)]; exact oth b n
 · exact Heap.get?_update_self (Obj.mapFields fun x => x.setIfInBounds 2 (Value.ref y)) e4 (by rfl)
end
section
variable {X : Cx} {E : XK}
theorem vX {st : Stmt} {tb : Ends → St → Hp → XK → Prop} {d y msg : Str} {np hpos pos cpos rpos np2 p p2 : Pos} {j j2 : Nat} {D C2 : Addr} (bd : Body X) (xe : XE X X.prog X.w E) (hb : PSX X st tb) (gd : XC X.K X.mg d D) (gy : XC X.K X.mg y C2)
   (hgl : Gl X d := by rfl) (hgy : Gl X y := by rfl) (hdd : (d == ("__debug__" : Str)) = false := by decide) (hdy : (y == ("__debug__" : Str)) = false := by decide) :
   PS X (.Try [st] [.ExceptHandler (some (.Name d np)) none [.Raise (some (.Call (.Name y np2) [.Constant (.str msg) j p] [] cpos)) (some (.Constant .none j2 p2)) rpos] hpos] [] [] pos)
     (fun D' σ H => tb D' σ H (fun cv o H' => ∃ C, cv = .ref C ∧ o = none ∧ W.excIn X.K C bmV "ValueError.__new__" = true ∧ lS X.K C D = true ∧ ∀ x, E (.ref C2) (some x) H')) := by
 intro pins s σ H D' I h
 refine wpAny_Try_except (wpAny_execs_cons (wpAny_mono (hb pins s σ H D' _ I h) (fun f s1 q => ?_) (fun ev s1 he => ?_)))
 · cases f with
   | next => exact wpAny_execs_nil (wpAny_execs_nil q)
   | brk => exact q
   | cont => exact q
   | ret u => exact q
 obtain ⟨x, C, H', B, o, Hc, sc, rfl, I', hx, fl, cH, Ic, c, C', eC, rfl, qC, hsub, rd⟩ := he
 cases eC
 have fr1 : X.A.frames = some (X.env :: X.outer) := by rw [I.ok.frames, bd.stk]
 have fl' := fl
 rw [bd.stk] at fl'
 refine wO fr1 bd.fr fl' fun h4 hel4 up4 => ?_
 refine lands hel4 fun h5 fl5 up5 => ?_
 have I5 := qV (t' := s1.toks) I' bd Ic c cH fl.1 fl5.1 (up4.trans up5)
 obtain ⟨_, _, _, oe, vs, _, _, _, he5, hc5, _⟩ := id fl5
 refine wpAny_handleBy_cons (codeAny_handlers_test (iU (X := X.suite x) (I5.suite x) hgl gd.g ?_ hdd)) (by intro z; cases z)
 refine qE I5.kIn qC gd.ex hsub he5 hc5 ?_
 refine codeAny_handlers_suite ?_
 refine aN9 fl5 fun h6 fl6 up6 => ?_
 have I6 := qV (t' := s1.toks) I' bd Ic c cH fl.1 fl6.1 ((up4.trans up5).trans up6)
 have hE : PassesOwnAt (model X.prog X.w) (X.A.mark (some (.ref x))) X.A X.env X.xe := by rw [xe]; exact PassesOwnAt.leaving
 refine wpAny_passesOwnAt hE (wpAny_execs_cons ?_)
 rw [arm_exec_Raise]
 refine wpAny_bind (wpAny_standAt ?_)
 obtain ⟨bm, N, nm, q, bs, hdct, sn, sub, ab, col, dd, k0, k1, k2, k3, k5, mN, hC, hN, hni, T, _⟩ := qW I6.kIn gy.ex
 obtain ⟨_, _, _, ox, ws, _, _, _, hx6, _, hd6, hx2, _⟩ := id fl6
 simp only [evalOpt, Option.map]
 refine zJ (C := C2) (nm := nm) (q := q) (N := N) (bs := bs) (bm := bm) (hdct := hdct) (sn := sn) (sub := sub) (ab := ab) (col := col) (dd := dd) (k0 := k0) (k1 := k1) (k2 := k2) (k3 := k3) (k5 := k5) (newId := "ValueError.__new__") (y := x) (T.hasType PySem.F.excBase_ValueError.hasBase) rfl ?_
 refine wpAny_bind (wpAny_mono (Q := fun v s₃ => ∃ e t, v = .ref e ∧ (∀ b o, h6.get? b = some o → s₃.heap.get? b = some o) ∧ h6.get? e = none ∧ s₃.heap.get? e = some { cls := .ref C2, data := .fields #[.ref t, .none, .none, .none, .bool false, .none] } ∧ s₃.gens = s1.gens ∧ s₃.drawn = s1.drawn ∧ s₃.os = s1.os) (wpAny_Call_ofName ?_) (fun v s₃ q3 => wpAny_bind (wpAny_standAt (wpAny_pure ?_))) fun _ _ z => z)
 · refine iU (X := X.suite x) (I6.suite x) hgy gy.g ?_ hdy
   unfold callWith
   refine wpAny_bind (wpAny_holding (Calls.evalArgs_plain (Calls.spliced_cons (Calls.Constant_str (k := j) (pos := p) (Calls.spliced_nil ?_)))))
   refine wpAny_bind (wpAny_standAt ?_)
   refine wpAny_bind (wpAny_keeperOf_exc hC ?_)
   refine wpAny_bind (wpAny_call_exc_subT PySem.F.excBase_ValueError T hC hN hni fun h' e hm => wpAny_bind (wpAny_holding (wpAny_point (wpAny_pure ?_))))
   obtain ⟨t, ht, _, _⟩ := hm.there
   exact ⟨e, t, rfl, hm.keeps, hm.new, ht, rfl, rfl, rfl⟩
 · obtain ⟨e, t, rfl, kp, nw, he, g3, d3, o3⟩ := q3
   refine ⟨e, t, rfl, (fun z => by rw [z, hx6] at nw; cases nw), kp _ _ hC, he, ⟨ox, ws, kp _ _ hx6, hd6, hx2⟩, ?_, fun h' oth he' => ?_⟩
   · exact wpAny_bind (wpAny_Constant_none (wpAny_bind (wpAny_standAt (wpAny_pure ⟨rfl, rfl⟩))))
   · obtain ⟨h3, g3', d3', t3, o3'⟩ := s₃
     subst g3 d3 o3
     exact bC6 (s := { heap := h6, gens := s1.gens, drawn := s1.drawn, toks := s1.toks, os := s1.os }) (tk := t3) (o := some x) bd xe I6 (fun b o q => (oth b (fun z => by rw [z, nw] at q; cases q)).trans (kp b o q)) nw he' rfl rfl rfl rfl (rd x)
end
end L2
namespace L2
open PySem PySem.Spec PySem.Calls PyProof.Rows PySem.W PySem.Builtin PySem.Builtin.ObjectAttr PySem.Builtin.Getset_descriptor
structure ExcCls (K : W.Frag) (C : Addr) : Prop where
 ga : W.findIn K (.ref C) "__getattribute__" = some (some (.builtin "BaseException.__getattribute__"))
 gt : W.findIn K (.ref C) "__getattr__" = some none
 cl : W.findIn K (.ref C) "__class__" = some (some (.builtin "object.__class__"))
 mb : W.mroIn K C (.type "BaseException") = some true
 mo : W.mroIn K C (.type "object") = some true
 is : (W.clsIn K C).isSome = true
def XAt (x C : Addr) (h : Heap) : Prop := ∃ o vs, h.get? x = some o ∧ o.cls = .ref C ∧ o.data = .fields vs
theorem XAt.type {M : Model} {h : Heap} {x C : Addr} (I : XAt x C h) : W.Looks M h (typeOf (.ref x)) (.ref C) := by
 obtain ⟨o, vs, h1, h2, _⟩ := I
 exact h2 ▸ (W.Looks.ld h1).andThen .now
section
variable {prog : Program} {w : World} {A : Around} {E : Value → Shared → Prop} {s : Shared} {K : W.Frag} {x C : Addr}
theorem uK {tp : Value} {R : Result → Shared → Prop} (X : K.In s.heap) (I : XAt x C s.heap) (hm : W.mroIn K C (.type "object") = some true)
   (h : R (.ok (.ret (.ref C))) s) : codeAny (model prog w) A (.call (.builtin "getset_descriptor.__get__") ⟨[.builtin "object.__class__", .ref x, tp], []⟩) R s := by
 obtain ⟨hh, g, dr, t, os⟩ := s
 have L0 := I.type (M := model prog w)
 have L1 := W.looks_mroIn (M := model prog w) X hm
 refine codeAny_call_builtin W.KF.slot_gs.plain W.KF.entry_gs (W.KF.slot_gs.check _ _ _ _ _ _ _ _ W.KF.type_class (W.KF.args_gs _ _ _) ?_)
 unfold Builtin.«getset_descriptor.__get__» descrGet
 rw [W.dga_obj]
 refine wpAny_bind (wpAny_pure ?_)
 unfold descrGetter descrCheckInstance descrNameAndClass isInstance
 simp only [W.KF.owner_class]
 repeat lk
 refine ⟨Code.quiet_builtin _ (by decide +kernel), codeAny_builtin W.KF.entry_class ?_⟩
 unfold Builtin.«object.__class__» shownTypeOf
 repeat lk
 exact h
theorem qN {tk : Tok} {Q : Fin → Shared → Prop} (c : ExcCls K C) (X : K.In s.heap) (I : XAt x C s.heap) (hq : Q (.done (.ret (.ref C))) s) :
   wpAny (model prog w) A (Builtin.«object.__getattribute__» ⟨[.ref x, .str "__class__" tk], []⟩) Q E s := by
 have hT5 : s.TypeIs (.builtin "object.__class__") "getset_descriptor" := F.typeOf_object_class
 have f5 := F.typeOf_object_class
 have f6 := F.slot_gs_get.lookup
 have f7 := F.slot_gs_set.lookup
 have L0 := I.type (M := model prog w)
 have L1 := W.looks_findIn (M := model prog w) X c.cl
 obtain ⟨h, g, d, t, os⟩ := s
 repeat (any_goals (first | assumption | with_reducible refine W.Looks.at L0 ?_ | with_reducible refine W.Looks.at L1 ?_ | wp_step))
 refine uK X I c.mo ?_
 repeat (any_goals (first | assumption | wp_step))
theorem xD {M : Model} {nameV : Value} {Q : Unit → Shared → Prop} (c : ExcCls K C) (X : K.In s.heap) (I : XAt x C s.heap) (hq : Q () s) : wpAny M A (checkBuiltinCall "BaseException.__getattribute__" ⟨[.ref x, nameV], []⟩) Q E s := by
 have hk : builtinKind "BaseException.__getattribute__" = some .slot := by decide +kernel
 have hsplit : splitId "BaseException.__getattribute__" = some ("BaseException", "__getattribute__") := by decide +kernel
 have ha := F.args_bexc_ga (.ref x) nameV
 have L0 := I.type (M := M)
 have L1 := W.looks_mroIn (M := M) X c.mb
 obtain ⟨h, g, d, t, os⟩ := s
 simp only [checkBuiltinCall, hk, hsplit]
 refine wpAny_bind ?_
 · unfold isInstance
   repeat (first | with_reducible refine W.Looks.at L0 ?_ | with_reducible refine W.Looks.at L1 ?_ | wp_step)
   exact hq
theorem sT {tk : Tok} {R : Result → Shared → Prop} (c : ExcCls K C) (X : K.In s.heap) (I : XAt x C s.heap) (hq : R (.ok (.ret (.ref C))) s) :
   codeAny (model prog w) A (.call (.builtin "BaseException.__getattribute__") ⟨[.ref x, .str "__class__" tk], []⟩) R s :=
 codeAny_call_builtin F.attrBase_ValueError.ga.plain F.entry_bexc_ga (xD c X I (qN c X I hq))
theorem xC {tk : Tok} {fill expr : Bool} {Q : Value → Shared → Prop} (c : ExcCls K C) (X : K.In s.heap) (I : XAt x C s.heap) (hq : Q (.ref C) s) :
   wpAny (model prog w) A (getAttrBy (.ref x) (.str "__class__" tk) fill expr) Q E s := by
 have f3 := F.attrBase_ValueError.ga.bind (.ref x)
 have hx0 : (expr && onTheHeap (Value.builtin "BaseException.__getattribute__")) = false := by cases expr <;> rfl
 have hx2 : (Value.builtin "BaseException.__getattribute__" == Value.builtin "object.__getattribute__") = false := by decide +kernel
 have hx1 : (onTheHeap (Value.ref C) && Value.builtin "BaseException.__getattribute__" == Value.builtin "object.__getattribute__") = false := by rw [hx2]; rfl
 have L0 := I.type (M := model prog w)
 have L1 := W.looks_findIn (M := model prog w) X c.ga
 have L2 := W.looks_findIn (M := model prog w) X c.gt
 obtain ⟨h, g, d, t, os⟩ := s
 repeat (any_goals (first | assumption | with_reducible refine W.Looks.at L0 ?_ | with_reducible refine W.Looks.at L1 ?_ | with_reducible refine W.Looks.at L2 ?_ | wp_step))
 refine sT c X I ?_
 repeat (any_goals (first | assumption | wp_step))
theorem sU {Q : Option Value → Shared → Prop} (c : ExcCls K C) (X : K.In s.heap) (I : XAt x C s.heap) (hq : Q (some (.ref C)) { s with toks := s.toks + 1 }) : wpAny (model prog w) A (getAttr? (.ref x) "__class__") Q E s := by
 obtain ⟨h, g, d, t, os⟩ := s
 unfold getAttr? getAttrBy?
 refine wpAny_bind (wpAny_mkText (wpAny_bind (wpAny_attempt (xC (s := ⟨h, g, d, t + 1, os⟩) c X I ?_))))
 exact wpAny_pure hq
theorem aO1 (c : ExcCls K C) : W.KitX K (.ref x) (.ref C) (XAt x C) where
 ty := fun _ _ _ I => I.type
 it := fun _ _ X _ => by
   have hcD := c.is
   unfold W.clsIn at hcD
   split at hcD
   · rename_i c' d' cd' sl' ho
     intro A' Q' E' s' k q
     unfold isType loadHead
     exact wpAny_bind (wpAny_loadPart (k _ _ (X _ _ ho)) (wpAny_pure q))
   · cases hcD
 ne := fun h tp dd its n sl X htp => by
   have hcD := c.is
   refine Bool.eq_false_iff.mpr fun q => ?_
   have e : C = tp := Value.ref.inj (beq_iff_eq.mp q)
   subst e
   unfold W.clsIn at hcD
   split at hcD
   · rename_i c' d' cd' sl' ho
     have z := (X _ _ ho).symm.trans htp
     cases z
   · cases hcD
 ca := fun X I k => sU c X I k
end
section
variable {X : Cx} {pins : List (Addr × Obj)} {σ : St} {H : Hp} {s : Shared}
theorem gC : kX X (.builtin "isinstance") (fun xs H Q => ∃ x C c cv b, xs = [.ref x, c] ∧ ClV c cv ∧ H x = some (xO C x) ∧ ExcCls X.K C ∧ W.kitOne X.K (.ref C) cv = some b ∧ Q (.bl b) H) := by
 intro pins s σ H xs us Q I r h
 obtain ⟨x, C, c, cv, b, rfl, hc, hx, hC, he, q⟩ := h
 cases r with
 | cons r1 r' =>
   cases r' with
   | cons r2 r'' =>
     cases r''
     obtain rfl := hc.rel r2
     cases (show _ = Value.ref x from r1)
     obtain ⟨hX, _⟩ := (show bN X.prog X.w H s.heap x (xO C x) from I.hok x _ hx)
     exact W.kia_one (aO1 hC) I.kIn hX he (fun z => nomatch z) fun tk => ⟨.bl b, H, I.tok tk, rfl, q⟩
def Cx.loud (X : Cx) : Cx := { X with calm := false }
def aN0 (A : Around) : Around := { A with handled := none }
theorem Inv.loud {A : Around} {o : List Env} {P : Program} {w : World} {K : W.Frag} {mg : Str → Option Value} {base : Heap} {N : List Str} {qual : Str} {sc : Scope} {f : Addr} {cd : Value} {outer : List Env} {s0 : Shared} {H0 : Hp} {E : XK} {CX : CXT}
   (I : Inv (oV CX P w K mg base N qual sc f cd (aN0 A) outer s0 H0 E) pins σ H s) : Inv (oV CX P w K mg base N qual sc f cd A outer s0 H0 E).loud pins σ H s :=
 ⟨⟨I.ok.mod, I.ok.kind, I.ok.glob, I.ok.blt, I.ok.above, I.ok.inj, I.ok.has, I.ok.cab, fun z => absurd (show false = true from z) (by decide), I.ok.frames, I.ok.stk, I.ok.exf, I.ok.bs, I.ok.bsz, I.ok.noex, I.ok.exfs, I.ok.funs, I.ok.frf⟩, I.os, I.bare, I.base, I.loc, I.cell, I.free, I.freeC, I.pin, I.hok, I.len⟩
end
structure FnOkH (P : Program) (w : World) (K : W.Frag) (mg : Str → Option Value) (base : Heap) (k : Nat) (f : Addr) (fd : FuncData) (ps : List Str) (sp : Sp) : Prop where
 len : ∀ vs H Q E, sp vs H Q E → vs.length = ps.length
 run : ∀ (A : Around) (outer : List Env) (s : Shared) (H : Hp) (args : Args) (us : List Value) (vs : List V) (Q : VK) (E : XK), Room k (aN0 A) → Env0 P w K mg base A outer s H → BindsTo s fd args (ps.zip us) → Vals vs us → sp vs H Q E →
   codeAny (model P w) A (.call (.ref f) args) (CR CX0 outer P w H s Q E) s
section
variable {P : Program} {w : World} {K : W.Frag} {mg : Str → Option Value} {base : Heap}
theorem Fun.okH {x qual : Str} {st : Stmt} {f : Addr} {fd : FuncData} {N ps : List Str} {k : Nat} {sp : Sp} (F : Fun K x qual st f fd) (S : FnScope N ps (aF st)) (len : ∀ vs H Q E, sp vs H Q E → vs.length = ps.length)
   (hbody : ∀ (cdv : Value) (A : Around) (outer : List Env) (s : Shared) (H : Hp) (vs : List V) (Q : VK) (E : XK), sp vs H Q E →
     ∃ t, PSs (oV CX0 P w K mg base N qual (aF st) f cdv A outer s H E).loud.nox (aK st) t ∧ t { nx := fun _ H' => Q .non H', rt := Q } (start N vs) H) : FnOkH P w K mg base (k + 1) f fd ps sp := by
 obtain ⟨oc, od, kV, doc, pm, an, cdv, ct, osl, rfl, lk, hcd⟩ := F.ex
 refine ⟨len, fun A outer s H args us vs Q E hr e0 hb r hsp => ?_⟩
 have hl := len _ _ _ _ hsp
 have KX : K.In s.heap := e0.mod.kin.keeps fun b o e => (e0.bs b o e).1
 have lim : s.heap.NoLimit := e0.mod.nolimit.keeps fun b o e => (e0.bs b o e).1
 have hkind : ∀ y ∈ ps.zip us, (aF st).names.lookup y.1 = some .local ∨ ((aF st).names.lookup y.1 = some .cell ∧ ((cellsFrom (s.heap.objs.size + 1) (aF st).names []).lookup y.1).isSome = true) := fun ⟨n, v⟩ hy => by
   rcases S.par n (List.of_mem_zip hy).1 with q | q
   · exact .inl q
   · exact .inr ⟨q, W.cellsFrom_some _ _ _ (.inl q)⟩
 have hdep : A.depth < recursionLimit := hr.depth
 refine codeAny_call_function hdep (KX _ _ lk) rfl S.co S.gen rfl (W.codeRec_of KX hcd) (hb _ _ _ _ ?_)
 refine wpAny_newFunctionEnv_cells S.kind hkind fun env he s1 x => ?_
 subst he
 refine ⟨lim.keeps x.toInCall.keep, codeAny_func ?_⟩
 obtain ⟨t, ht, hq⟩ := hbody cdv A outer s H vs Q E hsp
 have I0 : Inv (oV CX0 P w K mg base N qual (aF st) f cdv (aN0 A) outer s H E) [] (start N vs) H s1 := pW (A := aN0 A) S rfl ⟨e0.frames, e0.mod, e0.bs, e0.bsz, e0.funs, e0.frf, e0.hok, e0.bare⟩ hl r x
 have I := I0.loud (o := outer)
 refine wpAny_mono (ht.nox [] s1 (start N vs) H _ I hq) (fun fl s' hs => ?_) fun e s' hs => hs
 have fin : ∀ {σ' : St} {H' : Hp} {v : V} {u : Value}, Inv (oV CX0 P w K mg base N qual (aF st) f cdv A outer s H E).loud [] σ' H' s' → bY v u → Q v H' → CE outer P w H s Q u s' :=
   fun {σ' H' v u} J rv q => ⟨v, H', J.os, J.bare, J.base, J.hok, rv, q⟩
 cases fl with
 | ret u =>
   obtain ⟨v, σ', H', J, rv, q⟩ := hs
   exact fin J rv q
 | next =>
   obtain ⟨σ', H', J, q⟩ := hs
   exact fin (v := V.non) (u := Value.none) J rfl q
 | brk =>
   obtain ⟨_, _, _, q⟩ := hs
   exact False.elim q
 | cont =>
   obtain ⟨_, _, _, q⟩ := hs
   exact False.elim q
end
section
variable (P : Program) (w : World) (K : W.Frag) (mg : Str → Option Value) (base : Heap) (k : Nat)
def FnH (x : Str) (ps : List Str) (sp : Sp) : Prop := ∃ f fd, FnOkH P w K mg base k f fd ps sp ∧ mg x = some (.ref f) ∧ W.keepIn K (.ref f) = true ∧ Binds K fd ps []
end
section
variable {X : Cx} {k : Nat} {x m : Str} {C : Addr} {ps : List Str} {sp : Sp} {p pos apos : Pos} {e o : Expr} {es : List Expr} {ta : TE} {t : TA}
theorem aX4 (F : FnH X.prog X.w X.K X.mg X.base k x ps sp) (hr : Room k (aN0 X.A)) (ha : PA X (e :: es) t) (hg : Gl X x := by rfl) (hdb : (x == ("__debug__" : Str)) = false := by decide) (he : starEach (e :: es) X.env = (false, eval e X.env) :: starEach es X.env := by rfl) (hpl : (backTo pos (starEach es X.env)).any (·.1) = false := by rfl) :
   PE X (.Call (.Name x p) (e :: es) [] pos) (uR sp [] E0 t) := by
 obtain ⟨f, fd, F, hm, hk, hb⟩ := F
 intro pins s σ H Q I h
 refine wpAny_Call_Name_kw (iU I hg hm ?_ hdb)
 refine W.callWith_K (h₀ := X.base) I.ok.mod.kin hk (thn (ha pos pins s σ H _ I h) fun us s1 ⟨vs, H1, I1, r, q⟩ => ⟨I1.kIn, ?_⟩) he hpl
 have hl : (us ++ []).length = ps.length := by rw [List.append_nil, ← r.length]; simpa using F.len _ _ _ _ q
 have hb' := hb s1 us I1.kIn hl
 rw [List.append_nil] at hb'
 have q : sp (vs ++ []) H1 Q E0 := q
 rw [List.append_nil] at q
 refine wpAny_call (codeAny_mono (F.run X.A X.stack s1 H1 ⟨us, []⟩ us vs Q _ hr I1.env0 hb' r q) fun r s' hq => ?_)
 cases r with
 | error e => exact False.elim hq
 | ok fl =>
   cases fl with
   | ret u => exact I1.after hq
   | next => exact False.elim hq
   | brk => exact False.elim hq
   | cont => exact False.elim hq
end
end L2
namespace L2
open PySem PySem.Spec PyProof.Rows
section
variable {X : Cx} {E : XK} {k : Nat} {x m : Str} {ps : List Str} {sp : Sp} {p pos apos : Pos} {e o : Expr} {es : List Expr} {ta : TE} {t : TA}
def aR5 (S : Addr → Prop) (m : Str) (sp : Sp) (E : XK) (ta : TE) (t : TA) : TE := fun σ H Q => ta σ H fun x H1 => ∃ C a dx fs, S C ∧ x = .ref a ∧ H1 a = some (.ins C dx fs) ∧ fs.lookup m = none ∧
 t σ H1 fun vs H2 => sp (x :: (vs ++ [])) H2 Q E
theorem qT {pl : Sem Bool} {S : Addr → Prop} (bd : Body X) (xe : XE X X.prog X.w E) (M : ∀ C, S C → MeX X.prog X.w X.K X.mg X.base k C m ps sp) (he : PE X o ta) (hr : Room k X.A) (ha : PA X (e :: es) t)
   (hst : starEach (e :: es) X.env = (false, eval e X.env) :: starEach es X.env := by rfl) (hpl : (backTo pos (starEach es X.env)).any (·.1) = false := by rfl)
   (ht : eval (.Call (.Attribute o m apos) (e :: es) [] pos) X.env = (do
     let ov ← eval o X.env
     standAt apos.atName
     let (f, first) ← holding [ov] (getMethod ov m pl)
     callWith pos f first (backTo pos (starEach (e :: es) X.env)) (backToKw pos (keywordEach [] X.env))) := by rfl) :
   PE X (.Call (.Attribute o m apos) (e :: es) [] pos) (aR5 S m sp E ta t) := by
 intro pins s σ H Q I h
 refine W.methodCall_KW (pl := pl) (thn (he pins s σ H _ I h) fun u s1 ⟨x, H1, I1, rx, C, a, dx, fs, hS, ex, ea, l, q⟩ => ?_) ht
 subst ex
 obtain rfl : u = Value.ref a := rx
 obtain ⟨f, fd, F, hm, hb, c⟩ := M C hS
 refine lI I1 ea c hm l ?_
 refine W.callWith_K (first := [.ref a]) (h₀ := X.base) I.ok.mod.kin hm.kp (thn (ha pos pins s1 σ H1 _ I1 q) fun us s2 ⟨vs, H2, I2, r, q2⟩ => ⟨I2.kIn, ?_⟩) hst hpl
 exact pN (us := .ref a :: us) (vs := .ref a :: vs) F hr hb .nil (aC2 bd xe) I2 (.cons rfl r) q2
end
section
variable {X : Cx}
def aJ1 (K : W.Frag) (te : TE) : TE := fun σ H Q => te σ H fun x H1 => ∃ (l : Addr) (ns : List Int), x = .ref l ∧ SqL K H1 l (ns.map V.int) ∧ ns.length < 1000 ∧ Q (.int (firstMet (fun i => ns.getD i 0) ns.length).length) H1
theorem yW : ∀ (ns acc : List Int), (ns.foldl step_dedup acc).length ≤ acc.length + ns.length
 | [], acc => by simp
 | n :: ns, acc => by
   rw [List.foldl_cons]
   have h := yW ns (step_dedup acc n)
   have h2 : (step_dedup acc n).length ≤ acc.length + 1 := by
     unfold step_dedup
     split <;> simp
   rw [List.length_cons]
   omega
theorem yV (ns : List Int) : (firstMet (fun i => ns.getD i 0) ns.length).length ≤ ns.length := by
 unfold firstMet
 have := yW ((List.range ns.length).map fun i => ns.getD i 0) []
 simpa using this
theorem zL {e : Expr} {te : TE} {p p' pos pos' : Pos} (hc : X.calm = true) (hg : Gl X "len") (hm : X.mg "len" = none) (hg' : Gl X "set") (hm' : X.mg "set" = none) (he : PE X e te)
   (hs : starEach [e] X.env = (false, eval e X.env) :: starEach [] X.env := by rfl)
   (hs2 : starEach [Expr.Call (.Name "set" p') [e] [] pos'] X.env = (false, eval (.Call (.Name "set" p') [e] [] pos') X.env) :: starEach [] X.env := by rfl)
   (hv : bootBuiltins "set" = some (.type "set") := by decide +kernel) :
   PE X (.Call (.Name "len" p) [.Call (.Name "set" p') [e] [] pos'] [] pos) (aJ1 X.K te) := by
 intro pins s σ H Q I h
 refine wpAny_Call_Name_kw (lG I hg hm PySem.boot_len ?_)
 refine PyProof.Rows.callWith_builtin1 ?_ hs2
 rw [hs2]
 show wpAny _ _ (spliced ((false, eval (.Call (.Name "set" p') [e] [] pos') X.env) :: backTo pos (starEach [] X.env))) _ _ s
 refine Calls.spliced_cons (wpAny_Call_Name_kw (lG I hg' hm' hv ?_))
 refine PyProof.Rows.callWith_type1 ?_ hs
 rw [hs]
 show wpAny _ _ (spliced ((false, eval e X.env) :: backTo pos' (starEach [] X.env))) _ _ s
 refine Calls.spliced_cons (thn (he pins s σ H _ I h) fun u s1 ⟨x, H1, I1, r1, l, ns, e1, hl, hlt, q⟩ => Calls.spliced_nil ?_)
 subst e1
 cases r1
 obtain ⟨its, rv, pl, _⟩ := I1.list hl
 have hi := nW rv
 have hlen := rv.length
 rw [List.length_map] at hlen
 refine PySem.call_set_list (items := its.toArray) (ns := ns) (I1.ok.hd hc) pl.isList (by simpa using hi) (by rw [List.size_toArray]; unfold scanBound; omega) fun h' tk hS hk => ?_
 have I2 : Inv X pins σ H1 { s1 with heap := h', toks := tk } := I1.kept (t' := tk) fun b o e => hk b o (Heap.lt_size e) e
 have hsz : its.toArray.size = ns.length := by rw [List.size_toArray, hlen]
 have hle := yV ns
 rw [hsz] at hS
 obtain ⟨o, es, ep, t, ho, hex, hd, _, _, _, hf, hn⟩ := hS
 refine Calls.spliced_nil ?_
 refine call_len_set ho hex hd hf (by omega) ?_
 rw [hn]
 exact ⟨.int _, H1, I2.tok _, ⟨_, rfl⟩, q⟩
end
end L2
namespace L2
open PySem PySem.Spec PyProof.Rows
def Fnal (K : W.Frag) (H : Hp) (f : Addr) : Prop := W.keepIn K (.ref f) = true ∨ ∃ φ, H f = some (.ext φ) ∧ ∀ h, φ h → W.FnAt f h
def Callee (P : Program) (w : World) (K : W.Frag) (mg : Str → Option Value) (base : Heap) (k : Nat) (f : Addr) (vs : List V) (H : Hp) (Q : VK) (E : XK) : Prop :=
 ∀ (A : Around) (outer : List Env) (s : Shared) (us : List Value), Room k A → Env0 P w K mg base A outer s H → Vals vs us → codeAny (model P w) A (.call (.ref f) ⟨us, []⟩) (CR (CX1 P w) outer P w H s Q E) s
theorem Callee.of {P : Program} {w : World} {K : W.Frag} {mg : Str → Option Value} {base : Heap} {k : Nat} {f : Addr} {fd : FuncData} {ps : List Str} {sp : Sp} {vs : List V} {H : Hp} {Q : VK} {E : XK} (F : FnOk P w K mg base (CX1 P w) k f fd ps sp) (hb : Binds K fd ps []) (h : sp vs H Q E) : Callee P w K mg base k f vs H Q E := by
 intro A outer s us hr e0 hv
 have hl : (us ++ []).length = ps.length := by rw [List.append_nil, ← hv.length]; exact F.len _ _ _ _ h
 have KX : K.In s.heap := e0.mod.kin.keeps fun b o e => (e0.bs b o e).1
 have hb' := hb s us KX hl
 rw [List.append_nil] at hb'
 exact F.run A outer s H ⟨us, []⟩ us vs Q E hr e0 hb' hv h
section
variable {X : Cx} {k : Nat} {x m : Str} {p pos apos : Pos} {e o : Expr} {es : List Expr} {t : TA}
theorem aW7 {i : Nat} (hN : X.N[i]? = some x) (hv : Vis X.env.scope x) (hr : Room k X.A) (ha : ∀ xe, PA (X.catch xe) (e :: es) t) (hd : (x == ("__debug__" : Str)) = false := by decide) (hcd : (x == ("__classdict__" : Str)) = false := by decide)
   (he : starEach (e :: es) X.env = (false, eval e X.env) :: starEach es X.env := by rfl) (hpl : (backTo pos (starEach es X.env)).any (·.1) = false := by rfl) :
   PX X (.Call (.Name x p) (e :: es) [] pos) (fun σ H Q E => ∃ f, σ[i]? = some (some (.ref f)) ∧ t σ H fun vs H1 => Fnal X.K H1 f ∧ Callee X.prog X.w X.K X.mg X.base k f vs H1 Q E) := by
 intro pins s σ H Q E I h
 obtain ⟨f, hf, h⟩ := h
 refine wpAny_Call_Name_kw ?_
 refine wpAny_mono (aL3 (X := X.catch (XP X pins σ E)) (i := i) hN hv hd hcd pins s σ H (fun v H1 => v = .ref f ∧ H1 = H) I.catch ⟨_, hf, rfl, rfl⟩) (fun u s1 h1 => ?_) fun _ _ z => z
 obtain ⟨v, H1, I1, rv, e1, e2⟩ := h1
 subst e1 e2
 cases rv
 rw [he]
 refine W.callWith_of (P := fun h => ∃ k, (k = Keeper.frame ∨ k = Keeper.machine ∨ k = Keeper.boundFrame) ∧ W.Looks (model X.prog X.w) h (keeperOf (.ref f)) k) (by show ((false || (backTo pos (starEach es X.env)).any (·.1)) || false) = false; rw [hpl]; rfl) (fun _ z => z) ?_
 have h2 := ha (XP X pins σ E) pos pins s1 σ H1 _ I1 h
 have h2 : wpAny (model X.prog X.w) X.A (spliced (backTo pos (starEach (e :: es) X.env))) _ (XP X pins σ E) s1 := h2
 rw [he] at h2
 refine Calls.evalArgs_plain (wpAny_mono h2 (fun us s2 hq => ?_) fun _ _ z => z)
 obtain ⟨vs, H2, I2, r, fn, q⟩ := hq
 refine ⟨?_, ?_⟩
 · rcases fn with hk | ⟨φ, e, hφ⟩
   · exact W.keeps_K hk _ I2.uncatch.kIn
   · obtain ⟨hX, _⟩ := (show bN X.prog X.w H2 s2.heap f (.ext φ) from I2.hok f _ e)
     exact W.keeps_F _ (hφ _ hX)
 · have I3 := I2.uncatch
   refine wpAny_call (codeAny_mono (q X.A X.stack s2 us hr I3.env0 r) fun r s' hq => ?_)
   cases r with
   | error e =>
     obtain ⟨x, C, H', B, o, rfl, os, bare, un, hok, hx, fl, cH, c, he⟩ := hq
     exact ⟨x, C, H', B, o, H2, s2, rfl, I3.call' os un hok bare (fun b z => absurd z (by simp)), hx, fl, cH, I3, c, he⟩
   | ok fl =>
     cases fl with
     | ret u => exact I3.after hq
     | next => exact False.elim hq
     | brk => exact False.elim hq
     | cont => exact False.elim hq
end
end L2
namespace L2
open PySem PySem.Spec PyProof.Rows PySem.W
def aA6 (f : Addr) (qual : Str) (ar : Arguments) (body : Expr) (sc : Scope) (c' : Addr) : HO := .ext fun h => ∃ pm ctv, h.get? f = some (kla_obj "<lambda>" qual ar body sc [] pm c' ctv)
def aB0 (c' : Addr) (qual : Str) : HO := .ext fun h => h.CodeRec (.ref c') qual
def BMain (mg : Str → Option Value) (h : Heap) : Prop := ∃ bm ob, mg "__builtins__" = some (.ref bm) ∧ bm ≠ builtinsNs ∧ h.get? bm = some ob ∧ ob.cls = .type "module" ∧ ob.dict = some builtinsNs ∧ ob.data = .plain
section
variable {X : Cx} {pins : List (Addr × Obj)} {σ : St} {H : Hp} {s : Shared}
theorem Inv.lam {P c' : Addr} {ps : Array Value} {more : Array Value} {h' : Heap} {t' : Nat} {qual : Str} {oF : Obj} {φ : HO} (I : Inv X pins σ H s) (hP : H P = some (.tbl ps)) (hx : Heap.ExtBut P s.heap h') (hP' : h'.get? P = some (tabObj (ps ++ more))) (hge : s.heap.objs.size ≤ c') (hlt : c' < h'.objs.size) (hrec : h'.CodeRec (.ref c') qual)
   (hφ : ∀ H', bN X.prog X.w H' (h'.push oF) h'.objs.size φ) :
   Inv X pins σ (upd (upd (upd H P (.tbl (ps ++ more))) c' (aB0 c' qual)) h'.objs.size φ) { s with heap := h'.push oF, toks := t' } := by
 have nc : H c' = none := I.hok.fresh hge
 have hsz : s.heap.objs.size ≤ h'.objs.size := Nat.le_of_lt (Nat.lt_of_le_of_lt hge hlt)
 have nf : H h'.objs.size = none := I.hok.fresh hsz
 have cP : c' ≠ P := fun z => by rw [z, hP] at nc; cases nc
 have fP : h'.objs.size ≠ P := fun z => by rw [z, hP] at nf; cases nf
 have fc : h'.objs.size ≠ c' := Nat.ne_of_gt hlt
 have up : ∀ b, b ≠ P → b ≠ c' → b ≠ h'.objs.size → (upd (upd (upd H P (.tbl (ps ++ more))) c' (aB0 c' qual)) h'.objs.size φ) b = H b := fun b h1 h2 h3 => by rw [aI h3, aI h2, aI h1]
 have old : ∀ b o, b ≠ P → s.heap.get? b = some o → (h'.push oF).get? b = some o := fun b o n e => Heap.get?_push_of_some _ (hx b o n e)
 have neP : ∀ b, H b = none → b ≠ P := fun b n z => by rw [z, hP] at n; cases n
 have lt : ∀ b o, s.heap.get? b = some o → b ≠ c' ∧ b ≠ h'.objs.size := fun b o e => ⟨Nat.ne_of_lt (Nat.lt_of_lt_of_le (Heap.lt_size e) hge), Nat.ne_of_lt (Nat.lt_of_lt_of_le (Heap.lt_size e) hsz)⟩
 have tr : ∀ b u, H b = some u → b ≠ c' ∧ b ≠ h'.objs.size := fun b u e => ⟨aJ e nc, aJ e nf⟩
 refine I.step (g' := s.gens) (d' := s.drawn) (t' := t') (ch := []) (fun b hb => absurd hb (by simp)) (fun b o _ _ _ e n => old b o (neP b n) e) (fun b o _ _ _ e n => ⟨o.slots, old b o (neP b n) e⟩) (fun b o _ e n => ?_) (fun b o _ e => ?_) (fun b xs e => ?_) (fun b o u e => ?_) (fun b qs e => ?_) (fun m hn => ?_) (fun b u e => ?_) I.bare
 · rw [up b (neP b n) (lt b o e).1 (lt b o e).2]; exact n
 · by_cases hb : b = P
   · subst hb; exact ⟨_, Heap.get?_push_of_some _ hP'⟩
   · exact ⟨o, old b o hb e⟩
 · have hb : b ≠ P := fun z => by rw [z, hP] at e; cases e
   rw [up b hb (tr b _ e).1 (tr b _ e).2]; exact e
 · have hb : b ≠ P := fun z => by rw [z, hP] at e; cases e
   rw [up b hb (tr b _ e).1 (tr b _ e).2]; exact e
 · by_cases hb : b = P
   · subst hb
     rw [hP] at e
     cases e
     exact ⟨more, by rw [aI (Ne.symm fP), aI (Ne.symm cP), aD]⟩
   · exact ⟨#[], by rw [up b hb (tr b _ e).1 (tr b _ e).2, e]; simp⟩
 · exact (hn.extBut hx (neP _ I.free)).push _
 · by_cases h1 : b = h'.objs.size
   · subst h1
     rw [aD] at e
     cases e
     exact hφ _
   · rw [aI h1] at e
     by_cases h2 : b = c'
     · subst h2
       rw [aD] at e
       cases e
       obtain ⟨c, oc, vs, t, e1, e2, e3, e4⟩ := hrec
       cases e1
       refine ⟨⟨b, oc, vs, t, rfl, Heap.get?_push_of_some _ e2, e3, e4⟩, ⟨oc, Heap.get?_push_of_some _ e2⟩, fun h1 h2 ⟨c, o, ws, t, q1, q2, q3, q4⟩ st => ?_⟩
       cases q1
       exact ⟨b, o, ws, t, rfl, st _ q2, q3, q4⟩
     · rw [aI h2] at e
       by_cases h3 : b = P
       · subst h3
         rw [aD] at e
         cases e
         exact Heap.get?_push_of_some _ hP'
       · rw [aI h3] at e
         refine (I.hok b u e).stay (fun c w hc q => old c w (fun z => ?_) q) (fun c q => ?_) fun c xs q => ?_
         · rcases hc with hc | hc
           · exact h3 (hc ▸ z)
           · rw [z, hP] at hc; cases hc
         · have hb : c ≠ P := fun z => by rw [z, hP] at q; cases q
           rw [up c hb (tr c _ q).1 (tr c _ q).2]; exact q
         · have hb : c ≠ P := fun z => by rw [z, hP] at q; cases q
           rw [up c hb (tr c _ q).1 (tr c _ q).2]; exact q
theorem Inv.lam1 {h' : Heap} {t' : Nat} {oF : Obj} {φ : HO} (I : Inv X pins σ H s) (hk : ∀ b o, s.heap.get? b = some o → h'.get? b = some o) (hsz : s.heap.objs.size ≤ h'.objs.size) (hφ : ∀ H', bN X.prog X.w H' (h'.push oF) h'.objs.size φ) :
   Inv X pins σ (upd H h'.objs.size φ) { s with heap := h'.push oF, toks := t' } := by
 have nf : H h'.objs.size = none := I.hok.fresh hsz
 have up : ∀ b, b ≠ h'.objs.size → (upd H h'.objs.size φ) b = H b := fun b h3 => by rw [aI h3]
 have old : ∀ b o, s.heap.get? b = some o → (h'.push oF).get? b = some o := fun b o e => Heap.get?_push_of_some _ (hk b o e)
 have lt : ∀ b o, s.heap.get? b = some o → b ≠ h'.objs.size := fun b o e => Nat.ne_of_lt (Nat.lt_of_lt_of_le (Heap.lt_size e) hsz)
 have tr : ∀ b u, H b = some u → b ≠ h'.objs.size := fun b u e => aJ e nf
 refine I.step (g' := s.gens) (d' := s.drawn) (t' := t') (ch := []) (fun b hb => absurd hb (by simp)) (fun b o _ _ _ e n => old b o e) (fun b o _ _ _ e n => ⟨o.slots, old b o e⟩) (fun b o _ e n => ?_) (fun b o _ e => ⟨o, old b o e⟩) (fun b xs e => ?_) (fun b o u e => ?_) (fun b qs e => ?_) (fun m hn => (hn.keeps hk).push _) (fun b u e => ?_) I.bare
 · rw [up b (lt b o e)]; exact n
 · rw [up b (tr b _ e)]; exact e
 · rw [up b (tr b _ e)]; exact e
 · exact ⟨#[], by rw [up b (tr b _ e), e]; simp⟩
 · by_cases h1 : b = h'.objs.size
   · subst h1
     rw [aD] at e
     cases e
     exact hφ _
   · rw [aI h1] at e
     refine (I.hok b u e).stay (fun c w _ q => old c w q) (fun c q => ?_) fun c xs q => ?_
     · rw [up c (tr c _ q)]; exact q
     · rw [up c (tr c _ q)]; exact q
theorem aO0 {h : Heap} {qual : Str} {ar : Arguments} {body : Expr} {sc : Scope} {pm ctv : Value} {c' : Addr} {P : Program} {w : World} (H' : Hp) : bN P w H' (h.push (kla_obj "<lambda>" qual ar body sc [] pm c' ctv)) h.objs.size (aA6 h.objs.size qual ar body sc c') :=
 ⟨⟨pm, ctv, Heap.get?_push_size _ rfl⟩, ⟨_, Heap.get?_push_size _ rfl⟩, fun h1 h2 ⟨pm, ctv, e⟩ st => ⟨pm, ctv, st _ e⟩⟩
structure TLam (P : Addr) (qual : Str) (ar : Arguments) (body : Expr) (sc : Scope) (pos : Pos) (H : Hp) (Q : VK) : Prop where
 h : ∃ ps, H P = some (.tbl ps) ∧ TriplesOk ps.toList ∧
 ((codeAmong pos ps.toList = none ∧ ∀ c' f, H c' = none → H f = none → f ≠ c' → f ≠ P → c' ≠ P → Q (.ref f) (upd (upd (upd H P (.tbl (ps ++ #[rawInt pos.line, rawInt pos.col, .ref c']))) c' (aB0 c' qual)) f (aA6 f qual ar body sc c'))) ∨
  ∃ c', codeAmong pos ps.toList = some (.ref c') ∧ ∀ f, H f = none → Q (.ref f) (upd H f (aA6 f qual ar body sc c')))
def bD8 (P : Addr) (qual : Str) (ar : Arguments) (body : Expr) (sc : Scope) (pos : Pos) : TE := fun _ H Q => TLam P qual ar body sc pos H Q
theorem zM {ar : Arguments} {body : Expr} {sc : Scope} {pos : Pos} {c P : Addr} {qual : Str} (hcode : X.env.code = .ref c) (hC : CodeHd X.base c P) (hgl : X.env.globals = mainGlobals) (hq : X.env.qual ++ "<lambda>" = qual) (hdef : defaultsOf ar X.env = ([], [])) (hcl : closureFor sc X.env = pure []) (bm : BMain X.mg X.base) :
   PE X (.Lambda ar body sc pos) (bD8 P qual ar body sc pos) := by
 intro pins s σ H Q I h
 obtain ⟨⟨ps, hP, ht, h⟩⟩ := h
 refine kla_eval hdef ?_
 rw [hq]
 have keep : ∀ b o, X.base.get? b = some o → s.heap.get? b = some o := I.bk
 have hgs : s.heap.Ns mainGlobals X.mg := I.ok.mod.glob.keeps keep
 have hPs : s.heap.get? P = some (tabObj ps) := I.hok P _ hP
 obtain ⟨b, ob, b1, b2, b3, b4, b5, b6⟩ := bm
 have hgP : mainGlobals ≠ P := fun q => by
   obtain ⟨o, es, ep, e, hd, _⟩ := hgs
   rw [q, hPs] at e; cases e; cases hd
 have hbP : b ≠ P := fun q => by
   have e := keep _ _ b3
   rw [q, hPs] at e; cases e; cases b4
 have hbG : b ≠ mainGlobals := fun q => by
   obtain ⟨o, es, ep, e, hd, _⟩ := I.ok.mod.glob
   rw [q, e] at b3; cases b3; rw [hd] at b6; cases b6
 have hBA : s.heap.BuiltinsAt X.mg P := ⟨b, ob, b1, b2, hbG, hbP, keep _ _ b3, b4, b5, b6⟩
 rcases h with ⟨hnf, k⟩ | ⟨c', hf, k⟩
 · refine kla_makeFunction hcl hgl hgs hcode (hC.keeps keep) hPs ht hnf hgP hBA fun c' ctv h' tk hx hge hlt hrec htb => ?_
   have nc : H c' = none := I.hok.fresh hge
   have nf : H h'.objs.size = none := I.hok.fresh (Nat.le_of_lt (Nat.lt_of_le_of_lt hge hlt))
   refine ⟨.ref h'.objs.size, _, I.lam (t' := tk) hP hx htb hge hlt hrec aO0, rfl, k c' h'.objs.size nc nf (Nat.ne_of_gt hlt) (fun z => by rw [z, hP] at nf; cases nf) fun z => by rw [z, hP] at nc; cases nc⟩
 · refine kla_makeFunctionHit hcl hgl hgs hcode (hC.keeps keep) hPs ht hf hBA fun ctv h' tk hk hsz => ?_
   exact ⟨.ref h'.objs.size, _, I.lam1 (t' := tk) hk hsz aO0, rfl, k _ (I.hok.fresh hsz)⟩
end
section
variable {P : Program} {w : World} {K : Frag} {mg : Str → Option Value} {base : Heap}
theorem aA5 {k : Nat} {f c' : Addr} {qual : Str} {ar : Arguments} {body : Expr} {sc : Scope} {N ps : List Str} {vs : List V} {H : Hp} {Q : VK} {E : XK} (S : FnScope N ps sc) (hf : H f = some (aA6 f qual ar body sc c')) (hc : H c' = some (aB0 c' qual)) (hl : vs.length = ps.length)
   (hb : ∀ (pm ctv : Value) (us : List Value), us.length = ps.length → bindArgs (kla_fn "<lambda>" qual ar body sc [] pm (.ref c') ctv) ⟨us, []⟩ = pure (ps.zip us))
   (hbody : ∀ (A : Around) (outer : List Env) (s : Shared), Room k (A.deeper (envOfC qual sc s.heap.objs.size f (.ref c'))) → ∃ t, PE (cxX P w K mg base N qual sc f (.ref c') A outer s H E) body t ∧ t (start N vs) H Q) : Callee P w K mg base (k + 1) f vs H Q E := by
 intro A outer s us hr e0 r
 obtain ⟨⟨pm, ctv, ho⟩, _⟩ := (show bN P w H s.heap f (aA6 f qual ar body sc c') from e0.hok f _ hf)
 obtain ⟨hrec, _⟩ := (show bN P w H s.heap c' (aB0 c' qual) from e0.hok c' _ hc)
 have hlu : us.length = ps.length := by rw [← r.length]; exact hl
 have lim : s.heap.NoLimit := e0.mod.nolimit.keeps fun b o e => (e0.bs b o e).1
 have hkind : ∀ y ∈ ps.zip us, sc.names.lookup y.1 = some .local ∨ (sc.names.lookup y.1 = some .cell ∧ ((cellsFrom (s.heap.objs.size + 1) sc.names []).lookup y.1).isSome = true) := fun ⟨n, v⟩ hy => by
   rcases S.par n (List.of_mem_zip hy).1 with q | q
   · exact .inl q
   · exact .inr ⟨q, W.cellsFrom_some _ _ _ (.inl q)⟩
 refine kla_callFunE hr.depth ho rfl S.co S.gen rfl hrec ?_
 rw [hb pm ctv us hlu]
 refine wpAny_pure ?_
 refine wpAny_newFunctionEnv_cells S.kind hkind fun env he s1 x => ?_
 subst he
 refine ⟨lim.keeps x.toInCall.keep, kla_codeExpr ?_⟩
 obtain ⟨t, ht, hq⟩ := hbody A outer s (hr.deeper _)
 have I : Inv (cxX P w K mg base N qual sc f (.ref c') A outer s H E) [] (start N vs) H s1 := pW S hr.hd e0 hl r x
 refine wpAny_mono (ht [] s1 (start N vs) H _ I hq) (fun v s' hs => ?_) fun e s' hs => hs
 obtain ⟨v', H', J, rv, q⟩ := hs
 exact ⟨v', H', J.os, J.bare, J.base, J.hok, rv, q⟩
theorem sQ {K : Frag} {H : Hp} {f c' : Addr} {qual : Str} {ar : Arguments} {body : Expr} {sc : Scope} (hf : H f = some (aA6 f qual ar body sc c')) : Fnal K H f := .inr ⟨_, hf, fun h ⟨_, _, e⟩ => ⟨_, _, _, _, e⟩⟩
end
end L2
namespace L2
open PySem PySem.Spec PyProof.Rows PySem.W
def rB (P1 P2 a : Addr) (o : Option HO) : Hp := fun b => if b = P1 then some (.tbl #[]) else if b = P2 then some (.tbl #[]) else if b = a then o else none
theorem aH0 {P : Program} {w : World} {K : W.Frag} {mg mb : Str → Option Value} {CX : CXT} {k : Nat} {fa a P1 P2 c1 c2 : Addr} {fd : FuncData} {x : Str} {sp : Sp} {s₁ : Shared} {vs : List Value} {ns : List Int}
   (KX : K.In s₁.heap) (hns : s₁.heap.Ns mainGlobals mg) (hb : s₁.heap.Ns builtinsNs mb) (hbb : ∀ x : Str, x ≠ "__name__" → mb x = bootBuiltins x) (hlim : s₁.heap.NoLimit) (hbm : BMain mg s₁.heap) (hg : s₁.gens = #[])
   (ha : s₁.heap.get? a = some { cls := .type "list", data := .seq vs.toArray }) (hi : IntsAre vs ns) (hl : ns.length ≤ sizeLine) (hr : Room k callerA)
   (h12 : P1 ≠ P2) (hP1 : s₁.heap.get? P1 = some (tabObj #[])) (hP2 : s₁.heap.get? P2 = some (tabObj #[])) (k1 : K.lookup P1 = none) (k2 : K.lookup P2 = none) (hC1 : CodeHd s₁.heap c1 P1) (hC2 : CodeHd s₁.heap c2 P2)
   (F : ∀ base : Heap, K.In base → base.Ns mainGlobals mg → BMain mg base → FnOk P w K mg base CX k fa fd [x] sp) (hbind : ∀ (s : Shared) (u : Value), BindsTo s fd ⟨[u], []⟩ [(x, u)])
   (hsp : ∀ H : Hp, H P1 = some (.tbl #[]) → H P2 = some (.tbl #[]) → SqL K H a (ns.map V.int) → sp [.ref a] H (fun v _ => v = .bl true) fun _ _ _ => False)
   (hCX : ∀ H e s', CX [] H s₁ (fun _ _ _ => False) e s' → False) :
   codeAny (model P w) callerA (.call (.ref fa) ⟨[.ref a], []⟩) (fun r s' => r = .ok (.ret (.bool true)) ∧ OldK s₁.heap s'.heap ∧ s'.os = s₁.os ∧ AllBare s'.gens) s₁ := by
 have rv := uQ hi
 have lenV := hi.length
 have a1 : a ≠ P1 := fun z => by rw [z, hP1] at ha; cases ha
 have a2 : a ≠ P2 := fun z => by rw [z, hP2] at ha; cases ha
 have core : ∀ o : Option HO, (o = none ∨ (K.lookup a = none ∧ o = some (.frz { cls := .type "list", data := .seq vs.toArray } (.lst (ns.map V.int))))) → SqL K (rB P1 P2 a o) a (ns.map V.int) →
     codeAny (model P w) callerA (.call (.ref fa) ⟨[.ref a], []⟩) (fun r s' => r = .ok (.ret (.bool true)) ∧ OldK s₁.heap s'.heap ∧ s'.os = s₁.os ∧ AllBare s'.gens) s₁ := by
   intro o ho hS
   have t1 : rB P1 P2 a o P1 = some (.tbl #[]) := if_pos rfl
   have t2 : rB P1 P2 a o P2 = some (.tbl #[]) := by unfold rB; rw [if_neg (Ne.symm h12), if_pos rfl]
   have ta : rB P1 P2 a o a = o := by unfold rB; rw [if_neg a1, if_neg a2, if_pos rfl]
   have tn : ∀ b, b ≠ P1 → b ≠ P2 → b ≠ a → rB P1 P2 a o b = none := fun b n1 n2 n3 => by unfold rB; rw [if_neg n1, if_neg n2, if_neg n3]
   have hok : HOk P w (rB P1 P2 a o) s₁.heap := fun b u e => by
     by_cases n1 : b = P1
     · subst n1; rw [t1] at e; cases e; exact hP1
     · by_cases n2 : b = P2
       · subst n2; rw [t2] at e; cases e; exact hP2
       · by_cases n3 : b = a
         · subst n3
           rw [ta] at e
           rcases ho with rfl | ⟨_, rfl⟩
           · cases e
           · cases e
             exact ⟨ha, by rw [List.length_map]; exact hl, vs, _, rv, ha⟩
         · rw [tn b n1 n2 n3] at e; cases e
   generalize hH : rB P1 P2 a o = H at *
   have base_of : ∀ {b : Addr} {o : Obj}, s₁.heap.get? b = some o → H b = none → (uI s₁.heap H).get? b = some o := fun e n => aP1 e n
   have noD : ∀ {b : Addr} {o : Obj}, s₁.heap.get? b = some o → o ≠ tabObj #[] → o ≠ { cls := .type "list", data := .seq vs.toArray } → H b = none := fun {b ob} e d1 d2 =>
     tn b (fun z => by rw [z, hP1] at e; cases e; exact d1 rfl) (fun z => by rw [z, hP2] at e; cases e; exact d1 rfl) (fun z => by rw [z, ha] at e; cases e; exact d2 rfl)
   have nsK : ∀ {b : Addr} {m : Str → Option Value}, s₁.heap.Ns b m → (uI s₁.heap H).Ns b m := fun {b m} ⟨o, es, ep, e, d, r⟩ => ⟨o, es, ep, base_of e (noD e (fun z => by rw [z] at d; cases d) (fun z => by rw [z] at d; cases d)), d, r⟩
   have hKb : K.In (uI s₁.heap H) := fun b ob e => base_of (KX b ob e) (by
     by_cases n1 : b = P1
     · rw [n1, k1] at e; cases e
     · by_cases n2 : b = P2
       · rw [n2, k2] at e; cases e
       · by_cases n3 : b = a
         · subst n3
           rcases ho with rfl | ⟨hk, _⟩
           · exact ta
           · rw [hk] at e; cases e
         · exact tn b n1 n2 n3)
   have hM : Mod K mg (uI s₁.heap H) := ⟨hKb, nsK hns, ⟨mb, nsK hb, hbb⟩, let ⟨mc, h1, h2⟩ := hlim; ⟨mc, nsK h1, h2⟩⟩
   have hB : BMain mg (uI s₁.heap H) := by
     obtain ⟨bm, ob, b1, b2, b3, b4, b5, b6⟩ := hbm
     exact ⟨bm, ob, b1, b2, base_of b3 (noD b3 (fun z => by rw [z] at b4; cases b4) (fun z => by rw [z] at b4; exact absurd (Value.type.inj b4) (by decide))), b4, b5, b6⟩
   have e0 : Env0 P w K mg (uI s₁.heap H) callerA [] s₁ H := ⟨rfl, hM, fun b o e => aT3 e, Nat.le_of_eq (aH5 _ _), trivial, fun b hb => absurd (show b ∈ ([] : List Addr) from hb) (by simp), hok, .of_eq hg⟩
   refine codeAny_mono ((F _ hKb (nsK hns) hB).run callerA [] s₁ H ⟨[.ref a], []⟩ [.ref a] [.ref a] _ _ hr e0 (hbind s₁ (.ref a)) (.cons rfl .nil) (hsp H t1 t2 hS)) fun r s' h => ?_
   cases r with
   | error e => exact (hCX H e s' h).elim
   | ok fl =>
     cases fl with
     | next => exact False.elim h
     | brk => exact False.elim h
     | cont => exact False.elim h
     | ret u =>
       obtain ⟨v, H', os, bare, un, hok', r', q⟩ := h
       have q' : v = .bl true := q
       subst q'
       obtain rfl : u = Value.bool true := r'
       have keepN : ∀ b ob, s₁.heap.get? b = some ob → H b = none → s'.heap.get? b = some ob := fun b ob e n => un.keep b ob e n (by intro z; exact absurd (show b ∈ ([] : List Addr) from z) (by simp)) (by simp)
       have grow : ∀ {p c : Addr}, H p = some (.tbl #[]) → CodeHd s₁.heap c p → s₁.heap.get? p = some (tabObj #[]) → ∀ ob, s₁.heap.get? p = some ob → asItWas s₁.heap s'.heap p ob ∧ ∃ o', s'.heap.get? p = some o' := fun {p c} hp hC hp1 ob e => by
         rw [hp1] at e
         cases e
         obtain ⟨more, z⟩ := un.tbls p _ hp
         have z2 := hok' p _ z
         obtain ⟨oc, ws, _, _, _, _, _, _, _, e1, e2, e3, e4, _⟩ := hC
         exact ⟨.inr (.inl ⟨⟨c, oc, ws, e1, e2, e3, e4⟩, rfl, #[], more, rfl, z2⟩), _, z2⟩
       have both : ∀ b ob, s₁.heap.get? b = some ob → asItWas s₁.heap s'.heap b ob ∧ ∃ o', s'.heap.get? b = some o' := fun b ob e => by
         by_cases n1 : b = P1
         · subst n1; exact grow t1 hC1 hP1 ob e
         · by_cases n2 : b = P2
           · subst n2; exact grow t2 hC2 hP2 ob e
           · by_cases n3 : b = a
             · subst n3
               rcases ho with rfl | ⟨_, rfl⟩
               · have := keepN b ob e ta; exact ⟨.inl this, _, this⟩
               · have z2 := un.frzs b _ _ ta
                 obtain ⟨e2, _⟩ := hok' b _ z2
                 rw [ha] at e; cases e
                 exact ⟨.inl e2, _, e2⟩
             · have := keepN b ob e (tn b n1 n2 n3); exact ⟨.inl this, _, this⟩
       exact ⟨rfl, ⟨fun b ob e => (both b ob e).1, fun b ob e => (both b ob e).2⟩, os, bare⟩
 cases hk : K.lookup a with
 | some o =>
   have e := KX a o hk
   rw [ha] at e
   cases e
   exact core none (.inl rfl) (.inr ⟨_, vs.toArray, _, hk, rfl, rfl, rfl, by rw [List.size_toArray, lenV]; exact hl, by simpa using rv⟩)
 | none => exact core _ (.inr ⟨hk, rfl⟩) (.inl (.inr ⟨{ cls := .type "list", data := .seq vs.toArray }, by unfold rB; rw [if_neg a1, if_neg a2, if_pos rfl]⟩))
theorem aI5 {l : W.OpenLaw} {n k : Nat} {q : Program} {loose : List Str} {XP : (Str → Option Value) → Heap → Prop} {YP : World → Heap → Prop} {d : DefRec} {K : Params → W.Frag} {CX : World → CXT} {sp : World → Sp} {x : Str} {P1 P2 c1 c2 : Addr}
   (hn : l.most = some n) (hn2 : n ≤ sizeLine) (hdf : d.params.defaults = []) (hr : Room k callerA) (h12 : P1 ≠ P2)
   (hY : ∀ (w : World) (h : Heap), YP w h → (K w.params).In h ∧ h.get? P1 = some (tabObj #[]) ∧ h.get? P2 = some (tabObj #[]) ∧ CodeHd h c1 P1 ∧ CodeHd h c2 P2 ∧ (K w.params).lookup P1 = none ∧ (K w.params).lookup P2 = none)
   (F : ∀ (w : World) (mg : Str → Option Value) (fa : Addr) (h : Heap), (K w.params).In h → h.Ns mainGlobals mg → mg d.name = some (.ref fa) →
     ∃ fd : FuncData, (∀ (s : Shared) (u : Value), BindsTo s fd ⟨[u], []⟩ [(x, u)]) ∧
       ∀ base : Heap, (K w.params).In base → base.Ns mainGlobals mg → BMain mg base → FnOk l.prog w (K w.params) mg base (CX w) k fa fd [x] (sp w))
   (hsp : ∀ (w : World) (H : Hp) (a : Addr) (ns : List Int), ns.length ≤ n → H P1 = some (.tbl #[]) → H P2 = some (.tbl #[]) → SqL (K w.params) H a (ns.map V.int) → sp w [.ref a] H (fun v _ => v = .bl true) fun _ _ _ => False)
   (hCX : ∀ (w : World) (H : Hp) (s : Shared) (e : Value) (s' : Shared), CX w [] H s (fun _ _ _ => False) e s' → False) :
   W.WalkO q loose XP YP l.row.toRowW d [] (fun f vs => PySem.call f vs) := by
 refine Att.yY hn hdf fun w s₀ s₁ mg mb fa o pm cd doc a vs ns G Y ho hd hcd hmg hobj hints hlen hg => ?_
 obtain ⟨KX, p1, p2, q1, q2, k1, k2⟩ := hY w _ Y
 obtain ⟨fd, hb, hF⟩ := F w mg fa _ KX G.T.g hmg
 exact aH0 KX G.T.g G.T.b G.T.builtins G.T.nolimit G.T.bmain hg hobj hints (Nat.le_trans hlen hn2) hr h12 p1 p2 k1 k2 q1 q2 hF hb (fun H h1 h2 hS => hsp w H a ns hlen h1 h2 hS) fun H e s' => hCX w H s₁ e s'
end L2
namespace J
inductive Mv where
 | pour (a b : Nat) | fill (a : Nat) | emp (a : Nat)
 deriving DecidableEq
def at0 (l : List Int) (i : Nat) : Int := l.getD i 0
def much (sz st : List Int) (a b : Nat) : Int := if at0 sz b - at0 st b < at0 st a then at0 sz b - at0 st b else at0 st a
def behind (sz st : List Int) : Mv → List Int
 | .pour a b => (st.set a (at0 st a - much sz st a b)).set b (at0 st b + much sz st a b)
 | .fill a => st.set a (at0 sz a)
 | .emp a => st.set a 0
def pours (n : Nat) : List Mv := (List.range n).flatMap fun a => ((List.range n).filter fun b => b != a).map fun b => Mv.pour a b
def moves (n : Nat) (tap : Bool) : List Mv := pours n ++ if tap = true then (List.range n).map Mv.fill ++ (List.range n).map Mv.emp else []
def Mv.ok (n : Nat) (tap : Bool) : Mv → Prop
 | .pour a b => a < n ∧ b < n ∧ a ≠ b
 | .fill a => a < n ∧ tap = true
 | .emp a => a < n ∧ tap = true
theorem vG {n : Nat} {tap : Bool} {m : Mv} : m ∈ moves n tap ↔ m.ok n tap := by
 unfold moves pours
 cases tap <;> cases m <;> simp [Mv.ok] <;> (try omega)
 all_goals
   constructor
   · rintro ⟨h1, h2, h3⟩; exact ⟨h1, h2, fun e => h3 e.symm⟩
   · rintro ⟨h1, h2, h3⟩; exact ⟨h1, h2, fun e => h3 e.symm⟩
structure IsSt (sz st : List Int) : Prop where
 len : st.length = sz.length
 bnd : ∀ i, i < sz.length → 0 ≤ at0 st i ∧ at0 st i ≤ at0 sz i
theorem xI (l : List Int) (a i : Nat) (v : Int) : at0 (l.set a v) i = if a = i ∧ i < l.length then v else at0 l i := by
 unfold at0
 simp only [List.getD_eq_getElem?_getD, List.getElem?_set]
 by_cases h : a = i
 · subst h
   by_cases hl : a < l.length
   · simp [hl]
   · simp [hl]
 · simp [h]
theorem IsSt.behind {sz st : List Int} {tap : Bool} {m : Mv} (hs : ∀ i, i < sz.length → 0 ≤ at0 sz i) (h : IsSt sz st) (hm : m.ok sz.length tap) : IsSt sz (behind sz st m) := by
 have hl := h.len
 cases m with
 | pour a b =>
   obtain ⟨ha, hb, hab⟩ := hm
   have h1 := h.bnd a ha
   have h2 := h.bnd b hb
   refine ⟨by simp [J.behind, hl], fun i hi => ?_⟩
   have h3 := h.bnd i hi
   simp only [J.behind, xI, List.length_set, hl]
   unfold much
   by_cases e1 : b = i
   · subst e1; simp only [hi, and_self, if_true]; split <;> omega
   · simp only [e1, false_and, if_false]
     by_cases e2 : a = i
     · subst e2; simp only [hi, and_self, if_true]; split <;> omega
     · simp only [e2, false_and, if_false]; exact h3
 | fill a =>
   refine ⟨by simp [J.behind, hl], fun i hi => ?_⟩
   have h3 := h.bnd i hi
   have h4 := hs i hi
   simp only [J.behind, xI, hl]
   by_cases e2 : a = i
   · subst e2; simp only [hi, and_self, if_true]; omega
   · simp only [e2, false_and, if_false]; exact h3
 | emp a =>
   refine ⟨by simp [J.behind, hl], fun i hi => ?_⟩
   have h3 := h.bnd i hi
   have h4 := hs i hi
   simp only [J.behind, xI, hl]
   by_cases e2 : a = i
   · subst e2; simp only [hi, and_self, if_true]; omega
   · simp only [e2, false_and, if_false]; exact h3
def more (told : List (List Int)) (size : Int) : List (List Int) := told.flatMap fun st => (List.range (size + 1).toNat).map fun (k : Nat) => st ++ [(k : Int)]
def states (sz : List Int) : List (List Int) := sz.foldl more [[]]
def uX (sz : List Int) : Int := sz.foldl (fun m s => m * (s + 1)) 1
theorem yS (sz : List Int) : ∀ (L : List (List Int)) (x : List Int), x ∈ sz.foldl more L ↔ ∃ l ∈ L, ∃ t : List Int, x = l ++ t ∧ IsSt sz t := by
 induction sz with
 | nil =>
   intro L x
   simp only [List.foldl_nil]
   constructor
   · intro h; exact ⟨x, h, [], by simp, ⟨rfl, fun i hi => by simp at hi⟩⟩
   · rintro ⟨l, hl, t, rfl, ht⟩
     have : t = [] := by have := ht.len; simpa using this
     subst this; simpa using hl
 | cons s r ih =>
   intro L x
   rw [List.foldl_cons, ih]
   constructor
   · rintro ⟨l, hl, t, rfl, ht⟩
     unfold more at hl
     simp only [List.mem_flatMap, List.mem_map, List.mem_range] at hl
     obtain ⟨l0, h0, k, hk, rfl⟩ := hl
     refine ⟨l0, h0, (k : Int) :: t, by simp, ⟨by simp [ht.len], fun i hi => ?_⟩⟩
     cases i with
     | zero => simp [at0]; omega
     | succ i => have := ht.bnd i (by simpa using hi); simpa [at0] using this
   · rintro ⟨l, hl, t, rfl, ht⟩
     cases t with
     | nil => have := ht.len; simp at this
     | cons v t =>
       refine ⟨l ++ [v], ?_, t, by simp, ⟨by have := ht.len; simpa using this, fun i hi => ?_⟩⟩
       · unfold more
         simp only [List.mem_flatMap, List.mem_map, List.mem_range]
         have := ht.bnd 0 (by simp)
         simp [at0] at this
         exact ⟨l, hl, v.toNat, by omega, by rw [Int.toNat_of_nonneg this.1]⟩
       · have := ht.bnd (i + 1) (by simpa using hi); simpa [at0] using this
theorem aA1 {sz x : List Int} : x ∈ states sz ↔ IsSt sz x := by
 unfold states
 rw [yS]
 constructor
 · rintro ⟨l, hl, t, rfl, ht⟩
   have : l = [] := by simpa using hl
   subst this; simpa using ht
 · intro h; exact ⟨[], by simp, x, by simp, h⟩
theorem sO (L : List (List Int)) (s : Int) : (more L s).length = L.length * (s + 1).toNat := by
 unfold more
 induction L with
 | nil => simp
 | cons a L ih => rw [List.flatMap_cons, List.length_append, ih]; simp [Nat.add_mul]; omega
theorem sP (sz : List Int) (hs : ∀ s ∈ sz, 0 ≤ s) : ∀ (L : List (List Int)) (p : Int), (L.length : Int) = p → ((sz.foldl more L).length : Int) = sz.foldl (fun m s => m * (s + 1)) p := by
 induction sz with
 | nil => intro L p h; simpa using h
 | cons s r ih =>
   intro L p h
   rw [List.foldl_cons, List.foldl_cons]
   refine ih (fun x hx => hs x (List.mem_cons_of_mem _ hx)) _ _ ?_
   have := hs s List.mem_cons_self
   rw [sO, Int.natCast_mul, h, Int.toNat_of_nonneg (by omega)]
theorem sN {sz : List Int} (hs : ∀ s ∈ sz, 0 ≤ s) : ((states sz).length : Int) = uX sz := sP sz hs _ _ (by simp)
theorem yL {α : Type} [DecidableEq α] : ∀ (xs ys : List α), xs.Nodup → (∀ x ∈ xs, x ∈ ys) → xs.length ≤ ys.length
 | [], ys, _, _ => by simp
 | x :: xs, ys, nd, h => by
   have hx : x ∈ ys := h x List.mem_cons_self
   obtain ⟨hn, nd'⟩ := List.nodup_cons.mp nd
   have := yL xs (ys.erase x) nd' fun z hz => (List.mem_erase_of_ne (show z ≠ x from fun e => hn (e ▸ hz))).mpr (h z (List.mem_cons_of_mem _ hz))
   rw [List.length_erase_of_mem hx] at this
   have : 0 < ys.length := List.length_pos_of_mem hx
   simp only [List.length_cons]; omega
end J
namespace J
abbrev Way := List Int × Option (Nat × Mv)
def iZ (sz here : List Int) (p : Nat) (w : List Way) (m : Mv) : List Way :=
 if behind sz here m ∈ w.map (·.1) then w else w ++ [(behind sz here m, some (p, m))]
def gY (sz here : List Int) (p : Nat) (ms : List Mv) (w : List Way) : List Way := ms.foldl (iZ sz here p) w
def run (sz : List Int) (ms : List Mv) (st : List Int) : Nat → List Way
 | 0 => [(st, none)]
 | p + 1 => match (run sz ms st p)[p]? with
   | none => run sz ms st p
   | some x => gY sz x.1 p ms (run sz ms st p)
def ways (sz : List Int) (ms : List Mv) (st : List Int) : List Way := run sz ms st (states sz).length
theorem eR {α : Type} {W : List α} {e y : α} {i : Nat} : (W ++ [e])[i]? = some y ↔ W[i]? = some y ∨ (i = W.length ∧ y = e) := by
 rw [List.getElem?_append]
 by_cases h : i < W.length
 · rw [if_pos h]
   constructor
   · exact .inl
   · rintro (z | ⟨z, _⟩)
     · exact z
     · omega
 · rw [if_neg h]
   constructor
   · intro z
     obtain ⟨hl, z⟩ := List.getElem?_eq_some_iff.mp z
     simp at hl
     refine .inr ⟨by omega, ?_⟩
     have : i - W.length = 0 := by omega
     simp [this] at z
     exact z.symm
   · rintro (z | ⟨z, rfl⟩)
     · have := (List.getElem?_eq_some_iff.mp z).1; omega
     · subst z; simp
structure WIn (sz : List Int) (ms : List Mv) (st : List Int) (p : Nat) (P : Nat) (done : List Mv) (W : List Way) : Prop where
 hd : W[0]? = some (st, none)
 nd : (W.map (·.1)).Nodup
 sts : ∀ x ∈ W, IsSt sz x.1
 par : ∀ (i : Nat) (x : List Int) (q : Nat) (m : Mv), W[i]? = some (x, some (q, m)) → q < P ∧ q < i ∧ m ∈ ms ∧ ∃ y, W[q]? = some y ∧ x = behind sz y.1 m
 non : ∀ (i : Nat) (x : List Int), W[i]? = some (x, none) → i = 0
 mono : ∀ (i j : Nat) (x y : List Int) (q : Nat) (m : Mv) (q' : Nat) (m' : Mv), i ≤ j → W[i]? = some (x, some (q, m)) → W[j]? = some (y, some (q', m')) → q ≤ q'
 cls : ∀ (i : Nat) (x : Way) (m : Mv), W[i]? = some x → (i < p ∧ m ∈ ms) ∨ (i = p ∧ m ∈ done) → ∃ (j : Nat) (y : Way), W[j]? = some y ∧ y.1 = behind sz x.1 m ∧ (y.2 = none ∨ ∃ q m', y.2 = some (q, m') ∧ q ≤ i)
section
variable {sz st : List Int} {ms done : List Mv} {p P : Nat} {W : List Way} {here : List Int} {m : Mv}
theorem WIn.add (h : WIn sz ms st p (p + 1) done W) (hp : ∃ o, W[p]? = some (here, o)) (hm : m ∈ ms) (hs : IsSt sz (behind sz here m)) : WIn sz ms st p (p + 1) (done ++ [m]) (iZ sz here p W m) := by
 obtain ⟨o, hp⟩ := hp
 have plt : p < W.length := (List.getElem?_eq_some_iff.mp hp).1
 unfold iZ
 by_cases hb : behind sz here m ∈ W.map (·.1)
 · rw [if_pos hb]
   refine ⟨h.hd, h.nd, h.sts, h.par, h.non, h.mono, fun i x m' hx hc => ?_⟩
   rcases hc with ⟨h1, h2⟩ | ⟨h1, h2⟩
   · exact h.cls i x m' hx (.inl ⟨h1, h2⟩)
   · rcases List.mem_append.mp h2 with h3 | h3
     · exact h.cls i x m' hx (.inr ⟨h1, h3⟩)
     · have e : m' = m := by simpa using h3
       subst e; subst h1
       rw [hp] at hx; cases hx
       obtain ⟨y, hy, e⟩ := List.mem_map.mp hb
       obtain ⟨j, hj⟩ := List.mem_iff_getElem?.mp hy
       refine ⟨j, y, hj, e, ?_⟩
       obtain ⟨y1, y2⟩ := y
       cases y2 with
       | none => exact .inl rfl
       | some qm => obtain ⟨q, m''⟩ := qm; exact .inr ⟨q, m'', rfl, by have := (h.par j _ _ _ hj).1; omega⟩
 · rw [if_neg hb]
   refine ⟨?_, ?_, ?_, ?_, ?_, ?_, ?_⟩
   · exact eR.mpr (.inl h.hd)
   · rw [List.map_append, List.nodup_append]
     refine ⟨h.nd, by simp, fun a ha b hb' e => ?_⟩
     have : b = behind sz here m := by simpa using hb'
     subst this; subst e; exact hb ha
   · intro x hx
     rcases List.mem_append.mp hx with z | z
     · exact h.sts x z
     · have : x = (behind sz here m, some (p, m)) := by simpa using z
       subst this; exact hs
   · intro i x q m' hx
     rcases eR.mp hx with z | ⟨z1, z2⟩
     · obtain ⟨a, b, c, y, hy, e⟩ := h.par i x q m' z
       exact ⟨a, b, c, y, eR.mpr (.inl hy), e⟩
     · cases z2
       exact ⟨by omega, by omega, hm, (here, o), eR.mpr (.inl hp), rfl⟩
   · intro i x hx
     rcases eR.mp hx with z | ⟨z1, z2⟩
     · exact h.non i x z
     · cases z2
   · intro i j x y q m1 q' m2 hij hi hj
     rcases eR.mp hi with z | ⟨z1, z2⟩
     · rcases eR.mp hj with u | ⟨u1, u2⟩
       · exact h.mono i j x y q m1 q' m2 hij z u
       · cases u2; have := (h.par i x q m1 z).1; omega
     · cases z2
       rcases eR.mp hj with u | ⟨u1, u2⟩
       · have := (List.getElem?_eq_some_iff.mp u).1; omega
       · cases u2; omega
   · intro i x m' hx hc
     rcases eR.mp hx with z | ⟨z1, z2⟩
     · have old : ((i < p ∧ m' ∈ ms) ∨ (i = p ∧ m' ∈ done)) → ∃ (j : Nat) (y : Way), (W ++ [(behind sz here m, some (p, m))])[j]? = some y ∧ y.1 = behind sz x.1 m' ∧ (y.2 = none ∨ ∃ q m', y.2 = some (q, m') ∧ q ≤ i) := fun hc => by
         obtain ⟨j, y, a, b, c⟩ := h.cls i x m' z hc
         exact ⟨j, y, eR.mpr (.inl a), b, c⟩
       rcases hc with hc | ⟨h1, h2⟩
       · exact old (.inl hc)
       · rcases List.mem_append.mp h2 with h3 | h3
         · exact old (.inr ⟨h1, h3⟩)
         · have e : m' = m := by simpa using h3
           subst e; subst h1
           rw [hp] at z; cases z
           exact ⟨W.length, _, eR.mpr (.inr ⟨rfl, rfl⟩), rfl, .inr ⟨i, m', rfl, Nat.le_refl _⟩⟩
     · rcases hc with ⟨h1, h2⟩ | ⟨h1, h2⟩ <;> omega
theorem sY {here : List Int} {p : Nat} {m : Mv} {W : List Way} {i : Nat} {y : Way} (h : W[i]? = some y) : (iZ sz here p W m)[i]? = some y := by
 unfold iZ
 split
 · exact h
 · exact eR.mpr (.inl h)
theorem WIn.all : ∀ (todo : List Mv) {done : List Mv} {W : List Way}, WIn sz ms st p (p + 1) done W → (∃ o, W[p]? = some (here, o)) → (∀ m ∈ todo, m ∈ ms) → (∀ m ∈ todo, IsSt sz (behind sz here m)) →
   WIn sz ms st p (p + 1) (done ++ todo) (gY sz here p todo W)
 | [], done, W, h, _, _, _ => by simpa [gY] using h
 | m :: todo, done, W, h, hp, hm, hs => by
   have h1 := h.add hp (hm m List.mem_cons_self) (hs m List.mem_cons_self)
   obtain ⟨o, hp⟩ := hp
   have h2 := WIn.all todo h1 ⟨o, sY hp⟩ (fun x hx => hm x (List.mem_cons_of_mem _ hx)) (fun x hx => hs x (List.mem_cons_of_mem _ hx))
   simpa [gY, List.append_assoc] using h2
theorem WIn.next (h : WIn sz ms st p (p + 1) ms W) : WIn sz ms st (p + 1) (p + 1) [] W :=
 ⟨h.hd, h.nd, h.sts, h.par, h.non, h.mono, fun i x m hx hc => h.cls i x m hx (by
   rcases hc with ⟨h1, h2⟩ | ⟨_, h2⟩
   · by_cases e : i = p
     · exact .inr ⟨e, h2⟩
     · exact .inl ⟨by omega, h2⟩
   · simp at h2)⟩
theorem WIn.open (h : WIn sz ms st p p [] W) : WIn sz ms st p (p + 1) [] W :=
 ⟨h.hd, h.nd, h.sts, fun i x q m e => let ⟨a, b⟩ := h.par i x q m e; ⟨by omega, b⟩, h.non, h.mono, h.cls⟩
theorem WIn.beyond (h : WIn sz ms st p p [] W) (hl : W.length ≤ p) : WIn sz ms st (p + 1) (p + 1) [] W :=
 ⟨h.hd, h.nd, h.sts, fun i x q m e => let ⟨a, b⟩ := h.par i x q m e; ⟨by omega, b⟩, h.non, h.mono, fun i x m hx hc => by
   have := (List.getElem?_eq_some_iff.mp hx).1
   rcases hc with ⟨_, h2⟩ | ⟨_, h2⟩
   · exact h.cls i x m hx (.inl ⟨by omega, h2⟩)
   · simp at h2⟩
structure Good (sz : List Int) (ms : List Mv) : Prop where
 keep : ∀ st m, IsSt sz st → m ∈ ms → IsSt sz (behind sz st m)
theorem qR (g : Good sz ms) (hst : IsSt sz st) : ∀ p, WIn sz ms st p p [] (run sz ms st p)
 | 0 => by
   unfold run
   refine ⟨rfl, by simp, fun x hx => ?_, fun i x q m e => ?_, fun i x e => ?_, fun i j x y q m q' m' _ e _ => ?_, fun i x m _ hc => ?_⟩
   · have : x = (st, none) := by simpa using hx
     subst this; exact hst
   · cases i with
     | zero => simp at e
     | succ i => simp at e
   · cases i with
     | zero => rfl
     | succ i => simp at e
   · cases i with
     | zero => simp at e
     | succ i => simp at e
   · rcases hc with ⟨h1, _⟩ | ⟨_, h2⟩
     · omega
     · simp at h2
 | p + 1 => by
   have h := qR g hst p
   unfold run
   cases e : (run sz ms st p)[p]? with
   | none => exact h.beyond (List.getElem?_eq_none_iff.mp e)
   | some x =>
     have hx : IsSt sz x.1 := h.sts x (List.mem_iff_getElem?.mpr ⟨p, e⟩)
     have := h.open.all (here := x.1) ms ⟨x.2, e⟩ (fun _ q => q) (fun m q => g.keep x.1 m hx q)
     exact WIn.next (by simpa using this)
theorem vW (g : Good sz ms) (hst : IsSt sz st) (p : Nat) : (run sz ms st p).length ≤ (states sz).length := by
 have h := qR g hst p
 have := yL _ (states sz) h.nd fun x hx => by
   obtain ⟨y, hy, rfl⟩ := List.mem_map.mp hx
   exact aA1.mpr (h.sts y hy)
 simpa using this
theorem rP {p : Nat} (h : (run sz ms st p).length ≤ p) : ∀ k, run sz ms st (p + k) = run sz ms st p
 | 0 => rfl
 | k + 1 => by
   have ih := rP h k
   show run sz ms st ((p + k) + 1) = _
   rw [run, ih, List.getElem?_eq_none_iff.mpr (by omega)]
theorem aS2 (g : Good sz ms) (hst : IsSt sz st) {p : Nat} (h : (run sz ms st p).length ≤ p) : run sz ms st p = ways sz ms st := by
 unfold ways
 by_cases e : p ≤ (states sz).length
 · have := rP h ((states sz).length - p)
   rw [← this]; congr 1; omega
 · have := rP (p := (states sz).length) (vW g hst _) (p - (states sz).length)
   rw [← this]; congr 1; omega
theorem aK4 {p : Nat} {x : Way} (e : (run sz ms st p)[p]? = some x) : run sz ms st (p + 1) = gY sz x.1 p ms (run sz ms st p) := by
 rw [run, e]
theorem aI3 (g : Good sz ms) (hst : IsSt sz st) : WIn sz ms st (ways sz ms st).length (states sz).length [] (ways sz ms st) := by
 have h := qR g hst (states sz).length
 exact ⟨h.hd, h.nd, h.sts, h.par, h.non, h.mono, fun i x m hx hc => h.cls i x m hx (by
   rcases hc with ⟨h1, h2⟩ | ⟨_, h2⟩
   · exact .inl ⟨Nat.lt_of_lt_of_le h1 (vW g hst _), h2⟩
   · simp at h2)⟩
end
theorem nX {sz : List Int} {tap : Bool} (hs : ∀ i, i < sz.length → 0 ≤ at0 sz i) : Good sz (moves sz.length tap) :=
 ⟨fun _ _ h hm => h.behind hs (vG.mp hm)⟩
end J
namespace J
section
variable {sz st : List Int} {ms done : List Mv} {p P : Nat} {W : List Way}
end
end J
namespace Jug
open PySem L2
theorem if0 {X : Cx} {e : Expr} {te : TE} {b : List Stmt} {i : Int} {j : Nat} {p1 p2 p3 : Pos} (h : PE X e te) : PS X (.If (.Compare e [.Eq] [.Constant (.int i) j p1] p2) b [] p3) (bB3 (aI8 (tOp rEq te (tC (.int i)))) aI9 aU5) := aT (aV cT h aE (nomark _)) aG aL
theorem fS7 {N P : List Str} {sc : Scope} (kind : sc.kind = .function := by rfl) (co : sc.isCoroutine = false := by rfl) (gen : sc.isGenerator = false := by rfl) (nd : N.Nodup := by decide +kernel) (pre : N.take P.length = P := by rfl) (par : ∀ x ∈ P, sc.names.lookup x = some .local ∨ sc.names.lookup x = some .cell := by decide +kernel) (nofree : ∀ y ∈ sc.names, y.2 ≠ .free := by decide +kernel) : FnScope N P sc := ⟨kind, co, gen, nd, pre, par, nofree⟩
theorem sz0 : 0 ≤ sizeLine := by decide
theorem sz1 : 1 ≤ sizeLine := by decide
theorem sz2 : 2 ≤ sizeLine := by decide
theorem sz3 : 3 ≤ sizeLine := by decide
theorem sz4 : 4 ≤ sizeLine := by decide
theorem sz5 : 5 ≤ sizeLine := by decide
theorem sz6 : 6 ≤ sizeLine := by decide
theorem sz7 : 7 ≤ sizeLine := by decide
theorem sz8 : 8 ≤ sizeLine := by decide
theorem sz9 : 9 ≤ sizeLine := by decide
end Jug
namespace Jug
open PySem L2
def top (i : Nat) : Stmt := PySem.Challenge.pw_jughouse_k08_refused.main.body.getD i (.Pass ⟨0, 0, 0, 0⟩)
abbrev fC : Stmt := top 10
theorem oG : FnScope ["value", "least", "most"] ["value", "least", "most"] (aF fC) := fS7
abbrev jV : Stmt := top 11
theorem uV : FnScope ["value"] ["value"] (aF jV) := fS7
abbrev iO : Stmt := top 12
theorem dP : FnScope ["house", "state", "held", "sizes", "many", "size"] ["house", "state"] (aF iO) := fS7
abbrev fD : Stmt := top 14
theorem oH : FnScope ["jug"] ["jug"] (aF fD) := fS7
abbrev cM : Stmt := top 16
theorem jS : FnScope ["house", "jug"] ["house", "jug"] (aF cM) := fS7
abbrev bW : Stmt := top 18
theorem iD : FnScope ["house", "jug"] ["house", "jug"] (aF bW) := fS7
abbrev eU : Stmt := top 19
theorem mB : FnScope ["held", "jug", "many", "behind"] ["held", "jug", "many"] (aF eU) := fS7
abbrev fI : Stmt := cA (top 20) 0
theorem cZ : FnScope ["self", "house", "state", "held"] ["self", "house", "state"] (aF fI) := fS7
abbrev nN : Stmt := cA (top 20) 1
theorem zA : FnScope ["self", "house", "held"] ["self", "house", "held"] (aF nN) := fS7
abbrev fF : Stmt := cA (top 21) 0
theorem oM : FnScope ["self", "one", "other"] ["self", "one", "other"] (aF fF) := fS7
abbrev cJ : Stmt := cA (top 21) 1
theorem cX : FnScope ["self", "house", "held", "room", "many", "less"] ["self", "house", "held"] (aF cJ) := fS7
abbrev fK : Stmt := cA (top 22) 0
theorem oN : FnScope ["self", "jug"] ["self", "jug"] (aF fK) := fS7
abbrev cK : Stmt := cA (top 22) 1
theorem jC : FnScope ["self", "house", "held"] ["self", "house", "held"] (aF cK) := fS7
abbrev eP : Stmt := cA (top 23) 0
theorem mZ : FnScope ["self", "jug"] ["self", "jug"] (aF eP) := fS7
abbrev bZ : Stmt := cA (top 23) 1
theorem iW : FnScope ["self", "house", "held"] ["self", "house", "held"] (aF bZ) := fS7
abbrev gR : Stmt := top 24
theorem hJ : FnScope ["moves", "told", "move"] ["moves"] (aF gR) := fS7
abbrev iP : Stmt := top 25
theorem eB : FnScope ["moves", "house", "state", "told", "behind", "move"] ["moves", "house", "state"] (aF iP) := fS7
abbrev eF : Stmt := top 28
theorem mQ : FnScope ["jug"] ["jug"] (aF eF) := fS7
abbrev dF : Stmt := top 30
theorem lM : FnScope ["many"] ["many"] (aF dF) := fS7
abbrev iN : Stmt := top 31
theorem lA : FnScope ["jugs", "told", "jug"] ["jugs"] (aF iN) := fS7
abbrev eI : Stmt := top 32
theorem iS : FnScope ["state", "told", "many"] ["state"] (aF eI) := fS7
abbrev cG : Stmt := top 33
theorem jA : FnScope ["house", "jug"] ["house", "jug"] (aF cG) := fS7
abbrev cR : Stmt := top 35
theorem kD : FnScope ["house", "state"] ["house", "state"] (aF cR) := fS7
abbrev fJ : Stmt := cA (top 36) 0
theorem jH : FnScope ["self", "house", "state", "held"] ["self", "house", "state"] (aF fJ) := fS7
abbrev tO : Stmt := cA (top 36) 1
theorem aK2 : FnScope ["self", "house", "held"] ["self", "house", "held"] (aF tO) := fS7
abbrev eO : Stmt := cA (top 37) 0
theorem mY : FnScope ["self", "jug", "many"] ["self", "jug", "many"] (aF eO) := fS7
abbrev dH : Stmt := cA (top 37) 1
theorem lO : FnScope ["self", "house", "held"] ["self", "house", "held"] (aF dH) := fS7
abbrev fE : Stmt := cA (top 38) 0
theorem oK : FnScope ["self", "many"] ["self", "many"] (aF fE) := fS7
abbrev eW : Stmt := cA (top 38) 1
theorem rM : FnScope ["self", "house", "held"] ["self", "house", "held"] (aF eW) := fS7
abbrev gX : Stmt := cA (top 39) 0
theorem qB : FnScope ["self", "jugs", "many"] ["self", "jugs", "many"] (aF gX) := fS7
abbrev eK : Stmt := cA (top 39) 1
theorem gI : FnScope ["self", "house", "held", "jug"] ["self", "house", "held"] (aF eK) := fS7
abbrev eJ : Stmt := cA (top 40) 0
theorem mW : FnScope ["self", "state"] ["self", "state"] (aF eJ) := fS7
abbrev dG : Stmt := cA (top 40) 1
theorem lN : FnScope ["self", "house", "held"] ["self", "house", "held"] (aF dG) := fS7
abbrev eG : Stmt := top 41
theorem mR : FnScope ["goal"] ["goal"] (aF eG) := fS7
abbrev fB : Stmt := top 43
theorem cD : FnScope ["house", "state", "start", "moves", "ways", "row", "place", "here", "move", "behind"] ["house", "state"] (aF fB) := fS7
abbrev iL : Stmt := top 44
theorem rK : FnScope ["house", "state"] ["house", "state"] (aF iL) := fS7
abbrev iM : Stmt := top 45
theorem mC : FnScope ["house", "state", "amounts", "held", "many"] ["house", "state"] (aF iM) := fS7
abbrev pM : Stmt := top 46
theorem qQ : FnScope ["house", "one", "other", "ahead", "behind"] ["house", "one", "other"] (aF pM) := fS7
abbrev tM : Stmt := cA (top 49) 0
theorem aK0 : FnScope ["self", "pours", "heights"] ["self", "pours", "heights"] (aF tM) := fS7
abbrev tQ : Stmt := cA (top 50) 0
theorem aK3 : FnScope ["self", "among"] ["self", "among"] (aF tQ) := fS7
abbrev jM : Stmt := top 51
theorem rL : FnScope ["house", "ways", "goal", "state"] ["house", "ways", "goal"] (aF jM) := fS7
abbrev zI : Stmt := top 52
theorem aU6 : FnScope ["ways", "state", "back", "way"] ["ways", "state"] (aF zI) := fS7
abbrev vV : Stmt := top 53
theorem aR1 : FnScope ["ways", "heights", "state", "way"] ["ways"] (aF vV) := fS7
abbrev kQ : Stmt := top 54
theorem pK : FnScope ["house", "state", "goal", "ways", "last"] ["house", "state", "goal"] (aF kQ) := fS7
abbrev gQ : Stmt := top 57
theorem hG : FnScope ["sizes", "told", "size"] ["sizes"] (aF gQ) := fS7
abbrev dW : Stmt := top 58
theorem gM : FnScope ["sizes", "many", "size"] ["sizes"] (aF dW) := fS7
abbrev eV : Stmt := top 59
theorem iC : FnScope ["many", "pours", "one", "other"] ["many"] (aF eV) := fS7
abbrev dJ : Stmt := top 60
theorem fY : FnScope ["states", "size", "longer", "state", "many"] ["states", "size"] (aF dJ) := fS7
abbrev eN : Stmt := cA (top 61) 0
theorem mX : FnScope ["self", "sizes", "tap"] ["self", "sizes", "tap"] (aF eN) := fS7
abbrev eX : Stmt := cA (top 61) 1
theorem rN : FnScope ["self"] ["self"] (aF eX) := fS7
abbrev eY : Stmt := cA (top 61) 2
theorem fA : FnScope ["self", "many", "told"] ["self"] (aF eY) := fS7
abbrev dY : Stmt := cA (top 61) 3
theorem gN : FnScope ["self", "told", "size"] ["self"] (aF dY) := fS7
abbrev tN : Stmt := cA (top 61) 4
theorem aK1 : FnScope ["self"] ["self"] (aF tN) := fS7
abbrev xT : Stmt := top 63
theorem aS0 : FnScope ["move"] ["move"] (aF xT) := fS7
abbrev dU : Stmt := top 64
theorem lL : FnScope ["moves"] ["moves"] (aF dU) := fS7
abbrev dX : Stmt := top 66
theorem qI : FnScope ["_law_script", "_law_k"] ["_law_script", "_law_k"] (aF dX) := fS7
abbrev gA : Stmt := top 67
theorem mV : FnScope ["_law_error", "_law_found"] ["_law_error"] (aF gA) := fS7
abbrev hU : Stmt := top 68
theorem oJ : FnScope ["_law_ask", "_law_one", "_law_other", "_law_error"] ["_law_ask", "_law_one", "_law_other"] (aF hU) := fS7
abbrev gB : Stmt := top 69
theorem tK : FnScope ["_law_door", "_law_bad"] ["_law_door", "_law_bad"] (aF gB) := fS7
abbrev cV : Stmt := top 70
theorem jT : FnScope ["_law_door", "_law_bad", "_law_house_here"] ["_law_door", "_law_bad"] (aF cV) := fS7
abbrev dD : Stmt := top 71
theorem kE : FnScope ["_law_door", "_law_bad", "_law_house_here"] ["_law_door", "_law_bad"] (aF dD) := fS7
abbrev fZ : Stmt := top 72
theorem mT : FnScope ["_law_door", "_law_way", "_law_house_here", "_law_move"] ["_law_door", "_law_way"] (aF fZ) := fS7
abbrev dE : Stmt := top 73
theorem oI : FnScope ["_law_door", "_law_bad"] ["_law_door", "_law_bad"] (aF dE) := fS7
abbrev cW : Stmt := top 74
theorem jU : FnScope ["_law_door", "_law_way", "_law_goal"] ["_law_door", "_law_way"] (aF cW) := fS7
abbrev iQ : Stmt := top 75
theorem qA : FnScope ["_law_ask", "_law_doors", "_law_things", "_law_due", "_law_door", "_law_thing"] ["_law_ask", "_law_doors", "_law_things", "_law_due"] (aF iQ) := fS7
abbrev cI : Stmt := top 76
theorem jB : FnScope ["_law_far", "_law_due", "_law_jugs", "_law_thing"] ["_law_far", "_law_due"] (aF cI) := fS7
abbrev hV : Stmt := top 77
theorem vU : FnScope [] [] (aF hV) := fS7
abbrev nA : Stmt := top 78
theorem aJ9 : FnScope ["_law_script", "_law_far", "_law_due", "_law_k", "_law_sizes", "_law_states", "_law_bad", "_law_thing"] ["_law_script"] (aF nA) := fS7
end Jug
namespace Jug
open PySem L2
structure Bt (mg : Str → Option Value) : Prop where
 isinstance : mg "isinstance" = none
 int : mg "int" = none
 bool : mg "bool" = none
 tuple : mg "tuple" = none
 list : mg "list" = none
 len : mg "len" = none
 zip : mg "zip" = none
 range : mg "range" = none
 min : mg "min" = none
 str : mg "str" = none
 jugs : ∃ t, mg "MOST_JUGS" = some (.int 4 t)
 size : ∃ t, mg "MOST_SIZE" = some (.int 60 t)
theorem aS : bootBuiltins "isinstance" = some (.builtin "isinstance") := by decide +kernel
theorem aQ8 : bootBuiltins "int" = some (.type "int") := by decide +kernel
theorem qX : bootBuiltins "bool" = some (.type "bool") := by decide +kernel
theorem bP : bootBuiltins "tuple" = some (.type "tuple") := by decide +kernel
theorem cQ : bootBuiltins "list" = some (.type "list") := by decide +kernel
theorem bA2 : bootBuiltins "min" = some (.builtin "min") := by decide +kernel
section
variable {P : Program} {w : World} {K : W.Frag} {mg : Str → Option Value} {base : Heap}
theorem aO2 : W.kitOne K (.type "int") (.type "int") = some true := by
 unfold W.kitOne
 rw [if_pos (by simp)]
theorem aO3 : W.kitOne K (.type "int") (.type "bool") = some false := by
 unfold W.kitOne
 rw [if_neg (by decide)]
 with_unfolding_all rfl
theorem wT : W.kitOne K (.type "tuple") (.type "tuple") = some true := by
 unfold W.kitOne
 rw [if_pos (by simp)]
theorem pU : W.kitOne K (.type "list") (.type "list") = some true := by
 unfold W.kitOne
 rw [if_pos (by simp)]
theorem aO4 : W.kitOne K (.type "bool") (.type "bool") = some true := by
 unfold W.kitOne
 rw [if_pos (by simp)]
def fW : Sp := fun vs H Q _ => ∃ i lo hi : Int, vs = [.int i, .int lo, .int hi] ∧ Q (.bl (decide (lo ≤ i) && decide (i ≤ hi))) H
theorem wE (F : Fun K "is_number" "is_number" fC f fd) (B : Bt mg) : FnOk P w K mg base CX0 1 f fd ["value", "least", "most"] fW := by
 refine F.ok oG (fun vs H Q E h => ?_) (fun cdv A outer s H vs Q E hr h => ?_)
 · obtain ⟨i, lo, hi, rfl, _⟩ := h
   rfl
 · obtain ⟨i, lo, hi, rfl, k⟩ := h
   refine ⟨_, aH (aP (pP (aQ bV (by rfl) B.isinstance aS (aA (pv 0) (aA (dL (v := .ty "int") (by rfl) B.int aQ8 rfl) aB)))
     (pP (aL4 (aQ bV (by rfl) B.isinstance aS (aA (pv 0) (aA (dL (v := .ty "bool") (by rfl) B.bool qX rfl) aB))))
     (vZ (xX lP lP (pv 1) (pv 0) (pv 2)))))), ?_⟩
   refine ⟨_, rfl, _, _, _, _, _, rfl, .ty "int", .int i, aO2, _, rfl, dR ?_⟩
   refine ⟨_, rfl, _, _, _, _, _, rfl, .ty "bool", .int i, aO3, _, rfl, _, rfl, dR ?_⟩
   refine ⟨_, rfl, _, rfl, _, _, rfl, rfl, _, rfl, ?_⟩
   by_cases h1 : lo ≤ i
   · rw [decide_eq_true h1]
     refine dR ⟨_, rfl, _, _, rfl, rfl, ?_⟩
     rw [decide_eq_true h1, Bool.true_and] at k
     exact k
   · rw [decide_eq_false h1]
     refine cB ?_
     rw [decide_eq_false h1, Bool.false_and] at k
     exact k
def pH : Sp := fun vs H Q _ => ∃ i : Int, vs = [.int i] ∧ Q (.bl (decide (0 ≤ i) && decide (i ≤ 3))) H
theorem aG1 (F : Fun K "is_jug" "is_jug" jV f fd) (B : Bt mg) (N : FnB P w K mg base 1 "is_number" ["value", "least", "most"] fW) : FnOk P w K mg base CX0 2 f fd ["value"] pH := by
 obtain ⟨t4, e4⟩ := B.jugs
 refine F.ok uV (fun vs H Q E h => ?_) (fun cdv A outer s H vs Q E hr h => ?_)
 · obtain ⟨i, rfl, _⟩ := h
   rfl
 · obtain ⟨i, rfl, k⟩ := h
   refine ⟨_, aH (aP (aU N hr (aA (pv 0) (aA aE (aA (eD kK (bB (v := .int 4) (by rfl) e4 ⟨_, rfl⟩) aE) aB))))), ?_⟩
   exact ⟨_, rfl, _, _, rfl, rfl, i, 0, 3, rfl, k⟩
end
theorem fQ {l : List Int} {i : Nat} {x : V} (h : (l.map V.int)[i]? = some x) : ∃ z, l[i]? = some z ∧ x = .int z := by
 rw [List.getElem?_map] at h
 cases e : l[i]? with
 | none => rw [e] at h; cases h
 | some z => rw [e] at h; exact ⟨z, rfl, (Option.some.inj h).symm⟩
theorem aR0 {l : List Int} {i : Nat} {z : Int} (h : l[i]? = some z) : J.at0 l i = z := by
 unfold J.at0
 rw [List.getD_eq_getElem?_getD, h]; rfl
theorem aP3 {l : List Int} {i : Nat} (h : i < l.length) : l[i]? = some (J.at0 l i) := by
 unfold J.at0
 rw [List.getD_eq_getElem?_getD, List.getElem?_eq_getElem h]; rfl
theorem jK {l : List Int} {i : Nat} (h : i < l.length) : (l.map V.int)[i]? = some (.int (J.at0 l i)) := by
 rw [List.getElem?_map, aP3 h]; rfl
theorem bB8 {sz st : List Int} {i : Nat} {z y : Int} (h : J.IsSt sz st) (h1 : st[i]? = some z) (h2 : sz[i]? = some y) : 0 ≤ z ∧ z ≤ y := by
 have := h.bnd i (List.getElem?_eq_some_iff.mp h2).1
 rw [aR0 h1, aR0 h2] at this
 exact this
def hF (t : Addr) (tap : Bool) : List (Str × V) := iF "tap" (.bl tap) (iF "jug_sizes" (.ref t) [])
theorem aN3 : ¬ (("tap" : Str) = "jug_sizes") := by decide +kernel
theorem aP2 (t : Addr) (tap : Bool) : (hF t tap).lookup ("jug_sizes" : Str) = some (.ref t) := by
 unfold hF
 rw [aX, if_neg (fun e => aN3 e.symm), aX, if_pos rfl]
theorem aA8 (t : Addr) (tap : Bool) : (hF t tap).lookup ("tap" : Str) = some (.bl tap) := by
 unfold hF
 rw [aX, if_pos rfl]
theorem mE (t : Addr) (tap : Bool) {m : Str} (h1 : ¬ m = "tap") (h2 : ¬ m = "jug_sizes") : (hF t tap).lookup m = none := by
 unfold hF
 rw [aX, if_neg h1, aX, if_neg h2]
 rfl
def House (CH : Addr) (H : Hp) (p : Addr) (sz : List Int) (tap : Bool) : Prop := ∃ dx t, H p = some (.ins CH dx (hF t tap)) ∧ H t = some (.tup (sz.map V.int))
theorem House.mono {CH : Addr} {H H' : Hp} {p : Addr} {sz : List Int} {tap : Bool} (h : House CH H p sz tap) (s : Same H H') : House CH H' p sz tap := by
 obtain ⟨dx, t, h1, h2⟩ := h
 exact ⟨dx, t, s _ _ h1, s _ _ h2⟩
structure CHs (K : W.Frag) (C : Addr) : Prop where
 cl : Cls K C
 js : fT K C "jug_sizes"
 tap : fT K C "tap"
section
variable {P : Program} {w : World} {K : W.Frag} {mg : Str → Option Value} {base : Heap} {CH : Addr}
def hZ (CH : Addr) : Sp := fun vs H Q _ => ∃ p sz tap, vs = [.ref p] ∧ House CH H p sz tap ∧ ∀ l, H l = none → Q (.ref l) (upd H l (.lst (sz.map V.int)))
theorem aM2 (F : Fun K "sizes" "House.sizes" eX f fd) (B : Bt mg) (C : CHs K CH) : FnOk P w K mg base CX0 1 f fd ["self"] (hZ CH) := by
 refine F.ok rN (fun vs H Q E h => ?_) (fun cdv A outer s H vs Q E hr h => ?_)
 · obtain ⟨p, sz, tap, rfl, _⟩ := h
   rfl
 · obtain ⟨p, sz, tap, rfl, ⟨dx, t, hp, ht⟩, k⟩ := h
   refine ⟨_, aH (aP (aR cF (by rfl) B.list cQ (aA (bR (pv 0) rfl) aB))), ?_⟩
   exact ⟨_, rfl, p, CH, dx, _, _, rfl, hp, C.cl, C.js, aP2 _ _, t, _, rfl, .inr (SqT.of ht), fun l hl => k l hl⟩
def dO (CH : Addr) : Sp := fun vs H Q _ => ∃ p sz tap a st, vs = [.ref p, .ref a] ∧ House CH H p sz tap ∧ H a = some (.tup (st.map V.int)) ∧ J.IsSt sz st ∧
 ∀ l H', Same H H' → H l = none → H' l = some (.lst (st.map V.int)) → Q (.ref l) H'
theorem zT (F : Fun K "held_in" "held_in" iO f fd) (B : Bt mg) (N : FnB P w K mg base 1 "is_number" ["value", "least", "most"] fW)
   (S : MeB P w K mg base 1 CH "sizes" ["self"] (hZ CH)) : FnOk P w K mg base CX0 2 f fd ["house", "state"] (dO CH) := by
 refine F.ok dP (fun vs H Q E h => ?_) (fun cdv A outer s H vs Q E hr h => ?_)
 · obtain ⟨p, sz, tap, a, st, rfl, _⟩ := h
   rfl
 · obtain ⟨p, sz, tap, a, st, rfl, hh, ha, hst, k⟩ := h
   refine ⟨_, aC (aT (bJ (bK (aQ bV (by rfl) B.isinstance aS (aA (pv 1) (aA (dL (v := .ty "tuple") (by rfl) B.tuple bP rfl) aB))))) aG aL)
     (aC (aM (i := 2) dP.nd rfl (Or.inl rfl) (aR cF (by rfl) B.list cQ (aA (pv 1) aB)))
     (aC (aM (i := 3) dP.nd rfl (Or.inl rfl) (jW S (pv 0) hr))
     (aC (aT (aV vB (aQ bC (by rfl) B.len PySem.boot_len (aA (pv 2) aB)) (aQ bC (by rfl) B.len PySem.boot_len (aA (pv 3) aB)) (nomark _)) aG aL)
     (aC (cN PassesOwn.never rfl (aL1 (by rfl) B.zip (aA (pv 2) (aA (pv 3) aB)))
       (aL2 rfl (oP (bT (i := 4) dP.nd rfl (Or.inl rfl)) (oP (bT (i := 5) dP.nd rfl (Or.inl rfl)) aB7)))
       (aH (aT (bJ (bK (aU N hr (aA (pv 4) (aA aE (aA (pv 5) aB)))))) aG aL)))
     (aH (aP (pv 2))))))), ?_⟩
   refine ⟨_, rfl, _, _, _, _, _, rfl, .ty "tuple", .tup ha, wT, _, rfl, cB ?_⟩
   refine ⟨_, rfl, a, _, rfl, .inr (SqT.of ha), fun l hl => ?_⟩
   have s1 : Same H (upd H l (.lst (st.map V.int))) := Same.new hl
   obtain ⟨dx, t, hp, ht⟩ := id hh
   refine ⟨_, rfl, p, dx, _, rfl, s1 _ _ hp, mE _ _ (by decide +kernel) (by decide +kernel), p, sz, tap, rfl, hh.mono s1, fun m hm => ?_⟩
   have s2 : Same (upd H l (.lst (st.map V.int))) (upd (upd H l (.lst (st.map V.int))) m (.lst (sz.map V.int))) := Same.new hm
   have e1 := s2 _ _ (aD (H := H))
   have hlen : (st.map V.int).length = (sz.map V.int).length := by simp [hst.len]
   refine ⟨_, rfl, l, _, rfl, .inl (SqL.of e1), _, rfl, m, _, rfl, .inl (SqL.of aD), rfl, _, rfl, aD2 (by rw [hlen]) ?_⟩
   refine ⟨_, rfl, _, rfl, l, m, _, _, rfl, SqL.of e1, SqL.of aD, aD7 (xs := st.map V.int) (ys := sz.map V.int) hlen
     (fun i σ H' => ∃ v4 v5, σ = [some (.ref p), some (.ref a), some (.ref l), some (.ref m), v4, v5] ∧ Same (upd (upd H l (.lst (st.map V.int))) m (.lst (sz.map V.int))) H')
     ⟨none, none, rfl, Same.refl _⟩ (fun i σ H' _ ⟨_, _, _, s3⟩ => ⟨SqL.of (s3 _ _ e1), SqL.of (s3 _ _ aD)⟩) ?_ ?_⟩
   · rintro i x y T σ H' hx hy hT ⟨v4, v5, rfl, s3⟩
     obtain ⟨zx, ex, rfl⟩ := fQ hx
     obtain ⟨zy, ey, rfl⟩ := fQ hy
     have hb := bB8 hst ex ey
     refine ⟨T, _, rfl, SqT.of aD, rfl, _, _, rfl, _, _, rfl, rfl, ?_⟩
     refine ⟨_, rfl, _, rfl, zx, 0, zy, rfl, _, rfl, ?_⟩
     rw [decide_eq_true hb.1, decide_eq_true hb.2]
     refine cB ?_
     exact ⟨_, _, rfl, s3.lay hT⟩
   · rintro σ H' ⟨v4, v5, rfl, s3⟩
     exact ⟨_, rfl, k l H' (s1.trans (s2.trans s3)) hl (s3 _ _ e1)⟩
end
end Jug
namespace Jug
open PySem L2
structure Cz where
 P : Addr
 F : Addr
 E : Addr
def pF (a b : Nat) : List (Str × V) := iF "other" (.int b) (iF "one" (.int a) [])
def jF (a : Nat) : List (Str × V) := iF "jug" (.int a) []
theorem yN : ¬ (("one" : Str) = "other") := by decide +kernel
theorem pQ (a b : Nat) : (pF a b).lookup ("one" : Str) = some (.int a) := by
 unfold pF
 rw [aX, if_neg yN, aX, if_pos rfl]
theorem kR (a b : Nat) : (pF a b).lookup ("other" : Str) = some (.int b) := by
 unfold pF
 rw [aX, if_pos rfl]
theorem aC3 (a b : Nat) {m : Str} (h1 : ¬ m = "other") (h2 : ¬ m = "one") : (pF a b).lookup m = none := by
 unfold pF
 rw [aX, if_neg h1, aX, if_neg h2]
 rfl
theorem nV (a : Nat) : (jF a).lookup ("jug" : Str) = some (.int a) := by
 unfold jF
 rw [aX, if_pos rfl]
theorem sR (a : Nat) {m : Str} (h1 : ¬ m = "jug") : (jF a).lookup m = none := by
 unfold jF
 rw [aX, if_neg h1]
 rfl
def Cz.cl (Z : Cz) : J.Mv → Addr
 | .pour _ _ => Z.P
 | .fill _ => Z.F
 | .emp _ => Z.E
def bD1 : J.Mv → List (Str × V)
 | .pour a b => pF a b
 | .fill a => jF a
 | .emp a => jF a
def iX (Z : Cz) (H : Hp) (p : Addr) (m : J.Mv) : Prop := ∃ dx, H p = some (.ins (Z.cl m) dx (bD1 m))
theorem iX.mono {Z : Cz} {H H' : Hp} {p : Addr} {m : J.Mv} (h : iX Z H p m) (s : Same H H') : iX Z H' p m := let ⟨dx, e⟩ := h; ⟨dx, s _ _ e⟩
structure CPo (K : W.Frag) (C : Addr) : Prop where
 cl : Cls K C
 one : fT K C "one"
 other : fT K C "other"
structure CJu (K : W.Frag) (C : Addr) : Prop where
 cl : Cls K C
 jug : fT K C "jug"
theorem aZ4 {n j : Nat} (h : j < n) : ixN n (j : Int) = some j := by
 unfold ixN
 rw [if_pos (by omega), if_pos (by omega)]; simp
theorem yT (l : List Int) (j : Nat) (v : Int) : (l.map V.int).set j (.int v) = (l.set j v).map V.int := by
 rw [List.map_set]
section
variable {P : Program} {w : World} {K : W.Frag} {mg : Str → Option Value} {base : Heap} {CH : Addr} {Z : Cz}
def hW : Sp := fun vs H Q _ => ∃ (l : Addr) (xs : List Int) (j : Nat) (v : Int), vs = [.ref l, .int j, .int v] ∧ H l = some (.lst (xs.map V.int)) ∧ j < xs.length ∧
 ∀ m H', Same H H' → H' m = some (.lst ((xs.set j v).map V.int)) → Q (.ref m) H'
theorem rX (F : Fun K "with_amount" "with_amount" eU f fd) (B : Bt mg) : FnOk P w K mg base CX0 1 f fd ["held", "jug", "many"] hW := by
 refine F.ok mB (fun vs H Q E h => ?_) (fun cdv A outer s H vs Q E hr h => ?_)
 · obtain ⟨l, xs, j, v, rfl, _⟩ := h
   rfl
 · obtain ⟨l, xs, j, v, rfl, hl, hj, k⟩ := h
   refine ⟨_, aC (aM (i := 3) mB.nd rfl (Or.inl rfl) (aR cF (by rfl) B.list cQ (aA (pv 0) aB)))
     (aC (aX1 (pv 2) (aX2 (pv 3) (pv 1) aJ8)) (aH (aP (pv 3)))), ?_⟩
   refine ⟨_, rfl, l, _, rfl, .inl (SqL.of hl), fun m hm => ?_⟩
   refine ⟨_, rfl, _, rfl, _, rfl, m, _, _, j, rfl, rfl, aD, aZ4 (by simpa using hj), ?_⟩
   refine ⟨_, rfl, k m _ ((Same.new hm).put hm) ?_⟩
   rw [aD, yT]
def cS : Sp := fun vs H Q _ => ∃ (j : Nat), vs = [.int j] ∧ j ≤ 3 ∧ Q .non H
theorem wG (F : Fun K "check_jug" "check_jug" fD f fd) (N : FnB P w K mg base 2 "is_jug" ["value"] pH) : FnOk P w K mg base CX0 3 f fd ["jug"] cS := by
 refine F.ok oH (fun vs H Q E h => ?_) (fun cdv A outer s H vs Q E hr h => ?_)
 · obtain ⟨j, rfl, _⟩ := h
   rfl
 · obtain ⟨j, rfl, hj, k⟩ := h
   refine ⟨_, aH (aT (bJ (bK (aU N hr (aA (pv 0) aB)))) aG aL), ?_⟩
   refine ⟨_, rfl, (j : Int), rfl, _, rfl, ?_⟩
   rw [decide_eq_true (by omega : (0 : Int) ≤ j), decide_eq_true (by omega : (j : Int) ≤ 3)]
   exact cB k
def bQ (CH : Addr) : Sp := fun vs H Q _ => ∃ p sz tap, ∃ (j : Nat), vs = [.ref p, .int j] ∧ House CH H p sz tap ∧ j < sz.length ∧ ∀ H', Same H H' → Q .non H'
theorem nU (F : Fun K "check_house_has" "check_house_has" cM f fd) (B : Bt mg) (S : MeB P w K mg base 1 CH "sizes" ["self"] (hZ CH)) :
   FnOk P w K mg base CX0 2 f fd ["house", "jug"] (bQ CH) := by
 refine F.ok jS (fun vs H Q E h => ?_) (fun cdv A outer s H vs Q E hr h => ?_)
 · obtain ⟨p, sz, tap, j, rfl, _⟩ := h
   rfl
 · obtain ⟨p, sz, tap, j, rfl, hh, hj, k⟩ := h
   obtain ⟨dx, t, hp, ht⟩ := id hh
   refine ⟨_, aH (aT (aV aC5 (pv 1) (aQ bC (by rfl) B.len PySem.boot_len (aA (jW S (pv 0) hr) aB)) (nomark _)) aG aL), ?_⟩
   refine ⟨_, rfl, _, rfl, p, dx, _, rfl, hp, mE _ _ (by decide +kernel) (by decide +kernel), p, sz, tap, rfl, hh, fun m hm => ?_⟩
   refine ⟨m, _, rfl, .inl (SqL.of aD), _, _, rfl, rfl, _, rfl, ?_⟩
   rw [decide_eq_false (by simp; omega)]
   exact cB (k _ (Same.new hm))
def eE (CH : Addr) : Sp := fun vs H Q _ => ∃ p sz, ∃ (j : Nat), vs = [.ref p, .int j] ∧ House CH H p sz true ∧ j < sz.length ∧ ∀ H', Same H H' → Q .non H'
theorem lD (F : Fun K "check_house_can_tap" "check_house_can_tap" bW f fd) (C : CHs K CH) (N : FnB P w K mg base 2 "check_house_has_moves" ["house", "jug"] (bQ CH)) :
   FnOk P w K mg base CX0 3 f fd ["house", "jug"] (eE CH) := by
 refine F.ok iD (fun vs H Q E h => ?_) (fun cdv A outer s H vs Q E hr h => ?_)
 · obtain ⟨p, sz, j, rfl, _⟩ := h
   rfl
 · obtain ⟨p, sz, j, rfl, hh, hj, k⟩ := h
   refine ⟨_, aC (aW (aU N hr (aA (pv 0) (aA (pv 1) aB)))) (aH (aT (bJ (bK (bR (pv 0) rfl))) aG aL)), ?_⟩
   refine ⟨_, rfl, _, rfl, p, sz, true, j, rfl, hh, hj, fun H1 s1 => ?_⟩
   obtain ⟨dx, t, hp, ht⟩ := hh.mono s1
   exact ⟨_, rfl, p, CH, dx, _, _, rfl, hp, C.cl, C.tap, aA8 _ _, _, rfl, cB (k _ s1)⟩
def fX (Z : Cz) : Sp := fun vs H Q _ => ∃ (p dx : Addr) (a b : Nat), vs = [.ref p, .int a, .int b] ∧ H p = some (.ins Z.P dx []) ∧ a ≤ 3 ∧ b ≤ 3 ∧ a ≠ b ∧
 ∀ H', (∀ c o, H c = some o → c ≠ p → H' c = some o) → H' p = some (.ins Z.P dx (pF a b)) → Q .non H'
theorem wK (F : Fun K "__init__" "Pour.__init__" fF f fd) (C : CPo K Z.P) (N : FnB P w K mg base 3 "check_jug_moves" ["jug"] cS) :
   FnOk P w K mg base CX0 4 f fd ["self", "one", "other"] (fX Z) := by
 refine F.ok oM (fun vs H Q E h => ?_) (fun cdv A outer s H vs Q E hr h => ?_)
 · obtain ⟨p, dx, a, b, rfl, _⟩ := h
   rfl
 · obtain ⟨p, dx, a, b, rfl, hp, ha, hb, hab, k⟩ := h
   refine ⟨_, aC (aW (aU N hr (aA (pv 1) aB))) (aC (aW (aU N hr (aA (pv 2) aB)))
     (aC (aT (aV cT (pv 1) (pv 2) (nomark _)) aG aL)
     (aC (fL (pv 0) (pv 1) rfl) (aH (fL (pv 0) (pv 2) rfl))))), ?_⟩
   refine ⟨_, rfl, a, rfl, ha, ?_⟩
   refine ⟨_, rfl, b, rfl, hb, ?_⟩
   refine ⟨_, rfl, _, rfl, rfl, _, rfl, ?_⟩
   rw [decide_eq_false (by simp; omega)]
   refine cB ?_
   refine ⟨_, rfl, _, rfl, p, Z.P, dx, [], rfl, hp, C.cl, C.one, (by show 0 < 1000; decide), ?_⟩
   refine ⟨_, rfl, _, rfl, p, Z.P, dx, _, rfl, aD, C.cl, C.other, (by show 1 < 1000; decide), ?_⟩
   exact k _ (fun c o e hc => by rw [aI hc, aI hc]; exact e) aD
def dB (C : Addr) : Sp := fun vs H Q _ => ∃ (p dx : Addr) (a : Nat), vs = [.ref p, .int a] ∧ H p = some (.ins C dx []) ∧ a ≤ 3 ∧
 ∀ H', (∀ c o, H c = some o → c ≠ p → H' c = some o) → H' p = some (.ins C dx (jF a)) → Q .non H'
theorem wM (F : Fun K "__init__" "Fill.__init__" fK f fd) (C : CJu K Z.F) (N : FnB P w K mg base 3 "check_jug_moves" ["jug"] cS) :
   FnOk P w K mg base CX0 4 f fd ["self", "jug"] (dB Z.F) := by
 refine F.ok oN (fun vs H Q E h => ?_) (fun cdv A outer s H vs Q E hr h => ?_)
 · obtain ⟨p, dx, a, rfl, _⟩ := h
   rfl
 · obtain ⟨p, dx, a, rfl, hp, ha, k⟩ := h
   refine ⟨_, aC (aW (aU N hr (aA (pv 1) aB))) (aH (fL (pv 0) (pv 1) rfl)), ?_⟩
   refine ⟨_, rfl, a, rfl, ha, ?_⟩
   refine ⟨_, rfl, _, rfl, p, Z.F, dx, [], rfl, hp, C.cl, C.jug, (by show 0 < 1000; decide), ?_⟩
   exact k _ (fun c o e hc => by rw [aI hc]; exact e) aD
theorem uG (F : Fun K "__init__" "Empty.__init__" eP f fd) (C : CJu K Z.E) (N : FnB P w K mg base 3 "check_jug_moves" ["jug"] cS) :
   FnOk P w K mg base CX0 4 f fd ["self", "jug"] (dB Z.E) := by
 refine F.ok mZ (fun vs H Q E h => ?_) (fun cdv A outer s H vs Q E hr h => ?_)
 · obtain ⟨p, dx, a, rfl, _⟩ := h
   rfl
 · obtain ⟨p, dx, a, rfl, hp, ha, k⟩ := h
   refine ⟨_, aC (aW (aU N hr (aA (pv 1) aB))) (aH (fL (pv 0) (pv 1) rfl)), ?_⟩
   refine ⟨_, rfl, a, rfl, ha, ?_⟩
   refine ⟨_, rfl, _, rfl, p, Z.E, dx, [], rfl, hp, C.cl, C.jug, (by show 0 < 1000; decide), ?_⟩
   exact k _ (fun c o e hc => by rw [aI hc]; exact e) aD
def uT (Z : Cz) (CH : Addr) (ok : J.Mv → Prop) : Sp := fun vs H Q _ => ∃ p h l sz tap st m, vs = [.ref p, .ref h, .ref l] ∧ ok m ∧ iX Z H p m ∧ House CH H h sz tap ∧ H l = some (.lst (st.map V.int)) ∧ J.IsSt sz st ∧ m.ok sz.length tap ∧
 ∀ r H', Same H H' → H' r = some (.lst ((J.behind sz st m).map V.int)) → Q (.ref r) H'
def wW : J.Mv → Prop := fun m => match m with | .pour _ _ => True | _ => False
def wX : J.Mv → Prop := fun m => match m with | .fill _ => True | _ => False
def aD3 : J.Mv → Prop := fun m => match m with | .emp _ => True | _ => False
theorem zX (F : Fun K "held_behind" "Pour.held_behind" cJ f fd) (B : Bt mg) (C : CPo K Z.P) (N : FnB P w K mg base 2 "check_house_has_moves" ["house", "jug"] (bQ CH))
   (S : MeB P w K mg base 1 CH "sizes" ["self"] (hZ CH)) (W : FnB P w K mg base 1 "with_amount" ["held", "jug", "many"] hW) :
   FnOk P w K mg base CX0 3 f fd ["self", "house", "held"] (uT Z CH wW) := by
 refine F.ok cX (fun vs H Q E h => ?_) (fun cdv A outer s H vs Q E hr h => ?_)
 · obtain ⟨p, h', l, sz, tap, st, m, rfl, _⟩ := h
   rfl
 · obtain ⟨p, q, l, sz, tap, st, m, rfl, hm, hmv, hh, hl, hst, hok, k⟩ := h
   cases m with
   | fill a => exact hm.elim
   | emp a => exact hm.elim
   | pour a b =>
     obtain ⟨ha, hb, hab⟩ := hok
     have hr1 : Room 1 _ := hr.mono (by decide)
     have la : a < st.length := by rw [hst.len]; exact ha
     have lb : b < st.length := by rw [hst.len]; exact hb
     refine ⟨_, aC (aW (aU N hr (aA (pv 1) (aA (bR (pv 0) rfl) aB)))) (aC (aW (aU N hr (aA (pv 1) (aA (bR (pv 0) rfl) aB))))
       (aC (aM (i := 3) cX.nd rfl (Or.inl rfl) (eD kK (fO dA (jW S (pv 1) hr1) (bR (pv 0) rfl) (fun _ _ => rfl)) (fO dA (pv 2) (bR (pv 0) rfl) (fun _ _ => rfl))))
       (aC (aM (i := 4) cX.nd rfl (Or.inl rfl) (aQ (aI1 rfl) (by rfl) B.min bA2 (aA (fO dA (pv 2) (bR (pv 0) rfl) (fun _ _ => rfl)) (aA (pv 3) aB))))
       (aC (aM (i := 5) cX.nd rfl (Or.inl rfl) (aU W hr1 (aA (pv 2) (aA (bR (pv 0) rfl) (aA (eD kK (fO dA (pv 2) (bR (pv 0) rfl) (fun _ _ => rfl)) (pv 4)) aB)))))
       (aH (aP (aU W hr1 (aA (pv 5) (aA (bR (pv 0) rfl) (aA (eD lC (fO dA (pv 2) (bR (pv 0) rfl) (fun _ _ => rfl)) (pv 4)) aB)))))))))), ?_⟩
     obtain ⟨dp, hp⟩ := hmv
     have hp : H p = some (.ins Z.P dp (pF a b)) := hp
     refine ⟨_, rfl, _, rfl, p, Z.P, dp, _, _, rfl, hp, C.cl, C.one, pQ _ _, q, sz, tap, a, rfl, hh, ha, fun H1 s1 => ?_⟩
     refine ⟨_, rfl, _, rfl, p, Z.P, dp, _, _, rfl, s1 _ _ hp, C.cl, C.other, kR _ _, q, sz, tap, b, rfl, hh.mono s1, hb, fun H2 s2 => ?_⟩
     have s02 := s1.trans s2
     obtain ⟨dq, t, hq, ht⟩ := hh.mono s02
     refine ⟨_, rfl, q, dq, _, rfl, hq, mE _ _ (by decide +kernel) (by decide +kernel), q, sz, tap, rfl, hh.mono s02, fun x hx => ?_⟩
     have s03 : Same H (upd H2 x (.lst (sz.map V.int))) := s02.lay hx
     refine ⟨_, rfl, p, Z.P, dp, _, _, rfl, s03 _ _ hp, C.cl, C.other, kR _ _, x, _, _, _, rfl, rfl, SqL.of aD, eZ (jK hb), ?_⟩
     refine ⟨_, rfl, _, rfl, p, Z.P, dp, _, _, rfl, s03 _ _ hp, C.cl, C.other, kR _ _, l, _, _, _, rfl, rfl, SqL.of (s03 _ _ hl), eZ (jK lb), _, _, rfl, rfl, ?_⟩
     refine ⟨_, rfl, _, rfl, p, Z.P, dp, _, _, rfl, s03 _ _ hp, C.cl, C.one, pQ _ _, l, _, _, _, rfl, rfl, SqL.of (s03 _ _ hl), eZ (jK la), _, rfl, _, _, rfl, ?_⟩
     refine ⟨_, rfl, _, rfl, p, Z.P, dp, _, _, rfl, s03 _ _ hp, C.cl, C.one, pQ _ _, _, rfl, _, rfl, p, Z.P, dp, _, _, rfl, s03 _ _ hp, C.cl, C.one, pQ _ _, l, _, _, _, rfl, rfl, SqL.of (s03 _ _ hl), eZ (jK la), _, rfl, _, _, rfl, rfl, l, st, a, _, rfl, s03 _ _ hl, la, fun r H4 s4 e4 => ?_⟩
     have s04 := s03.trans s4
     refine ⟨_, rfl, _, rfl, p, Z.P, dp, _, _, rfl, s04 _ _ hp, C.cl, C.other, kR _ _, _, rfl, _, rfl, p, Z.P, dp, _, _, rfl, s04 _ _ hp, C.cl, C.other, kR _ _, l, _, _, _, rfl, rfl, SqL.of (s04 _ _ hl), eZ (jK lb), _, rfl, _, _, rfl, rfl, r, _, b, _, rfl, e4, (by simpa using lb), fun r' H5 s5 e5 => ?_⟩
     exact k r' H5 (s04.trans s5) e5
end
end Jug
namespace Jug
open PySem L2
def fx : HO → Bool
 | .lst _ => false
 | .dK _ => false
 | .dT _ => false
 | _ => true
def Fix (H H' : Hp) : Prop := ∀ c o, H c = some o → fx o = true → H' c = some o
theorem Fix.of {H H' : Hp} (s : Same H H') : Fix H H' := fun c o e _ => s c o e
theorem Fix.trans {H H1 H2 : Hp} (a : Fix H H1) (b : Fix H1 H2) : Fix H H2 := fun c o e f => b c o (a c o e f) f
theorem Fix.put {H : Hp} {l : Addr} {o o' : HO} (h : H l = some o) (f : fx o = false) : Fix H (upd H l o') := fun c u e g => by
 rw [aI]
 · exact e
 · rintro rfl
   rw [h] at e
   cases e
   rw [f] at g
   cases g
theorem iX.fix {Z : Cz} {H H' : Hp} {p : Addr} {m : J.Mv} (h : iX Z H p m) (s : Fix H H') : iX Z H' p m := let ⟨dx, e⟩ := h; ⟨dx, s _ _ e rfl⟩
theorem House.fix {CH : Addr} {H H' : Hp} {p : Addr} {sz : List Int} {tap : Bool} (h : House CH H p sz tap) (s : Fix H H') : House CH H' p sz tap := by
 obtain ⟨dx, t, h1, h2⟩ := h
 exact ⟨dx, t, s _ _ h1 rfl, s _ _ h2 rfl⟩
def isM (Z : Cz) (H : Hp) : V → J.Mv → Prop := fun v m => ∃ p, v = .ref p ∧ iX Z H p m
def lH (H : Hp) : V → List Int → Prop := fun v st => ∃ a, v = .ref a ∧ H a = some (.tup (st.map V.int))
theorem isM.fix {Z : Cz} {H H' : Hp} (s : Fix H H') : ∀ v m, isM Z H v m → isM Z H' v m := fun _ _ ⟨p, e, h⟩ => ⟨p, e, h.fix s⟩
theorem lH.fix {H H' : Hp} (s : Fix H H') : ∀ v m, lH H v m → lH H' v m := fun _ _ ⟨p, e, h⟩ => ⟨p, e, s _ _ h rfl⟩
theorem nO {Z : Cz} {H H' : Hp} {vs : List V} {ms : List J.Mv} (h : Paired (isM Z H) vs ms) (s : Fix H H') : Paired (isM Z H') vs ms := Paired.mapP h (isM.fix s)
theorem rS {H H' : Hp} {vs : List V} {ms : List (List Int)} (h : Paired (lH H) vs ms) (s : Fix H H') : Paired (lH H') vs ms := Paired.mapP h (lH.fix s)
structure CTy (K : W.Frag) (C : Addr) : Prop where
 ha : W.findIn K (.ref C) "__class__" = some (some (.builtin "object.__class__"))
 hn : W.specialIn K (.builtin "object.__class__") "__get__" = some (some (.builtin "getset_descriptor.__get__"))
 htk : W.takesIn K (.builtin "object.__class__") = some true
 hm : W.mroIn K C (.type "object") = some true
structure MvC (K : W.Frag) (mg : Str → Option Value) (Z : Cz) : Prop where
 po : CPo K Z.P
 fi : CJu K Z.F
 em : CJu K Z.E
 tP : CTy K Z.P
 tF : CTy K Z.F
 tE : CTy K Z.E
 gP : mg "Pour" = some (.ref Z.P)
 gF : mg "Fill" = some (.ref Z.F)
 gE : mg "Empty" = some (.ref Z.E)
 kFP : W.kitOne K (.ref Z.F) (.ref Z.P) = some false
 kEP : W.kitOne K (.ref Z.E) (.ref Z.P) = some false
 kEF : W.kitOne K (.ref Z.E) (.ref Z.F) = some false
theorem fR {K : W.Frag} (C : Addr) : W.kitOne K (.ref C) (.ref C) = some true := by
 unfold W.kitOne
 rw [if_pos (by simp)]
theorem MvC.ty {K : W.Frag} {mg : Str → Option Value} {Z : Cz} (M : MvC K mg Z) {H : Hp} {p : Addr} {m : J.Mv} (h : iX Z H p m) : TyOf K H (.ref p) (.ref (Z.cl m)) := by
 obtain ⟨dx, h⟩ := h
 cases m with
 | pour a b => exact .ins h M.po.cl M.tP.ha M.tP.hn M.tP.htk M.tP.hm
 | fill a => exact .ins h M.fi.cl M.tF.ha M.tF.hn M.tF.htk M.tF.hm
 | emp a => exact .ins h M.em.cl M.tE.ha M.tE.hn M.tE.htk M.tE.hm
theorem MvC.any {K : W.Frag} {mg : Str → Option Value} {Z : Cz} (M : MvC K mg Z) (m : J.Mv) : W.kitAny K (.ref (Z.cl m)) [.ref Z.P, .ref Z.F, .ref Z.E] = some true := by
 cases m with
 | pour a b => show (match W.kitOne K (.ref Z.P) (.ref Z.P) with | some true => some true | some false => _ | none => none) = _; rw [fR]
 | fill a =>
   show (match W.kitOne K (.ref Z.F) (.ref Z.P) with | some true => some true | some false => (match W.kitOne K (.ref Z.F) (.ref Z.F) with | some true => some true | some false => _ | none => none) | none => none) = _
   rw [M.kFP]; dsimp only; rw [fR]
 | emp a =>
   show (match W.kitOne K (.ref Z.E) (.ref Z.P) with | some true => some true | some false => (match W.kitOne K (.ref Z.E) (.ref Z.F) with | some true => some true | some false => (match W.kitOne K (.ref Z.E) (.ref Z.E) with | some true => some true | some false => _ | none => none) | none => none) | none => none) = _
   rw [M.kEP]; dsimp only; rw [M.kEF]; dsimp only; rw [fR]
section
variable {P : Program} {w : World} {K : W.Frag} {mg : Str → Option Value} {base : Heap} {CH : Addr} {Z : Cz}
theorem zY (F : Fun K "held_behind" "Fill.held_behind" cK f fd) (B : Bt mg) (C : CJu K Z.F) (N : FnB P w K mg base 3 "check_house_can_tap" ["house", "jug"] (eE CH))
   (S : MeB P w K mg base 1 CH "sizes" ["self"] (hZ CH)) (W : FnB P w K mg base 1 "with_amount" ["held", "jug", "many"] hW) :
   FnOk P w K mg base CX0 4 f fd ["self", "house", "held"] (uT Z CH wX) := by
 refine F.ok jC (fun vs H Q E h => ?_) (fun cdv A outer s H vs Q E hr h => ?_)
 · obtain ⟨p, h', l, sz, tap, st, m, rfl, _⟩ := h
   rfl
 · obtain ⟨p, q, l, sz, tap, st, m, rfl, hm, hmv, hh, hl, hst, hok, k⟩ := h
   cases m with
   | pour a b => exact hm.elim
   | emp a => exact hm.elim
   | fill a =>
     obtain ⟨ha, rfl⟩ := hok
     have hr1 : Room 1 _ := hr.mono (by decide)
     have la : a < st.length := by rw [hst.len]; exact ha
     refine ⟨_, aC (aW (aU N hr (aA (pv 1) (aA (bR (pv 0) rfl) aB))))
       (aH (aP (aU W hr1 (aA (pv 2) (aA (bR (pv 0) rfl) (aA (fO dA (jW S (pv 1) hr1) (bR (pv 0) rfl) (fun _ _ => rfl)) aB)))))), ?_⟩
     obtain ⟨dp, hp⟩ := hmv
     have hp : H p = some (.ins Z.F dp (jF a)) := hp
     refine ⟨_, rfl, _, rfl, p, Z.F, dp, _, _, rfl, hp, C.cl, C.jug, nV _, q, sz, a, rfl, hh, ha, fun H1 s1 => ?_⟩
     obtain ⟨dq, t, hq, ht⟩ := hh.mono s1
     refine ⟨_, rfl, _, rfl, p, Z.F, dp, _, _, rfl, s1 _ _ hp, C.cl, C.jug, nV _, _, rfl, q, dq, _, rfl, hq, mE _ _ (by decide +kernel) (by decide +kernel), q, sz, true, rfl, hh.mono s1, fun x hx => ?_⟩
     have s2 : Same H (upd H1 x (.lst (sz.map V.int))) := s1.lay hx
     refine ⟨_, rfl, p, Z.F, dp, _, _, rfl, s2 _ _ hp, C.cl, C.jug, nV _, x, _, _, _, rfl, rfl, SqL.of aD, eZ (jK ha), l, st, a, _, rfl, s2 _ _ hl, la, fun r H4 s4 e4 => ?_⟩
     exact k r H4 (s2.trans s4) e4
theorem yK (F : Fun K "held_behind" "Empty.held_behind" bZ f fd) (B : Bt mg) (C : CJu K Z.E) (N : FnB P w K mg base 3 "check_house_can_tap" ["house", "jug"] (eE CH))
   (W : FnB P w K mg base 1 "with_amount" ["held", "jug", "many"] hW) :
   FnOk P w K mg base CX0 4 f fd ["self", "house", "held"] (uT Z CH aD3) := by
 refine F.ok iW (fun vs H Q E h => ?_) (fun cdv A outer s H vs Q E hr h => ?_)
 · obtain ⟨p, h', l, sz, tap, st, m, rfl, _⟩ := h
   rfl
 · obtain ⟨p, q, l, sz, tap, st, m, rfl, hm, hmv, hh, hl, hst, hok, k⟩ := h
   cases m with
   | pour a b => exact hm.elim
   | fill a => exact hm.elim
   | emp a =>
     obtain ⟨ha, rfl⟩ := hok
     have hr1 : Room 1 _ := hr.mono (by decide)
     have la : a < st.length := by rw [hst.len]; exact ha
     refine ⟨_, aC (aW (aU N hr (aA (pv 1) (aA (bR (pv 0) rfl) aB))))
       (aH (aP (aU W hr1 (aA (pv 2) (aA (bR (pv 0) rfl) (aA aE aB)))))), ?_⟩
     obtain ⟨dp, hp⟩ := hmv
     have hp : H p = some (.ins Z.E dp (jF a)) := hp
     refine ⟨_, rfl, _, rfl, p, Z.E, dp, _, _, rfl, hp, C.cl, C.jug, nV _, q, sz, a, rfl, hh, ha, fun H1 s1 => ?_⟩
     refine ⟨_, rfl, _, rfl, p, Z.E, dp, _, _, rfl, s1 _ _ hp, C.cl, C.jug, nV _, l, st, a, _, rfl, s1 _ _ hl, la, fun r H4 s4 e4 => ?_⟩
     exact k r H4 (s1.trans s4) e4
def vT (Z : Cz) (CH : Addr) : Sp := fun vs H Q _ => ∃ p h a sz tap st m, vs = [.ref p, .ref h, .ref a] ∧ iX Z H p m ∧ House CH H h sz tap ∧ H a = some (.tup (st.map V.int)) ∧ J.IsSt sz st ∧ m.ok sz.length tap ∧
 ∀ r H', Same H H' → H' r = some (.tup ((J.behind sz st m).map V.int)) → Q (.ref r) H'
theorem aT1 (F : Fun K "done" "Move.done" fI f fd) (B : Bt mg) (N : FnB P w K mg base 2 "held_in" ["house", "state"] (dO CH))
   (HP : MeB P w K mg base 4 Z.P "held_behind" ["self", "house", "held"] (uT Z CH wW)) (HF : MeB P w K mg base 4 Z.F "held_behind" ["self", "house", "held"] (uT Z CH wX)) (HE : MeB P w K mg base 4 Z.E "held_behind" ["self", "house", "held"] (uT Z CH aD3)) :
   FnOk P w K mg base CX0 5 f fd ["self", "house", "state"] (vT Z CH) := by
 refine F.ok cZ (fun vs H Q E h => ?_) (fun cdv A outer s H vs Q E hr h => ?_)
 · obtain ⟨p, h', a, sz, tap, st, m, rfl, _⟩ := h
   rfl
 · obtain ⟨p, q, a, sz, tap, st, m, rfl, hmv, hh, ha, hst, hok, k⟩ := h
   have hr2 : Room 2 _ := hr.mono (by decide)
   obtain ⟨dp, hp⟩ := id hmv
   cases m with
   | pour x y =>
     refine ⟨_, aC (aM (i := 3) cZ.nd rfl (Or.inl rfl) (aU N hr2 (aA (pv 1) (aA (pv 2) aB))))
       (aH (aP (aR aY (by rfl) B.tuple bP (aA (nE HP (pv 0) hr (aA (pv 1) (aA (pv 3) aB))) aB)))), ?_⟩
     refine ⟨_, rfl, _, rfl, q, sz, tap, a, st, rfl, hh, ha, hst, fun l H1 s1 nl hl => ?_⟩
     refine ⟨_, rfl, p, dp, _, rfl, s1 _ _ hp, aC3 _ _ (by decide +kernel) (by decide +kernel), _, rfl, _, rfl, p, q, l, sz, tap, st, .pour x y, rfl, trivial, hmv.mono s1, hh.mono s1, hl, hst, hok, fun r H2 s2 hr2 => ?_⟩
     exact ⟨r, _, rfl, .inl ⟨SqL.of hr2, fun t nt => k t _ ((s1.trans s2).lay nt) aD⟩⟩
   | fill x =>
     refine ⟨_, aC (aM (i := 3) cZ.nd rfl (Or.inl rfl) (aU N hr2 (aA (pv 1) (aA (pv 2) aB))))
       (aH (aP (aR aY (by rfl) B.tuple bP (aA (nE HF (pv 0) hr (aA (pv 1) (aA (pv 3) aB))) aB)))), ?_⟩
     refine ⟨_, rfl, _, rfl, q, sz, tap, a, st, rfl, hh, ha, hst, fun l H1 s1 nl hl => ?_⟩
     refine ⟨_, rfl, p, dp, _, rfl, s1 _ _ hp, sR _ (by decide +kernel), _, rfl, _, rfl, p, q, l, sz, tap, st, .fill x, rfl, trivial, hmv.mono s1, hh.mono s1, hl, hst, hok, fun r H2 s2 hr2 => ?_⟩
     exact ⟨r, _, rfl, .inl ⟨SqL.of hr2, fun t nt => k t _ ((s1.trans s2).lay nt) aD⟩⟩
   | emp x =>
     refine ⟨_, aC (aM (i := 3) cZ.nd rfl (Or.inl rfl) (aU N hr2 (aA (pv 1) (aA (pv 2) aB))))
       (aH (aP (aR aY (by rfl) B.tuple bP (aA (nE HE (pv 0) hr (aA (pv 1) (aA (pv 3) aB))) aB)))), ?_⟩
     refine ⟨_, rfl, _, rfl, q, sz, tap, a, st, rfl, hh, ha, hst, fun l H1 s1 nl hl => ?_⟩
     refine ⟨_, rfl, p, dp, _, rfl, s1 _ _ hp, sR _ (by decide +kernel), _, rfl, _, rfl, p, q, l, sz, tap, st, .emp x, rfl, trivial, hmv.mono s1, hh.mono s1, hl, hst, hok, fun r H2 s2 hr2 => ?_⟩
     exact ⟨r, _, rfl, .inl ⟨SqL.of hr2, fun t nt => k t _ ((s1.trans s2).lay nt) aD⟩⟩
def pY (Z : Cz) : Sp := fun vs H Q _ => ∃ l xs ms, vs = [.ref l] ∧ H l = some (.lst xs) ∧ Paired (isM Z H) xs ms ∧ ∀ r H', Same H H' → H r = none → H' r = some (.lst xs) → Q (.ref r) H'
theorem yB (F : Fun K "moves_in" "moves_in" gR f fd) (B : Bt mg) (M : MvC K mg Z) : FnOk P w K mg base CX0 1 f fd ["moves"] (pY Z) := by
 refine F.ok hJ (fun vs H Q E h => ?_) (fun cdv A outer s H vs Q E hr h => ?_)
 · obtain ⟨l, xs, ms, rfl, _⟩ := h
   rfl
 · obtain ⟨l, xs, ms, rfl, hl, hp, k⟩ := h
   refine ⟨_, aC (aT (bJ (bK (aQ bV (by rfl) B.isinstance aS (aA (pv 0) (aA (dL (v := .ty "list") (by rfl) B.list cQ rfl) aB))))) aG aL)
     (aC (aM (i := 1) hJ.nd rfl (Or.inl rfl) (aR cF (by rfl) B.list cQ (aA (pv 0) aB)))
     (aC (cN PassesOwn.never rfl (dI (pv 1)) (bT (i := 2) hJ.nd rfl (Or.inl rfl))
       (aH (aT (bJ (bK (aQ jL (by rfl) B.isinstance aS (aA (pv 2) (aA (bD (aA (bB (v := .ref Z.P) (by rfl) M.gP rfl) (aA (bB (v := .ref Z.F) (by rfl) M.gF rfl) (aA (bB (v := .ref Z.E) (by rfl) M.gE rfl) aB)))) aB))))) aG aL)))
     (aH (aP (pv 1))))), ?_⟩
   refine ⟨_, rfl, _, _, _, _, _, rfl, .ty "list", .lst hl, pU, _, rfl, cB ?_⟩
   refine ⟨_, rfl, l, _, rfl, .inl (SqL.of hl), fun r nr => ?_⟩
   have s1 : Same H (upd H r (.lst xs)) := Same.new nr
   refine ⟨_, rfl, r, rfl, ⟨_, SqL.of aD⟩, cU (K := K) (a := r) (xs := xs) (fun i σ H' => ∃ v, σ = [some (.ref l), some (.ref r), v] ∧ Same (upd H r (.lst xs)) H')
     ⟨none, rfl, Same.refl _⟩ (fun i σ H' _ ⟨_, _, s2⟩ => SqL.of (s2 _ _ aD)) ?_ ?_⟩
   · rintro i x σ H' hx ⟨v, rfl, s2⟩
     obtain ⟨m, hm, p, rfl, hmv⟩ := L2.Paired.get hp hx
     have hmv' := (hmv.mono s1).mono s2
     refine ⟨_, rfl, (by exact sz3), fun tp nt => ?_⟩
     refine ⟨_, tp, _, _, _, _, rfl, aD, .cons (.ref _) (.cons (.ref _) (.cons (.ref _) .nil)), M.ty (hmv'.mono (Same.new nt)), M.any m, _, rfl, cB ?_⟩
     exact ⟨_, rfl, s2.lay nt⟩
   · rintro σ H' ⟨v, rfl, s2⟩
     exact ⟨_, rfl, k r H' (s1.trans s2) nr (s2 _ _ aD)⟩
def sX (Z : Cz) : Addr → Prop := fun C => C = Z.P ∨ C = Z.F ∨ C = Z.E
theorem sW (Z : Cz) (m : J.Mv) : sX Z (Z.cl m) := by
 cases m with
 | pour _ _ => exact .inl rfl
 | fill _ => exact .inr (.inl rfl)
 | emp _ => exact .inr (.inr rfl)
theorem wZ (m : J.Mv) {x : Str} (h1 : ¬ x = "other") (h2 : ¬ x = "one") (h3 : ¬ x = "jug") : (bD1 m).lookup x = none := by
 cases m with
 | pour _ _ => exact aC3 _ _ h1 h2
 | fill _ => exact sR _ h3
 | emp _ => exact sR _ h3
theorem aP6 {sz st : List Int} {tap : Bool} (hs : ∀ i, i < sz.length → 0 ≤ J.at0 sz i) (hst : J.IsSt sz st) : ∀ (ms : List J.Mv), (∀ m ∈ ms, m.ok sz.length tap) → J.IsSt sz (ms.foldl (J.behind sz) st) := by
 intro ms
 induction ms generalizing st with
 | nil => intro _; exact hst
 | cons m ms ih => intro h; exact ih (hst.behind hs (h m List.mem_cons_self)) fun x hx => h x (List.mem_cons_of_mem _ hx)
end
end Jug
namespace Jug
open PySem L2
structure Hz (sz : List Int) : Prop where
 l1 : 1 ≤ sz.length
 l4 : sz.length ≤ 4
 bd : ∀ s ∈ sz, 1 ≤ s ∧ s ≤ 60
 pr : J.uX sz ≤ 2000
theorem Hz.nn {sz : List Int} (h : Hz sz) : ∀ i, i < sz.length → 0 ≤ J.at0 sz i := fun i hi => by
 have := h.bd _ (List.mem_of_getElem? (aP3 hi))
 omega
theorem rT : ∀ (sz : List Int) (p : Int), (∀ s ∈ sz, 0 ≤ s) → 1 ≤ p → p ≤ sz.foldl (fun m s => m * (s + 1)) p
 | [], p, _, h => Int.le_refl _
 | s :: r, p, hs, h => by
   have h0 := hs s List.mem_cons_self
   have h1 : p ≤ p * (s + 1) := by
     have := Int.mul_le_mul_of_nonneg_left (show (1 : Int) ≤ s + 1 by omega) (show (0 : Int) ≤ p by omega)
     omega
   have := rT r (p * (s + 1)) (fun x hx => hs x (List.mem_cons_of_mem _ hx)) (by omega)
   rw [List.foldl_cons]; omega
theorem rC {sz : List Int} (hs : ∀ s ∈ sz, 0 ≤ s) (i : Nat) : ((sz.take i).foldl J.more [[]]).length ≤ (J.states sz).length := by
 have h1 := J.sP (sz.take i) (fun s h => hs s (List.mem_of_mem_take h)) [[]] 1 (by simp)
 have h2 := J.sP (sz.drop i) (fun s h => hs s (List.mem_of_mem_drop h)) ((sz.take i).foldl J.more [[]]) _ h1
 have h3 : J.states sz = (sz.drop i).foldl J.more ((sz.take i).foldl J.more [[]]) := by
   unfold J.states
   conv => lhs; rw [← List.take_append_drop i sz, List.foldl_append]
 have h4 := rT (sz.take i) 1 (fun s h => hs s (List.mem_of_mem_take h)) (by omega)
 have h5 := rT (sz.drop i) _ (fun s h => hs s (List.mem_of_mem_drop h)) (by omega : 1 ≤ List.foldl (fun m s => m * (s + 1)) 1 (sz.take i))
 rw [h3]
 omega
theorem Hz.states_le {sz : List Int} (h : Hz sz) : (J.states sz).length ≤ 2000 := by
 have h1 := J.sN (sz := sz) fun s hs => by have := h.bd s hs; omega
 have h2 := h.pr
 omega
section
variable {P : Program} {w : World} {K : W.Frag} {mg : Str → Option Value} {base : Heap} {CH : Addr} {Z : Cz}
def iY : Sp := fun vs H Q _ => ∃ l sz, vs = [.ref l] ∧ H l = some (.lst (sz.map V.int)) ∧ (∀ s ∈ sz, 1 ≤ s ∧ s ≤ 60) ∧ Q (.int (J.uX sz)) H
theorem qJ (F : Fun K "count_states" "count_states" dW f fd) : FnOk P w K mg base CX0 1 f fd ["sizes"] iY := by
 refine F.ok gM (fun vs H Q E h => ?_) (fun cdv A outer s H vs Q E hr h => ?_)
 · obtain ⟨l, sz, rfl, _⟩ := h
   rfl
 · obtain ⟨l, sz, rfl, hl, hb, k⟩ := h
   refine ⟨_, aC (aM (i := 1) gM.nd rfl (Or.inl rfl) aE)
     (aC (cN PassesOwn.never rfl (dI (pv 0)) (bT (i := 2) gM.nd rfl (Or.inl rfl))
       (aH (aM (i := 1) gM.nd rfl (Or.inl rfl) (eD aX7 (pv 1) (eD lC (pv 2) aE)))))
     (aH (aP (pv 1)))), ?_⟩
   refine ⟨_, rfl, l, rfl, ⟨_, SqL.of hl⟩, cU (K := K) (a := l) (xs := sz.map V.int) (fun i σ H' => ∃ v, σ = [some (.ref l), some (.int ((sz.take i).foldl (fun m s => m * (s + 1)) 1)), v] ∧ H' = H)
     ⟨none, rfl, rfl⟩ (fun i σ H' _ ⟨_, _, e⟩ => by subst e; exact SqL.of hl) ?_ ?_⟩
   · rintro i x σ H' hx ⟨v, rfl, rfl⟩
     obtain ⟨z, ez, rfl⟩ := fQ hx
     have hz := hb z (List.mem_of_getElem? ez)
     refine ⟨_, rfl, _, rfl, _, _, rfl, rfl, _, _, rfl, rfl, .inr ⟨by omega, by omega⟩, ?_⟩
     refine ⟨some (.int z), ?_, rfl⟩
     rw [List.take_add_one, ez, List.foldl_append]
     rfl
   · rintro σ H' ⟨v, rfl, rfl⟩
     refine ⟨_, rfl, ?_⟩
     rw [List.length_map, List.take_length]
     exact k
def lT : Sp := fun vs H Q _ => ∃ l sz, vs = [.ref l] ∧ H l = some (.lst (sz.map V.int)) ∧ Hz sz ∧ ∀ r H', Same H H' → H' r = some (.lst (sz.map V.int)) → Q (.ref r) H'
theorem xY (F : Fun K "sizes_in" "sizes_in" gQ f fd) (B : Bt mg) (hst : ∃ t, mg "MOST_STATES" = some (.int 2000 t)) (N : FnB P w K mg base 1 "is_number" ["value", "least", "most"] fW)
   (C : FnB P w K mg base 1 "count_states" ["sizes"] iY) : FnOk P w K mg base CX0 2 f fd ["sizes"] lT := by
 obtain ⟨t4, e4⟩ := B.jugs
 obtain ⟨t60, e60⟩ := B.size
 obtain ⟨t2, e2⟩ := hst
 refine F.ok hG (fun vs H Q E h => ?_) (fun cdv A outer s H vs Q E hr h => ?_)
 · obtain ⟨l, sz, rfl, _⟩ := h
   rfl
 · obtain ⟨l, sz, rfl, hl, hz, k⟩ := h
   refine ⟨_, aC (aT (bJ (bK (aQ bV (by rfl) B.isinstance aS (aA (pv 0) (aA (dL (v := .ty "list") (by rfl) B.list cQ rfl) aB))))) aG aL)
     (aC (aM (i := 1) hG.nd rfl (Or.inl rfl) (aR cF (by rfl) B.list cQ (aA (pv 0) aB)))
     (aC (aT (bJ (oO lP lP aE (aQ bC (by rfl) B.len PySem.boot_len (aA (pv 1) aB)) (bB (v := .int 4) (by rfl) e4 ⟨_, rfl⟩))) aG aL)
     (aC (cN PassesOwn.never rfl (dI (pv 1)) (bT (i := 2) hG.nd rfl (Or.inl rfl))
       (aH (aT (bJ (bK (aU N hr (aA (pv 2) (aA aE (aA (bB (v := .int 60) (by rfl) e60 ⟨_, rfl⟩) aB)))))) aG aL)))
     (aC (aT (aV aC4 (aU C hr (aA (pv 1) aB)) (bB (v := .int 2000) (by rfl) e2 ⟨_, rfl⟩) (nomark _)) aG aL)
     (aH (aP (pv 1))))))), ?_⟩
   refine ⟨_, rfl, _, _, _, _, _, rfl, .ty "list", .lst hl, pU, _, rfl, cB ?_⟩
   refine ⟨_, rfl, l, _, rfl, .inl (SqL.of hl), fun r nr => ?_⟩
   have s1 : Same H (upd H r (.lst (sz.map V.int))) := Same.new nr
   refine ⟨_, rfl, r, _, rfl, .inl (SqL.of aD), _, _, rfl, rfl, _, rfl, ?_⟩
   have h1 := hz.l1
   have h4 := hz.l4
   rw [decide_eq_true (by simp; omega)]
   refine dR ⟨_, _, rfl, rfl, _, rfl, ?_⟩
   rw [decide_eq_true (by simp; omega)]
   refine cB ?_
   refine ⟨_, rfl, r, rfl, ⟨_, SqL.of aD⟩, cU (K := K) (a := r) (xs := sz.map V.int) (fun i σ H' => ∃ v, σ = [some (.ref l), some (.ref r), v] ∧ H' = upd H r (.lst (sz.map V.int)))
     ⟨none, rfl, rfl⟩ (fun i σ H' _ ⟨_, _, e⟩ => by subst e; exact SqL.of aD) ?_ ?_⟩
   · rintro i x σ H' hx ⟨v, rfl, rfl⟩
     obtain ⟨z, ez, rfl⟩ := fQ hx
     have hb := hz.bd z (List.mem_of_getElem? ez)
     refine ⟨_, rfl, z, 1, 60, rfl, _, rfl, ?_⟩
     rw [decide_eq_true hb.1, decide_eq_true hb.2]
     exact cB ⟨_, rfl, rfl⟩
   · rintro σ H' ⟨v, rfl, rfl⟩
     refine ⟨_, rfl, r, sz, rfl, aD, hz.bd, _, _, rfl, rfl, _, rfl, ?_⟩
     have := hz.pr
     rw [decide_eq_false (by omega)]
     exact cB ⟨_, rfl, k r _ s1 aD⟩
def dC (CH : Addr) : Sp := fun vs H Q _ => ∃ (p dx l : Addr) (sz : List Int) (tap : Bool), vs = [.ref p, .ref l, .bl tap] ∧ H p = some (.ins CH dx []) ∧ H l = some (.lst (sz.map V.int)) ∧ Hz sz ∧
 ∀ H', (∀ c o, H c = some o → c ≠ p → H' c = some o) → House CH H' p sz tap → Q .non H'
theorem uC (F : Fun K "__init__" "House.__init__" eN f fd) (B : Bt mg) (C : CHs K CH) (N : FnB P w K mg base 2 "sizes_in" ["sizes"] lT) :
   FnOk P w K mg base CX0 3 f fd ["self", "sizes", "tap"] (dC CH) := by
 refine F.ok mX (fun vs H Q E h => ?_) (fun cdv A outer s H vs Q E hr h => ?_)
 · obtain ⟨p, dx, l, sz, tap, rfl, _⟩ := h
   rfl
 · obtain ⟨p, dx, l, sz, tap, rfl, hp, hl, hz, k⟩ := h
   refine ⟨_, aC (fL (pv 0) (aR aY (by rfl) B.tuple bP (aA (aU N hr (aA (pv 1) aB)) aB)) rfl)
     (aC (aT (bJ (bK (aQ bV (by rfl) B.isinstance aS (aA (pv 2) (aA (dL (v := .ty "bool") (by rfl) B.bool qX rfl) aB))))) aG aL)
     (aH (fL (pv 0) (pv 2) rfl))), ?_⟩
   refine ⟨_, rfl, l, sz, rfl, hl, hz, fun r H1 s1 hr1 => ?_⟩
   refine ⟨r, _, rfl, .inl ⟨SqL.of hr1, fun t nt => ?_⟩⟩
   have s2 : Same H (upd H1 t (.tup (sz.map V.int))) := s1.lay nt
   have tp : t ≠ p := fun e => by subst e; rw [s1 _ _ hp] at nt; cases nt
   refine ⟨_, rfl, p, CH, dx, [], rfl, s2 _ _ hp, C.cl, C.js, (by show 0 < 1000; decide), ?_⟩
   refine ⟨_, rfl, _, _, _, _, _, rfl, .ty "bool", .bl tap, aO4, _, rfl, cB ?_⟩
   refine ⟨_, rfl, _, rfl, p, CH, dx, _, rfl, aD, C.cl, C.tap, (by show 1 < 1000; decide), ?_⟩
   refine k _ (fun c o e hc => by rw [aI hc, aI hc]; exact s2 _ _ e) ⟨dx, t, aD, ?_⟩
   rw [aI tp, aI tp, aD]
end
end Jug
namespace Jug
open PySem L2
def row (n a : Nat) : List J.Mv := ((List.range n).filter fun b => b != a).map fun b => J.Mv.pour a b
def nB (a j : Nat) : List J.Mv := ((List.range j).filter fun b => b != a).map fun b => J.Mv.pour a b
theorem uW (a j : Nat) : (nB a j).length ≤ j := by
 unfold nB
 rw [List.length_map]
 exact Nat.le_trans (List.length_filter_le _ _) (by simp)
theorem xU (a j : Nat) : nB a (j + 1) = nB a j ++ (if j = a then [] else [J.Mv.pour a j]) := by
 unfold nB
 rw [List.range_succ, List.filter_append, List.map_append]
 congr 1
 by_cases h : j = a
 · simp [h]
 · simp [h]
theorem rQ (n : Nat) : ∀ i, ((List.range i).flatMap (row n)).length ≤ i * n
 | 0 => by simp
 | i + 1 => by
   rw [List.range_succ, List.flatMap_append, List.length_append]
   have := rQ n i
   have h2 := uW i n
   simp only [List.flatMap_cons, List.flatMap_nil, List.append_nil]
   have h3 : (row n i).length = (nB i n).length := rfl
   rw [Nat.succ_mul]
   omega
theorem Paired.snocP {α β : Type} {F : α → β → Prop} {a : α} {b : β} {l₁ : List α} {l₂ : List β} (h : Paired F l₁ l₂) (h' : F a b) : Paired F (l₁ ++ [a]) (l₂ ++ [b]) := PySem.Paired.snoc h h'
theorem Paired.appP {α β : Type} {F : α → β → Prop} : ∀ {l₁ m₁ : List α} {l₂ m₂ : List β}, Paired F l₁ l₂ → Paired F m₁ m₂ → Paired F (l₁ ++ m₁) (l₂ ++ m₂)
 | _, _, _, _, .nil, h => h
 | _, _, _, _, .cons r t, h => .cons r (Paired.appP t h)
section
variable {P : Program} {w : World} {K : W.Frag} {mg : Str → Option Value} {base : Heap} {CH : Addr} {Z : Cz}
def lU (Z : Cz) : Sp := fun vs H Q _ => ∃ n : Nat, vs = [.int n] ∧ n ≤ 4 ∧ ∀ r H' xs, Same H H' → H r = none → H' r = some (.lst xs) → Paired (isM Z H') xs (J.pours n) → Q (.ref r) H'
theorem rY (F : Fun K "pours_among" "pours_among" eV f fd) (B : Bt mg) (M : MkB P w K mg base 4 "Pour" Z.P ["self", "one", "other"] (fX Z)) :
   FnOk P w K mg base CX0 6 f fd ["many"] (lU Z) := by
 refine F.ok iC (fun vs H Q E h => ?_) (fun cdv A outer s H vs Q E hr h => ?_)
 · obtain ⟨n, rfl, _⟩ := h
   rfl
 · obtain ⟨n, rfl, hn, k⟩ := h
   refine ⟨_, aC (aM (i := 1) iC.nd rfl (Or.inl rfl) (aN aB))
     (aC (cN PassesOwn.never rfl (jN (by rfl) B.range (aA (pv 0) aB)) (bT (i := 2) iC.nd rfl (Or.inl rfl))
       (aH (cN PassesOwn.never rfl (jN (by rfl) B.range (aA (pv 0) aB)) (bT (i := 3) iC.nd rfl (Or.inl rfl))
         (aH (aT (aV vB (pv 2) (pv 3) (nomark _)) (aH (aW (mJ (pv 1) (bE M hr (aA (pv 2) (aA (pv 3) aB)))))) aL)))))
     (aH (aP (pv 1)))), ?_⟩
   refine ⟨(by exact sz0), fun r nr => ?_⟩
   have s1 : Same H (upd H r (.lst [])) := Same.new nr
   refine ⟨_, rfl, (n : Int), rfl, by omega, by omega, lJ (n := n) (fun i σ H' => ∃ xs v2 v3, σ = [some (.int n), some (.ref r), v2, v3] ∧ Same H H' ∧ H' r = some (.lst xs) ∧ Paired (isM Z H') xs ((List.range i).flatMap (row n)))
     ⟨[], none, none, rfl, s1, aD, .nil⟩ ?_ ?_⟩
   · rintro i σ H1 hi ⟨xs, v2, v3, rfl, s2, e2, p2⟩
     refine ⟨_, rfl, (n : Int), rfl, by omega, by omega, lJ (n := n) (fun j σ H' => ∃ xs v3, σ = [some (.int n), some (.ref r), some (.int i), v3] ∧ Same H H' ∧ H' r = some (.lst xs) ∧ Paired (isM Z H') xs ((List.range i).flatMap (row n) ++ nB i j))
       ⟨xs, v3, rfl, s2, e2, by simpa [nB] using p2⟩ ?_ ?_⟩
     · rintro j σ H2 hj ⟨ys, v3, rfl, s3, e3, p3⟩
       refine ⟨_, rfl, _, rfl, rfl, _, rfl, ?_⟩
       by_cases hij : i = j
       · subst hij
         rw [decide_eq_true rfl]
         refine cB ⟨ys, _, rfl, s3, e3, ?_⟩
         rw [xU, if_pos rfl, List.append_nil]
         exact p3
       · rw [decide_eq_false (by simp; omega)]
         refine dR ?_
         refine ⟨_, rfl, .inl ⟨rfl, _, SqL.of e3⟩, _, rfl, _, rfl, fun x dx nx ndx nex => ?_⟩
         refine ⟨x, dx, i, j, rfl, aD, by omega, by omega, hij, fun H4 kp hx => ⟨rfl, ?_⟩⟩
         have s4 : Same H2 H4 := fun c o e => kp c o (by rw [aI (aJ e nx), aI (aJ e ndx)]; exact e) (aJ e nx)
         have hlen : ys.length ≤ 20 := by
           have h1 := p3.length
           have h2 := rQ n i
           have h3 := uW i j
           rw [List.length_append] at h1
           have h4 : i * n ≤ 3 * 4 := Nat.mul_le_mul (by omega) hn
           omega
         refine ⟨r, _, _, rfl, rfl, s4 _ _ e3, gZ (by omega), ?_⟩
         have fx1 : Fix H4 (upd H4 r (.lst (ys ++ [.ref x]))) := Fix.put (s4 _ _ e3) rfl
         refine ⟨_, _, rfl, (s3.trans s4).put nr, aD, ?_⟩
         rw [xU, if_neg (fun e => hij e.symm), ← List.append_assoc]
         exact Paired.snocP (nO p3 ((Fix.of s4).trans fx1)) ⟨x, rfl, dx, fx1 _ _ hx rfl⟩
     · rintro σ H2 ⟨ys, v3, rfl, s3, e3, p3⟩
       refine ⟨ys, _, _, rfl, s3, e3, ?_⟩
       rw [List.range_succ, List.flatMap_append]
       have e : (List.flatMap (row n) [i]) = nB i n := by simp [row, nB]
       rw [e]; exact p3
   · rintro σ H1 ⟨xs, v2, v3, rfl, s2, e2, p2⟩
     exact ⟨_, rfl, k r H1 xs s2 nr e2 p2⟩
def kP : Sp := fun vs H Q _ => ∃ (l : Addr) (s : Int) (xs : List V) (sts : List (List Int)), vs = [.ref l, .int s] ∧ H l = some (.lst xs) ∧ Paired (lH H) xs sts ∧ 0 ≤ s ∧ s ≤ 60 ∧ sts.length * (s + 1).toNat ≤ 2000 ∧ (∀ st ∈ sts, st.length ≤ 10) ∧
 ∀ r H' ys, Same H H' → H r = none → H' r = some (.lst ys) → Paired (lH H') ys (J.more sts s) → Q (.ref r) H'
theorem aG7 (sts : List (List Int)) (st : List Int) (s : Int) : J.more (sts ++ [st]) s = J.more sts s ++ (List.range (s + 1).toNat).map fun (k : Nat) => st ++ [(k : Int)] := by
 unfold J.more
 rw [List.flatMap_append]
 simp
theorem pR (F : Fun K "with_one_more" "with_one_more" dJ f fd) (B : Bt mg) : FnOk P w K mg base CX0 1 f fd ["states", "size"] kP := by
 refine F.ok fY (fun vs H Q E h => ?_) (fun cdv A outer s H vs Q E hr h => ?_)
 · obtain ⟨l, s, xs, sts, rfl, _⟩ := h
   rfl
 · obtain ⟨l, z, xs, sts, rfl, hl, hp, h0, h60, hbig, hlen, k⟩ := h
   refine ⟨_, aC (aM (i := 2) fY.nd rfl (Or.inl rfl) (aN aB))
     (aC (cN PassesOwn.never rfl (dI (pv 0)) (bT (i := 3) fY.nd rfl (Or.inl rfl))
       (aH (cN PassesOwn.never rfl (jN (by rfl) B.range (aA (eD lC (pv 1) aE) aB)) (bT (i := 4) fY.nd rfl (Or.inl rfl))
         (aH (aW (mJ (pv 2) (eD aS5 (pv 3) (bD (aA (pv 4) aB)))))))))
     (aH (aP (pv 2)))), ?_⟩
   refine ⟨(by exact sz0), fun r nr => ?_⟩
   have s1 : Same H (upd H r (.lst [])) := Same.new nr
   refine ⟨_, rfl, l, rfl, ⟨_, SqL.of (s1 _ _ hl)⟩, cU (K := K) (a := l) (xs := xs) (fun i σ H' => ∃ ys v3 v4, σ = [some (.ref l), some (.int z), some (.ref r), v3, v4] ∧ Same H H' ∧ H' r = some (.lst ys) ∧ Paired (lH H') ys (J.more (sts.take i) z))
     ⟨[], none, none, rfl, s1, aD, by simp [J.more]; exact .nil⟩ (fun i σ H' _ ⟨_, _, _, _, s2, _⟩ => SqL.of (s2 _ _ hl)) ?_ ?_⟩
   · rintro i x σ H1 hx ⟨ys, v3, v4, rfl, s2, e2, p2⟩
     obtain ⟨st, hst, a, rfl, ha⟩ := L2.Paired.get hp hx
     have hi : i < sts.length := (List.getElem?_eq_some_iff.mp hst).1
     have hst4 := hlen st (List.mem_of_getElem? hst)
     refine ⟨_, rfl, _, _, rfl, rfl, z + 1, rfl, by omega, by omega, lJ (n := (z + 1).toNat) (fun j σ H' => ∃ ys v4, σ = [some (.ref l), some (.int z), some (.ref r), some (.ref a), v4] ∧ Same H H' ∧ H' r = some (.lst ys) ∧ Paired (lH H') ys (J.more (sts.take i) z ++ (List.range j).map fun (k : Nat) => st ++ [(k : Int)]))
       ⟨ys, v4, rfl, s2, e2, by simpa using p2⟩ ?_ ?_⟩
     · rintro j σ H2 hj ⟨ws, v4, rfl, s3, e3, p3⟩
       refine ⟨_, rfl, .inl ⟨rfl, _, SqL.of e3⟩, _, rfl, _, rfl, (by exact sz1), fun t nt => ?_⟩
       have s4 : Same H2 (upd H2 t (.tup [.int j])) := Same.new nt
       refine ⟨a, t, _, _, rfl, rfl, s4 _ _ (s3 _ _ ha), aD, (by simp; exact Nat.le_of_lt (gZ (by omega))), fun p H5 s5 e5 => ?_⟩
       have hl5 := s5 _ _ (s4 _ _ e3)
       have hw : ws.length < 2000 := by
         have h1 := p3.length
         rw [List.length_append, J.sO, List.length_map, List.length_range, List.length_take, Nat.min_eq_left (Nat.le_of_lt hi)] at h1
         have h2 : i * (z + 1).toNat + (z + 1).toNat ≤ sts.length * (z + 1).toNat := by
           rw [← Nat.succ_mul]; exact Nat.mul_le_mul_right _ hi
         omega
       refine ⟨r, _, _, rfl, rfl, hl5, aE9 (by omega), ?_⟩
       have fx1 : Fix H5 (upd H5 r (.lst (ws ++ [.ref p]))) := Fix.put hl5 rfl
       refine ⟨_, _, rfl, ((s3.trans s4).trans s5).put nr, aD, ?_⟩
       rw [List.range_succ, List.map_append, ← List.append_assoc]
       refine Paired.snocP (rS p3 ((Fix.of (s4.trans s5)).trans fx1)) ⟨p, rfl, fx1 _ _ ?_ rfl⟩
       rw [e5, List.map_append]
       rfl
     · rintro σ H2 ⟨ws, v4, rfl, s3, e3, p3⟩
       refine ⟨ws, _, _, rfl, s3, e3, ?_⟩
       rw [List.take_add_one, hst]
       show Paired _ _ (J.more (List.take i sts ++ [st]) z)
       rw [aG7]
       exact p3
   · rintro σ H1 ⟨ys, v3, v4, rfl, s2, e2, p2⟩
     rw [hp.length, List.take_length] at p2
     exact ⟨_, rfl, k r H1 ys s2 nr e2 p2⟩
def uS (CH : Addr) : Sp := fun vs H Q _ => ∃ p sz tap, vs = [.ref p] ∧ House CH H p sz tap ∧ Hz sz ∧ ∀ r H' ys, Same H H' → H r = none → H' r = some (.lst ys) → Paired (lH H') ys (J.states sz) → Q (.ref r) H'
theorem aP7 (sz : List Int) : ∀ (L : List (List Int)) (n : Nat), (∀ l ∈ L, l.length ≤ n) → ∀ x ∈ sz.foldl J.more L, x.length ≤ n + sz.length := by
 intro L n h x hx
 obtain ⟨l, hl, t, rfl, ht⟩ := (J.yS sz L x).mp hx
 rw [List.length_append, ht.len]
 have := h l hl
 omega
theorem aF7 (F : Fun K "states" "House.states" dY f fd) (C : CHs K CH) (W : FnB P w K mg base 1 "with_one_more" ["states", "size"] kP) : FnOk P w K mg base CX0 2 f fd ["self"] (uS CH) := by
 refine F.ok gN (fun vs H Q E h => ?_) (fun cdv A outer s H vs Q E hr h => ?_)
 · obtain ⟨p, sz, tap, rfl, _⟩ := h
   rfl
 · obtain ⟨p, sz, tap, rfl, ⟨dx, t, hp, ht⟩, hz, k⟩ := h
   refine ⟨_, aC (aM (i := 1) gN.nd rfl (Or.inl rfl) (aN (aA (bD aB) aB)))
     (aC (cN PassesOwn.never rfl (vY (bR (pv 0) rfl)) (bT (i := 2) gN.nd rfl (Or.inl rfl))
       (aH (aM (i := 1) gN.nd rfl (Or.inl rfl) (aU W hr (aA (pv 1) (aA (pv 2) aB))))))
     (aH (aP (pv 1)))), ?_⟩
   refine ⟨(by exact sz0), fun u nu => ⟨(by exact sz1), fun r nr => ?_⟩⟩
   have s1 : Same H (upd (upd H u (.tup [])) r (.lst [.ref u])) := (Same.new nu).lay nr
   have nr0 : H r = none := (Same.new nu).free nr
   have ur : u ≠ r := fun e => by subst e; rw [aD] at nr; cases nr
   have hnn : ∀ s ∈ sz, 0 ≤ s := fun s hs => by have := hz.bd s hs; omega
   refine ⟨_, rfl, p, CH, dx, _, _, rfl, s1 _ _ hp, C.cl, C.js, aP2 _ _, t, rfl, ⟨_, SqT.of (s1 _ _ ht)⟩, xA (K := K) (a := t) (xs := sz.map V.int) (fun i σ H' => ∃ b ys v2, σ = [some (.ref p), some (.ref b), v2] ∧ Same H H' ∧ H b = none ∧ H' b = some (.lst ys) ∧ Paired (lH H') ys ((sz.take i).foldl J.more [[]]))
     ⟨r, _, none, rfl, s1, nr0, aD, .cons ⟨u, rfl, by rw [aI ur, aD]; rfl⟩ .nil⟩ (fun i σ H' _ ⟨_, _, _, _, s2, _⟩ => SqT.of (s2 _ _ ht)) ?_ ?_⟩
   · rintro i x σ H1 hx ⟨b, ys, v2, rfl, s2, nb, e2, p2⟩
     obtain ⟨z, ez, rfl⟩ := fQ hx
     have hb := hz.bd z (List.mem_of_getElem? ez)
     have e3 : (sz.take (i + 1)).foldl J.more [[]] = J.more ((sz.take i).foldl J.more [[]]) z := by
       rw [List.take_add_one, ez, List.foldl_append]
       rfl
     have h1 := rC hnn (i + 1)
     have h2 := hz.states_le
     rw [e3, J.sO] at h1
     refine ⟨_, rfl, _, rfl, b, z, ys, _, rfl, e2, p2, by omega, by omega, by omega, fun st hst => ?_, fun r' H2 zs s3 nr' e4 p4 => ?_⟩
     · have h3 := aP7 (sz.take i) [[]] 0 (by simp) st hst
       have h4 := hz.l4
       rw [List.length_take] at h3
       omega
     · refine ⟨r', zs, _, rfl, s2.trans s3, s2.free nr', e4, ?_⟩
       rw [e3]; exact p4
   · rintro σ H1 ⟨b, ys, v2, rfl, s2, nb, e2, p2⟩
     rw [List.length_map, List.take_length] at p2
     exact ⟨_, rfl, k b H1 ys s2 nb e2 p2⟩
def rF (Z : Cz) (CH : Addr) : Sp := fun vs H Q _ => ∃ p sz tap, vs = [.ref p] ∧ House CH H p sz tap ∧ Hz sz ∧ ∀ r H' ys, Same H H' → H r = none → H' r = some (.lst ys) → Paired (isM Z H') ys (J.moves sz.length tap) → Q (.ref r) H'
theorem aM3 (F : Fun K "moves" "House.moves" eY f fd) (B : Bt mg) (C : CHs K CH) (W : FnB P w K mg base 6 "pours_among" ["many"] (lU Z))
   (MF : MkB P w K mg base 4 "Fill" Z.F ["self", "jug"] (dB Z.F)) (ME : MkB P w K mg base 4 "Empty" Z.E ["self", "jug"] (dB Z.E)) : FnOk P w K mg base CX0 7 f fd ["self"] (rF Z CH) := by
 refine F.ok fA (fun vs H Q E h => ?_) (fun cdv A outer s H vs Q E hr h => ?_)
 · obtain ⟨p, sz, tap, rfl, _⟩ := h
   rfl
 · obtain ⟨p, sz, tap, rfl, ⟨dx, t, hp, ht⟩, hz, k⟩ := h
   have hr5 : Room 5 _ := hr.mono (by decide)
   refine ⟨_, aC (aM (i := 1) fA.nd rfl (Or.inl rfl) (aQ bC (by rfl) B.len PySem.boot_len (aA (bR (pv 0) rfl) aB)))
     (aC (aM (i := 2) fA.nd rfl (Or.inl rfl) (aU W hr (aA (pv 1) aB)))
     (aC (aT (bK (bR (pv 0) rfl))
       (aC (aW (uZ (pv 2) (aC0 fA [] (jN (by rfl) B.range (aA (pv 1) aB)) (fun _ _ _ _ _ _ => ⟨qS, bE MF hr5 (aA (pv 0) aB)⟩))))
       (aH (aW (uZ (pv 2) (aC0 fA [] (jN (by rfl) B.range (aA (pv 1) aB)) (fun _ _ _ _ _ _ => ⟨qS, bE ME hr5 (aA (pv 0) aB)⟩)))))) aL)
     (aH (aP (pv 2))))), ?_⟩
   have h4 := hz.l4
   refine ⟨_, rfl, p, CH, dx, _, _, rfl, hp, C.cl, C.js, aP2 _ _, t, _, rfl, .inr (SqT.of ht), ?_⟩
   rw [List.length_map]
   refine ⟨_, rfl, sz.length, rfl, h4, fun r H1 xs s1 nr e1 p1 => ?_⟩
   refine ⟨_, rfl, p, CH, dx, _, _, rfl, s1 _ _ hp, C.cl, C.tap, aA8 _ _, _, rfl, ?_⟩
   have hlp : (J.pours sz.length).length ≤ 16 := by
     have h5 := rQ sz.length sz.length
     have h6 : sz.length * sz.length ≤ 4 * 4 := Nat.mul_le_mul h4 h4
     exact Nat.le_trans h5 h6
   cases tap with
   | false =>
     refine cB ⟨_, rfl, k r H1 xs s1 nr e1 ?_⟩
     simpa [J.moves] using p1
   | true =>
     refine dR ?_
     refine ⟨_, rfl, .inl ⟨rfl, _, SqL.of e1⟩, _, rfl, _, rfl, by omega, by omega, ?_⟩
     rw [Int.toNat_natCast]
     refine vH (n := sz.length) (fun i ys H' => Same H1 H' ∧ Paired (isM Z H') ys ((List.range i).map J.Mv.fill)) ⟨Same.refl _, .nil⟩ (gZ (by omega)) (fun i ys H' ⟨_, q⟩ => by rw [q.length]; simp) ?_ ?_
     · rintro i ys H2 hi ⟨s2, p2⟩
       refine vR ⟨_, rfl, fun x dx' nx ndx nex => ⟨x, dx', i, rfl, aD, by omega, fun H4 kp hx => ⟨rfl, ?_⟩⟩⟩
       have s4 : Same H2 H4 := fun c o e => kp c o (by rw [aI (aJ e nx), aI (aJ e ndx)]; exact e) (aJ e nx)
       refine ⟨s2.trans s4, ?_⟩
       rw [List.range_succ, List.map_append]
       exact Paired.snocP (nO p2 (Fix.of s4)) ⟨x, rfl, dx', hx⟩
     · rintro ys H2 ⟨s2, p2⟩ D nD
       have s3 : Same H2 (upd H2 D (.lst ys)) := Same.new nD
       have e3 := s3 _ _ (s2 _ _ e1)
       have l1 := p1.length
       have l2 := p2.length
       rw [List.length_map, List.length_range] at l2
       refine ⟨r, D, xs, ys, rfl, rfl, e3, aD, Nat.le_of_lt (gZ (by omega)), ?_⟩
       have f3 : Fix (upd H2 D (.lst ys)) (upd (upd H2 D (.lst ys)) r (.lst (xs ++ ys))) := Fix.put e3 rfl
       have s4 : Same H (upd (upd H2 D (.lst ys)) r (.lst (xs ++ ys))) := ((s1.trans s2).trans s3).put nr
       have p3 : Paired (isM Z (upd (upd H2 D (.lst ys)) r (.lst (xs ++ ys)))) (xs ++ ys) (J.pours sz.length ++ (List.range sz.length).map J.Mv.fill) :=
         Paired.appP (nO p1 ((Fix.of (s2.trans s3)).trans f3)) (nO p2 ((Fix.of s3).trans f3))
       refine ⟨_, rfl, .inl ⟨rfl, _, SqL.of aD⟩, _, rfl, _, rfl, by omega, by omega, ?_⟩
       rw [Int.toNat_natCast]
       refine vH (n := sz.length) (fun i zs H' => Same (upd (upd H2 D (.lst ys)) r (.lst (xs ++ ys))) H' ∧ Paired (isM Z H') zs ((List.range i).map J.Mv.emp)) ⟨Same.refl _, .nil⟩ (gZ (by omega)) (fun i ys H' ⟨_, q⟩ => by rw [q.length]; simp) ?_ ?_
       · rintro i zs H5 hi ⟨s5, p5⟩
         refine vR ⟨_, rfl, fun x dx' nx ndx nex => ⟨x, dx', i, rfl, aD, by omega, fun H6 kp hx => ⟨rfl, ?_⟩⟩⟩
         have s6 : Same H5 H6 := fun c o e => kp c o (by rw [aI (aJ e nx), aI (aJ e ndx)]; exact e) (aJ e nx)
         refine ⟨s5.trans s6, ?_⟩
         rw [List.range_succ, List.map_append]
         exact Paired.snocP (nO p5 (Fix.of s6)) ⟨x, rfl, dx', hx⟩
       · rintro zs H5 ⟨s5, p5⟩ D2 nD2
         have s6 : Same H5 (upd H5 D2 (.lst zs)) := Same.new nD2
         have e6 := s6 _ _ (s5 _ _ aD)
         have l5 := p5.length
         rw [List.length_map, List.length_range] at l5
         refine ⟨r, D2, _, zs, rfl, rfl, e6, aD, Nat.le_of_lt (gZ (by rw [List.length_append]; omega)), ?_⟩
         have f6 : Fix (upd H5 D2 (.lst zs)) (upd (upd H5 D2 (.lst zs)) r (.lst ((xs ++ ys) ++ zs))) := Fix.put e6 rfl
         refine ⟨_, rfl, k r _ _ (((s4.trans s5).trans s6).put nr) nr aD ?_⟩
         have e7 : J.moves sz.length true = (J.pours sz.length ++ (List.range sz.length).map J.Mv.fill) ++ (List.range sz.length).map J.Mv.emp := by simp [J.moves]
         rw [e7]
         exact Paired.appP (nO p3 ((Fix.of (s5.trans s6)).trans f6)) (nO p5 ((Fix.of s6).trans f6))
end
end Jug
namespace Jug
open PySem L2
def kOf (st : List Int) : List Key := st.map Sum.inl
theorem qU (st : List Int) : (kOf st).map kV = st.map V.int := by
 unfold kOf
 rw [List.map_map]
 rfl
theorem aT8 {a b : List Int} (h : kOf a = kOf b) : a = b := by
 unfold kOf at h
 exact List.map_inj_right (fun x y e => Sum.inl.inj e) |>.mp h
def WVal (Z : Cz) (H : Hp) (W : List J.Way) : V → Option (Nat × J.Mv) → Prop
 | v, none => v = .non
 | v, some (q, m) => ∃ t a p x, v = .ref t ∧ H t = some (.tup [.ref a, .ref p]) ∧ W[q]? = some x ∧ H a = some (.tup (x.1.map V.int)) ∧ iX Z H p m
def WD (Z : Cz) (H : Hp) (W : List J.Way) : List (List Key × V) → List J.Way → Prop := Paired fun kv x => kv.1 = kOf x.1 ∧ WVal Z H W kv.2 x.2
theorem WVal.fix {Z : Cz} {H H' : Hp} {W : List J.Way} {v : V} : ∀ {o : Option (Nat × J.Mv)}, WVal Z H W v o → Fix H H' → WVal Z H' W v o
 | none, h, _ => h
 | some (_, _), ⟨t, a, p, x, e, h1, h2, h3, h4⟩, s => ⟨t, a, p, x, e, s _ _ h1 rfl, h2, s _ _ h3 rfl, h4.fix s⟩
theorem WVal.more {Z : Cz} {H : Hp} {W V' : List J.Way} {v : V} : ∀ {o : Option (Nat × J.Mv)}, WVal Z H W v o → WVal Z H (W ++ V') v o
 | none, h => h
 | some (_, _), ⟨t, a, p, x, e, h1, h2, h3, h4⟩ => ⟨t, a, p, x, e, h1, by rw [List.getElem?_append_left (List.getElem?_eq_some_iff.mp h2).1]; exact h2, h3, h4⟩
theorem WD.fix {Z : Cz} {H H' : Hp} {W : List J.Way} {kvs : List (List Key × V)} {ws : List J.Way} (h : WD Z H W kvs ws) (s : Fix H H') : WD Z H' W kvs ws := Paired.mapP h fun _ _ z => ⟨z.1, z.2.fix s⟩
theorem WD.more {Z : Cz} {H : Hp} {W V' : List J.Way} {kvs : List (List Key × V)} {ws : List J.Way} (h : WD Z H W kvs ws) : WD Z H (W ++ V') kvs ws := Paired.mapP h fun _ _ z => ⟨z.1, z.2.more⟩
theorem WD.keys {Z : Cz} {H : Hp} {W : List J.Way} : ∀ {kvs : List (List Key × V)} {ws : List J.Way}, WD Z H W kvs ws → kvs.map (·.1) = ws.map fun x => kOf x.1
 | _, _, .nil => rfl
 | _, _, .cons h t => by rw [List.map_cons, List.map_cons, WD.keys t, h.1]
theorem WD.has {Z : Cz} {H : Hp} {W : List J.Way} {kvs : List (List Key × V)} {ws : List J.Way} (h : WD Z H W kvs ws) (y : List Int) : (nH kvs (kOf y)).isSome = decide (y ∈ ws.map (·.1)) := by
 rw [← nY, Bool.eq_iff_iff]
 simp only [List.any_eq_true, decide_eq_true_iff]
 constructor
 · rintro ⟨kv, h1, h2⟩
   have : kOf y ∈ kvs.map (·.1) := List.mem_map.mpr ⟨kv, h1, h2⟩
   rw [h.keys] at this
   obtain ⟨x, h3, h4⟩ := List.mem_map.mp this
   exact List.mem_map.mpr ⟨x, h3, aT8 h4⟩
 · intro hy
   obtain ⟨x, h3, h4⟩ := List.mem_map.mp hy
   have : kOf y ∈ kvs.map (·.1) := by rw [h.keys]; exact List.mem_map.mpr ⟨x, h3, by rw [h4]⟩
   obtain ⟨kv, h1, h2⟩ := List.mem_map.mp this
   exact ⟨kv, h1, h2⟩
def WS (Z : Cz) (Hb H' : Hp) (d rw : Addr) (W : List J.Way) : Prop := ∃ kvs rs, Same Hb H' ∧ H' d = some (.dT kvs) ∧ H' rw = some (.lst rs) ∧ Paired (lH H') rs (W.map (·.1)) ∧ WD Z H' W kvs W
theorem WS.same {Z : Cz} {Hb H' H'' : Hp} {d rw : Addr} {W : List J.Way} (h : WS Z Hb H' d rw W) (s : Same H' H'') : WS Z Hb H'' d rw W := by
 obtain ⟨kvs, rs, s0, e1, e2, p, wd⟩ := h
 exact ⟨kvs, rs, s0.trans s, s _ _ e1, s _ _ e2, rS p (Fix.of s), wd.fix (Fix.of s)⟩
theorem aW0 {Z : Cz} {Hb H' : Hp} {d rw tt a p bb : Addr} {W : List J.Way} {kvs : List (List Key × V)} {rs : List V} {q : Nat} {m : J.Mv} {x : J.Way} {y : List Int} (nd : Hb d = none) (nr : Hb rw = none) (s0 : Same Hb H') (e1 : H' d = some (.dT kvs))
   (e2 : H' rw = some (.lst rs)) (p1 : Paired (lH H') rs (W.map (·.1))) (wd : WD Z H' W kvs W) (nt : H' tt = none) (hx : W[q]? = some x) (ha : H' a = some (.tup (x.1.map V.int))) (hm : iX Z H' p m) (hb : H' bb = some (.tup (y.map V.int))) :
   WS Z Hb (upd (upd (upd H' tt (.tup [.ref a, .ref p])) d (.dT (kvs ++ [(kOf y, .ref tt)]))) rw (.lst (rs ++ [.ref bb]))) d rw (W ++ [(y, some (q, m))]) ∧ Fix H' (upd (upd (upd H' tt (.tup [.ref a, .ref p])) d (.dT (kvs ++ [(kOf y, .ref tt)]))) rw (.lst (rs ++ [.ref bb]))) := by
 have dtt : d ≠ tt := aJ e1 nt
 have rtt : rw ≠ tt := aJ e2 nt
 have drw : d ≠ rw := yM e1 e2 (by intro h; cases h)
 have g1 : (upd H' tt (.tup [.ref a, .ref p])) d = some (.dT kvs) := by rw [aI dtt]; exact e1
 have g2 : (upd (upd H' tt (.tup [.ref a, .ref p])) d (.dT (kvs ++ [(kOf y, .ref tt)]))) rw = some (.lst rs) := by rw [aI drw.symm, aI rtt]; exact e2
 have f1 : Fix H' (upd (upd (upd H' tt (.tup [.ref a, .ref p])) d (.dT (kvs ++ [(kOf y, .ref tt)]))) rw (.lst (rs ++ [.ref bb]))) := ((Fix.of (Same.new nt)).trans (Fix.put g1 rfl)).trans (Fix.put g2 rfl)
 refine ⟨⟨kvs ++ [(kOf y, .ref tt)], rs ++ [.ref bb], ((s0.lay nt).put nd).put nr, ?_, aD, ?_, ?_⟩, f1⟩
 · rw [aI drw, aD]
 · rw [List.map_append]
   exact Paired.snocP (rS p1 f1) ⟨bb, rfl, f1 _ _ hb rfl⟩
 · refine Paired.snocP (wd.fix f1).more ⟨rfl, tt, a, p, x, rfl, ?_, ?_, f1 _ _ ha rfl, hm.fix f1⟩
   · rw [aI rtt.symm, aI dtt.symm, aD]
   · rw [List.getElem?_append_left (List.getElem?_eq_some_iff.mp hx).1]
     exact hx
theorem sZ {sz here : List Int} {p : Nat} {i : Nat} {y : J.Way} : ∀ (ms : List J.Mv) {W : List J.Way}, W[i]? = some y → (J.gY sz here p ms W)[i]? = some y
 | [], _, h => h
 | _ :: ms, _, h => sZ ms (J.sY h)
theorem yZ {sz here : List Int} {p : Nat} {W : List J.Way} {ms : List J.Mv} {j : Nat} {m : J.Mv} (h : ms[j]? = some m) : J.gY sz here p (ms.take (j + 1)) W = J.iZ sz here p (J.gY sz here p (ms.take j) W) m := by
 rw [List.take_add_one, h]
 simp [J.gY]
theorem tD {sz here : List Int} {p : Nat} : ∀ (ms : List J.Mv) {W : List J.Way}, (J.gY sz here p ms W).length ≤ W.length + ms.length
 | [], _ => Nat.le_refl _
 | m :: ms, W => by
   have h1 := tD (sz := sz) (here := here) (p := p) ms (W := J.iZ sz here p W m)
   have h2 : (J.iZ sz here p W m).length ≤ W.length + 1 := by
     unfold J.iZ
     split
     · omega
     · simp
   have h3 : J.gY sz here p (m :: ms) W = J.gY sz here p ms (J.iZ sz here p W m) := rfl
   rw [h3, List.length_cons]
   omega
theorem aG6 : ∀ n, n < 5 → ∀ tap, (J.moves n tap).length ≤ 20 := by decide +kernel
section
variable {P : Program} {w : World} {K : W.Frag} {mg : Str → Option Value} {base : Heap} {CH : Addr} {Z : Cz}
def vS (Z : Cz) (CH : Addr) : Sp := fun vs H Q _ => ∃ p a sz tap st, vs = [.ref p, .ref a] ∧ House CH H p sz tap ∧ Hz sz ∧ H a = some (.tup (st.map V.int)) ∧ J.IsSt sz st ∧
 ∀ d H' kvs, Same H H' → H d = none → H' d = some (.dT kvs) → WD Z H' (J.ways sz (J.moves sz.length tap) st) kvs (J.ways sz (J.moves sz.length tap) st) → Q (.ref d) H'
theorem aS8 (F : Fun K "ways_from" "ways_from" fB f fd) (B : Bt mg) (N : FnB P w K mg base 2 "held_in" ["house", "state"] (dO CH)) (MO : MeB P w K mg base 7 CH "moves" ["self"] (rF Z CH))
   (D : ∀ C, sX Z C → MeB P w K mg base 5 C "done" ["self", "house", "state"] (vT Z CH)) : FnOk P w K mg base CX0 8 f fd ["house", "state"] (vS Z CH) := by
 refine F.ok cD (fun vs H Q E h => ?_) (fun cdv A outer s H vs Q E hr h => ?_)
 · obtain ⟨p, a, sz, tap, st, rfl, _⟩ := h
   rfl
 · obtain ⟨p, a, sz, tap, st, rfl, hh, hz, ha, hst, k⟩ := h
   have hu := hr.units
   refine ⟨_, aC (aM (i := 2) cD.nd rfl (Or.inl rfl) (aR aY (by rfl) B.tuple bP (aA (aU N (hr.mono (by decide)) (aA (pv 0) (aA (pv 1) aB))) aB)))
     (aC (aM (i := 3) cD.nd rfl (Or.inl rfl) (jW MO (pv 0) (hr.mono (by decide))))
     (aC (aM (i := 4) cD.nd rfl (Or.inl rfl) (aF4 hr.units0 (pv 2) fN))
     (aC (aM (i := 5) cD.nd rfl (Or.inl rfl) (aN (aA (pv 2) aB)))
     (aC (aM (i := 6) cD.nd rfl (Or.inl rfl) aE)
     (aC (aL0 PassesOwn.never (aV aV1 (pv 6) (aQ bC (by rfl) B.len PySem.boot_len (aA (pv 5) aB)) (nomark _))
       (aC (aM (i := 7) cD.nd rfl (Or.inl rfl) (fO dA (pv 5) (pv 6) (fun _ _ => rfl)))
       (aC (cN PassesOwn.never rfl (dI (pv 3)) (bT (i := 8) cD.nd rfl (Or.inl rfl))
         (aC (aM (i := 9) cD.nd rfl (Or.inl rfl) (aX3 D (pv 8) (hr.mono (by decide)) (aA (pv 0) (aA (pv 7) aB))))
         (aH (aT (aW8 (aF5 (Nat.lt_of_le_of_lt (Nat.add_le_add_left (by decide) _) hu) (pv 9) (pv 4)) rfl)
           (aC (aS3 (Nat.lt_of_le_of_lt (Nat.add_le_add_left (by decide) _) hu) (pv 4) (pv 9) (bD (aA (pv 7) (aA (pv 8) aB))) rfl) (aH (aW (mJ (pv 5) (pv 9)))))
           aL))))
       (aH (aX0 (i := 6) cD.nd rfl (Or.inl rfl) aE aZ5)))))
     (aH (aP (pv 4)))))))), ?_⟩
   obtain ⟨dx, tz, hp, htz⟩ := id hh
   refine ⟨_, rfl, _, rfl, p, sz, tap, a, st, rfl, hh, ha, hst, fun y H2 s2 ny ey => ?_⟩
   refine ⟨y, _, rfl, .inl ⟨SqL.of ey, fun t nt => ?_⟩⟩
   have s3 : Same H (upd H2 t (.tup (st.map V.int))) := s2.lay nt
   refine ⟨_, rfl, p, dx, _, rfl, s3 _ _ hp, mE _ _ (by decide +kernel) (by decide +kernel), p, sz, tap, rfl, hh.mono s3, hz, fun r H4 ys s4 nr er pm => ?_⟩
   have et : H4 t = some (.tup (st.map V.int)) := s4 _ _ aD
   refine fun d nd => ⟨_, rfl, kOf st, t, rfl, ?_, aD, ?_⟩
   · rw [aI (aJ et nd), qU]
     exact et
   rw [aR3]
   refine ⟨_, rfl, (by exact sz1), fun rw nrw => ?_⟩
   have drw : d ≠ rw := fun e => by subst e; rw [aD] at nrw; cases nrw
   have nrw4 : H4 rw = none := by rwa [aI drw.symm] at nrw
   have nd0 : H d = none := by
     cases e : H d with
     | none => rfl
     | some o => have := (s3.trans s4) _ _ e; rw [nd] at this; cases this
   have hg := J.nX (tap := tap) hz.nn
   have hle := hz.states_le
   refine ⟨fun n σ H' => ∃ (pl : Nat) (v7 v8 v9 : Option V), σ = [some (.ref p), some (.ref a), some (.ref t), some (.ref r), some (.ref d), some (.ref rw), some (.int pl), v7, v8, v9] ∧ WS Z H4 H' d rw (J.run sz (J.moves sz.length tap) st pl) ∧ n = (J.states sz).length - pl,
     ⟨_, 0, none, none, none, rfl, ⟨[(kOf st, .non)], [.ref t], ((Same.refl _).put nd).put nrw4, (by rw [aI drw, aD]), aD, .cons ⟨t, rfl, ?_⟩ .nil, .cons ⟨rfl, rfl⟩ .nil⟩, rfl⟩, ?_⟩
   · rw [aI (aJ et nrw4), aI (aJ et nd)]
     exact et
   rintro n σ H' ⟨pl, v7, v8, v9, rfl, ws, rfl⟩
   obtain ⟨kvs, rs, s5, e1, e2, p1, wd⟩ := id ws
   have hl : rs.length = (J.run sz (J.moves sz.length tap) st pl).length := by have := p1.length; simpa using this
   have rl := J.vW hg hst pl
   refine ⟨_, rfl, _, rfl, rw, _, rfl, .inl (SqL.of e2), _, _, rfl, rfl, _, rfl, ?_⟩
   by_cases c : (pl : Int) < (rs.length : Int)
   · rw [decide_eq_true c]
     obtain ⟨x, hx⟩ : ∃ x, (J.run sz (J.moves sz.length tap) st pl)[pl]? = some x := ⟨_, List.getElem?_eq_getElem (by omega)⟩
     have hv : rs[pl]? = some (rs[pl]'(by omega)) := by simp
     obtain ⟨z, hz', aa, eaa, haa⟩ := L2.Paired.get p1 hv
     rw [List.getElem?_map, hx] at hz'
     cases hz'
     rw [eaa] at hv
     have hxs : J.IsSt sz x.1 := (J.qR hg hst pl).sts x (List.mem_of_getElem? hx)
     refine dR ⟨fun σ' H'' => ∃ v8 v9 : Option V, σ' = [some (.ref p), some (.ref a), some (.ref t), some (.ref r), some (.ref d), some (.ref rw), some (.int ((pl : Int) + 1)), some (.ref aa), v8, v9] ∧ WS Z H4 H'' d rw (J.run sz (J.moves sz.length tap) st (pl + 1)),
       fun σ' H'' ⟨v8, v9, e, w'⟩ => ⟨_, by omega, pl + 1, _, v8, v9, e, w', rfl⟩, ?_⟩
     refine ⟨_, rfl, _, rfl, rw, _, _, _, rfl, rfl, SqL.of e2, eZ hv, ?_⟩
     refine ⟨_, rfl, r, rfl, ⟨_, SqL.of (s5 _ _ er)⟩, cU (K := K) (a := r) (xs := ys) (fun j σ H'' => ∃ v8 v9 : Option V, σ = [some (.ref p), some (.ref a), some (.ref t), some (.ref r), some (.ref d), some (.ref rw), some (.int pl), some (.ref aa), v8, v9] ∧ H'' aa = some (.tup (x.1.map V.int)) ∧
       WS Z H4 H'' d rw (J.gY sz x.1 pl ((J.moves sz.length tap).take j) (J.run sz (J.moves sz.length tap) st pl))) ⟨v8, v9, rfl, haa, by simpa [J.gY] using ws⟩ (fun j σ H'' _ ⟨_, _, _, _, _, _, s6, _⟩ => SqL.of (s6 _ _ er)) ?_ ?_⟩
     · rintro j v σ H6 hv' ⟨v8, v9, rfl, ha6, ws6⟩
       obtain ⟨m, hm, pp, rfl, hmv⟩ := L2.Paired.get pm hv'
       obtain ⟨_, _, s6, _⟩ := id ws6
       obtain ⟨dp, hpp⟩ := hmv.mono s6
       refine ⟨_, rfl, Z.cl m, pp, dp, _, sW Z m, rfl, hpp, wZ m (by decide +kernel) (by decide +kernel) (by decide +kernel), _, rfl, _, rfl, pp, p, aa, sz, tap, _, m, rfl, hmv.mono s6, hh.mono (s3.trans (s4.trans s6)), ha6, hxs, J.vG.mp (List.mem_of_getElem? hm), fun bb H7 s7 e7 => ?_⟩
       have ws7 := ws6.same s7
       obtain ⟨kv7, rs7, s70, e71, e72, p71, wd7⟩ := id ws7
       refine ⟨_, rfl, _, rfl, d, _, rfl, DGet.t (k := kOf (J.behind sz x.1 m)) e71 (by rw [qU]; exact e7), _, rfl, ?_⟩
       rw [yZ hm]
       rw [wd7.has]
       by_cases hin : J.behind sz x.1 m ∈ (J.gY sz x.1 pl ((J.moves sz.length tap).take j) (J.run sz (J.moves sz.length tap) st pl)).map (·.1)
       · rw [decide_eq_true hin]
         refine cB ⟨_, _, rfl, s7 _ _ ha6, ?_⟩
         unfold J.iZ
         rw [if_pos hin]
         exact ws7
       · have no := wd7.has (J.behind sz x.1 m)
         rw [decide_eq_false hin] at no
         rw [decide_eq_false hin]
         have hno : nH kv7 (kOf (J.behind sz x.1 m)) = none := by
           cases e : nH kv7 (kOf (J.behind sz x.1 m)) with
           | none => rfl
           | some v => rw [e] at no; cases no
         have l1 := wd7.length
         have l2 := tD (sz := sz) (here := x.1) (p := pl) ((J.moves sz.length tap).take j) (W := J.run sz (J.moves sz.length tap) st pl)
         have l3 := aG6 sz.length (by have := hz.l4; omega) tap
         have l4 : ((J.moves sz.length tap).take j).length ≤ (J.moves sz.length tap).length := by rw [List.length_take]; exact Nat.min_le_right _ _
         have l5 := p71.length
         rw [List.length_map] at l5
         have g1 : ∀ tt, H7 tt = none → (upd H7 tt (.tup [.ref aa, .ref pp])) d = some (.dT kv7) := fun tt n => by rw [aI (aJ e71 n)]; exact e71
         refine dR ⟨_, rfl, _, rfl, (by exact sz2), fun tt ntt => ⟨_, rfl, _, rfl, d, _, rfl, DPut.t (k := kOf (J.behind sz x.1 m)) (g1 tt ntt) (by rw [qU, aI (aJ e7 ntt)]; exact e7) (by rw [sizeLine_eq]; omega), ?_⟩⟩
         rw [aK9 _ hno]
         have drw7 : rw ≠ d := yM e72 e71 (by intro h; cases h)
         have g2 : (upd (upd H7 tt (.tup [.ref aa, .ref pp])) d (.dT (kv7 ++ [(kOf (J.behind sz x.1 m), .ref tt)]))) rw = some (.lst rs7) := by rw [aI drw7, aI (aJ e72 ntt)]; exact e72
         refine ⟨_, rfl, .inl ⟨rfl, _, SqL.of g2⟩, _, rfl, rw, _, _, rfl, rfl, g2, (by rw [sizeLine_eq]; omega), ?_⟩
         obtain ⟨wsn, fxn⟩ := aW0 nd nrw4 s70 e71 e72 p71 wd7 ntt (sZ _ hx) (s7 _ _ ha6) (hmv.mono (s6.trans s7)) e7
         refine ⟨_, _, rfl, fxn _ _ (s7 _ _ ha6) rfl, ?_⟩
         unfold J.iZ
         rw [if_neg hin]
         exact wsn
     · rintro σ H6 ⟨v8, v9, rfl, ha6, ws6⟩
       refine ⟨_, rfl, _, _, rfl, rfl, _, _, rfl, ?_⟩
       rw [J.aK4 hx]
       rw [pm.length, List.take_length] at ws6
       exact ws6
   · rw [decide_eq_false c]
     refine ⟨_, rfl, k d H' kvs (s3.trans (s4.trans s5)) nd0 e1 ?_⟩
     rw [J.aS2 hg hst (p := pl) (by omega)] at wd
     exact wd
end
end Jug
namespace Jug
open PySem L2
theorem pI : ∀ st : List Int, Paired isI (st.map V.int) st
 | [] => .nil
 | _ :: st => .cons rfl (pI st)
theorem toT {K : W.Frag} {H : Hp} {v : V} {st : List Int} (h : lH H v st) : isT K H isI v st := by
 obtain ⟨a, rfl, e⟩ := h
 exact ⟨a, _, rfl, SqT.of e, pI st⟩
theorem bA9 {K : W.Frag} {H : Hp} {vs : List V} {sts : List (List Int)} (h : Paired (lH H) vs sts) : Paired (isT K H isI) vs sts := Paired.mapP h fun _ _ => toT
theorem rcT {X : Cx} {H : Hp} {a b : Addr} {s t : List Int} (ha : H a = some (.tup (s.map V.int))) (hb : H b = some (.tup (t.map V.int))) : RcD X H 20 (.ref a) (.ref b) (decide (s = t)) :=
 (EqR.tup (d := 19) EqR.int).rc _ _ s t ⟨a, _, rfl, SqT.of ha, pI s⟩ ⟨b, _, rfl, SqT.of hb, pI t⟩
theorem rcL {X : Cx} {H : Hp} {a b : Addr} {s t : List Int} (ha : H a = some (.lst (s.map V.int))) (hb : H b = some (.lst (t.map V.int))) : RcD X H 20 (.ref a) (.ref b) (decide (s = t)) :=
 (EqR.lst (d := 19) EqR.int).rc _ _ s t ⟨a, _, rfl, SqL.of ha, pI s⟩ ⟨b, _, rfl, SqL.of hb, pI t⟩
theorem bE3 {X : Cx} {H : Hp} {a b : Addr} {xs ys : List V} {s t : List (List Int)} (ha : H a = some (.lst xs)) (px : Paired (lH H) xs s) (hb : H b = some (.lst ys)) (py : Paired (lH H) ys t) : RcD X H 20 (.ref a) (.ref b) (decide (s = t)) :=
 (EqR.lst (d := 19) (EqR.tup (d := 18) EqR.int)).rc _ _ s t ⟨a, _, rfl, SqL.of ha, bA9 px⟩ ⟨b, _, rfl, SqL.of hb, bA9 py⟩
theorem pB : ∀ st : List Bool, Paired isB (st.map V.bl) st
 | [] => .nil
 | _ :: st => .cons rfl (pB st)
theorem rcB {X : Cx} {H : Hp} {a b : Addr} {s t : List Bool} (ha : H a = some (.lst (s.map V.bl))) (hb : H b = some (.lst (t.map V.bl))) : RcD X H 20 (.ref a) (.ref b) (decide (s = t)) :=
 (EqR.lst (d := 19) EqR.bl).rc _ _ s t ⟨a, _, rfl, SqL.of ha, pB s⟩ ⟨b, _, rfl, SqL.of hb, pB t⟩
section
variable {P : Program} {w : World} {K : W.Frag} {mg : Str → Option Value} {base : Heap} {CH : Addr}
theorem rZ (F : Fun K "check_jug" "check_jug" eF f fd) (N : FnB P w K mg base 2 "is_jug" ["value"] pH) : FnOk P w K mg base CX0 3 f fd ["jug"] cS := by
 refine F.ok mQ (fun vs H Q E h => ?_) (fun cdv A outer s H vs Q E hr h => ?_)
 · obtain ⟨j, rfl, _⟩ := h
   rfl
 · obtain ⟨j, rfl, hj, k⟩ := h
   refine ⟨_, aH (aT (bJ (bK (aU N hr (aA (pv 0) aB)))) aG aL), ?_⟩
   refine ⟨_, rfl, (j : Int), rfl, _, rfl, ?_⟩
   rw [decide_eq_true (by omega : (0 : Int) ≤ j), decide_eq_true (by omega : (j : Int) ≤ 3)]
   exact cB k
theorem mD (F : Fun K "check_house_has" "check_house_has" cG f fd) (B : Bt mg) (S : MeB P w K mg base 1 CH "sizes" ["self"] (hZ CH)) :
   FnOk P w K mg base CX0 2 f fd ["house", "jug"] (bQ CH) := by
 refine F.ok jA (fun vs H Q E h => ?_) (fun cdv A outer s H vs Q E hr h => ?_)
 · obtain ⟨p, sz, tap, j, rfl, _⟩ := h
   rfl
 · obtain ⟨p, sz, tap, j, rfl, hh, hj, k⟩ := h
   obtain ⟨dx, t, hp, ht⟩ := id hh
   refine ⟨_, aH (aT (aV aC5 (pv 1) (aQ bC (by rfl) B.len PySem.boot_len (aA (jW S (pv 0) hr) aB)) (nomark _)) aG aL), ?_⟩
   refine ⟨_, rfl, _, rfl, p, dx, _, rfl, hp, mE _ _ (by decide +kernel) (by decide +kernel), p, sz, tap, rfl, hh, fun m hm => ?_⟩
   refine ⟨m, _, rfl, .inl (SqL.of aD), _, _, rfl, rfl, _, rfl, ?_⟩
   rw [decide_eq_false (by simp; omega)]
   exact cB (k _ (Same.new hm))
end
structure Gz where
 H : Addr
 S : Addr
 U : Addr
 W : Addr
inductive Go where
 | holds (j : Nat) (m : Int)
 | som (m : Int)
 | sum (js : List Int) (m : Int)
 | whole (st : List Int)
def hoF (j : Nat) (m : Int) : List (Str × V) := iF "many" (.int m) (iF "jug" (.int j) [])
def soF (m : Int) : List (Str × V) := iF "many" (.int m) []
def suF (t : Addr) (m : Int) : List (Str × V) := iF "many" (.int m) (iF "jugs" (.ref t) [])
def whF (t : Addr) : List (Str × V) := iF "state" (.ref t) []
theorem aA0 : ¬ (("many" : Str) = "jug") := by decide +kernel
theorem yO : ¬ (("many" : Str) = "jugs") := by decide +kernel
theorem wY (j : Nat) (m : Int) : (hoF j m).lookup ("jug" : Str) = some (.int j) := by
 unfold hoF; rw [aX, if_neg (fun e => aA0 e.symm), aX, if_pos rfl]
theorem aP0 (j : Nat) (m : Int) : (hoF j m).lookup ("many" : Str) = some (.int m) := by
 unfold hoF; rw [aX, if_pos rfl]
theorem sS (j : Nat) (m : Int) {x : Str} (h1 : ¬ x = "many") (h2 : ¬ x = "jug") : (hoF j m).lookup x = none := by
 unfold hoF; rw [aX, if_neg h1, aX, if_neg h2]; rfl
theorem aJ7 (m : Int) : (soF m).lookup ("many" : Str) = some (.int m) := by
 unfold soF; rw [aX, if_pos rfl]
theorem zG (m : Int) {x : Str} (h1 : ¬ x = "many") : (soF m).lookup x = none := by
 unfold soF; rw [aX, if_neg h1]; rfl
theorem rD (t : Addr) (m : Int) : (suF t m).lookup ("jugs" : Str) = some (.ref t) := by
 unfold suF; rw [aX, if_neg (fun e => yO e.symm), aX, if_pos rfl]
theorem aJ3 (t : Addr) (m : Int) : (suF t m).lookup ("many" : Str) = some (.int m) := by
 unfold suF; rw [aX, if_pos rfl]
theorem zE (t : Addr) (m : Int) {x : Str} (h1 : ¬ x = "many") (h2 : ¬ x = "jugs") : (suF t m).lookup x = none := by
 unfold suF; rw [aX, if_neg h1, aX, if_neg h2]; rfl
theorem oZ (t : Addr) : (whF t).lookup ("state" : Str) = some (.ref t) := by
 unfold whF; rw [aX, if_pos rfl]
theorem vQ (t : Addr) {x : Str} (h1 : ¬ x = "state") : (whF t).lookup x = none := by
 unfold whF; rw [aX, if_neg h1]; rfl
def gJ (Z : Gz) (H : Hp) (p : Addr) : Go → Prop
 | .holds j m => ∃ dx, H p = some (.ins Z.H dx (hoF j m))
 | .som m => ∃ dx, H p = some (.ins Z.S dx (soF m))
 | .sum js m => ∃ dx t, H p = some (.ins Z.U dx (suF t m)) ∧ H t = some (.tup (js.map V.int))
 | .whole st => ∃ dx t, H p = some (.ins Z.W dx (whF t)) ∧ H t = some (.tup (st.map V.int))
theorem gJ.fix {Z : Gz} {H H' : Hp} {p : Addr} {g : Go} (h : gJ Z H p g) (s : Fix H H') : gJ Z H' p g := by
 cases g with
 | holds j m => obtain ⟨dx, e⟩ := h; exact ⟨dx, s _ _ e rfl⟩
 | som m => obtain ⟨dx, e⟩ := h; exact ⟨dx, s _ _ e rfl⟩
 | sum js m => obtain ⟨dx, t, e, e2⟩ := h; exact ⟨dx, t, s _ _ e rfl, s _ _ e2 rfl⟩
 | whole st => obtain ⟨dx, t, e, e2⟩ := h; exact ⟨dx, t, s _ _ e rfl, s _ _ e2 rfl⟩
theorem gJ.mono {Z : Gz} {H H' : Hp} {p : Addr} {g : Go} (h : gJ Z H p g) (s : Same H H') : gJ Z H' p g := h.fix (Fix.of s)
def Go.ok (sz : List Int) : Go → Prop
 | .holds j _ => j < sz.length
 | .som _ => True
 | .sum js _ => js.length ≤ 4 ∧ ∀ j ∈ js, 0 ≤ j ∧ j < sz.length
 | .whole t => J.IsSt sz t
def bB7 (st js : List Int) : Int := (js.map fun j => J.at0 st j.toNat).sum
def Go.met (st : List Int) : Go → Bool
 | .holds j m => decide (J.at0 st j = m)
 | .som m => decide (m ∈ st)
 | .sum js m => decide (bB7 st js = m)
 | .whole t => decide (st = t)
def Go.num : Go → Nat
 | .holds _ _ => 0
 | .som _ => 1
 | .sum _ _ => 2
 | .whole _ => 3
theorem aQ5 (a b : Int) : decide (V.int a = V.int b) = decide (a = b) := by
 by_cases h : a = b
 · rw [decide_eq_true h, decide_eq_true (by rw [h])]
 · rw [decide_eq_false h, decide_eq_false (fun e => h (by injection e))]
theorem aO7 (m : Int) (st : List Int) : inV (.int m) (st.map V.int) = decide (m ∈ st) := by
 unfold inV
 rw [Bool.eq_iff_iff, List.any_eq_true, decide_eq_true_iff]
 constructor
 · rintro ⟨x, hx, e⟩
   obtain ⟨z, hz, rfl⟩ := List.mem_map.mp hx
   have : z = m := beq_iff_eq.mp (show (z == m) = true from e)
   exact this ▸ hz
 · intro h
   exact ⟨.int m, List.mem_map.mpr ⟨m, h, rfl⟩, (show (m == m) = true from beq_iff_eq.mpr rfl)⟩
theorem aH8 (st : List Int) : (st.map V.int).all oU = true := by
 rw [List.all_eq_true]
 intro x hx
 obtain ⟨z, _, rfl⟩ := List.mem_map.mp hx
 rfl
structure CHo (K : W.Frag) (C : Addr) : Prop where
 cl : Cls K C
 jug : fT K C "jug"
 many : fT K C "many"
structure CSo (K : W.Frag) (C : Addr) : Prop where
 cl : Cls K C
 many : fT K C "many"
structure CSu (K : W.Frag) (C : Addr) : Prop where
 cl : Cls K C
 jugs : fT K C "jugs"
 many : fT K C "many"
structure CWh (K : W.Frag) (C : Addr) : Prop where
 cl : Cls K C
 state : fT K C "state"
section
variable {P : Program} {w : World} {K : W.Frag} {mg : Str → Option Value} {base : Heap} {CH : Addr} {Z : Gz}
def gK : Sp := fun vs H Q _ => ∃ m : Int, vs = [.int m] ∧ 0 ≤ m ∧ m ≤ 240 ∧ Q .non H
theorem qL (F : Fun K "check_amount" "check_amount" dF f fd) (hA : ∃ t, mg "MOST_AMOUNT" = some (.int 240 t)) (N : FnB P w K mg base 1 "is_number" ["value", "least", "most"] fW) : FnOk P w K mg base CX0 2 f fd ["many"] gK := by
 obtain ⟨t, eA⟩ := hA
 refine F.ok lM (fun vs H Q E h => ?_) (fun cdv A outer s H vs Q E hr h => ?_)
 · obtain ⟨m, rfl, _⟩ := h
   rfl
 · obtain ⟨m, rfl, h0, h1, k⟩ := h
   refine ⟨_, aH (aT (bJ (bK (aU N hr (aA (pv 0) (aA aE (aA (bB (v := .int 240) (by rfl) eA ⟨_, rfl⟩) aB)))))) aG aL), ?_⟩
   refine ⟨_, rfl, m, 0, 240, rfl, _, rfl, ?_⟩
   rw [decide_eq_true h0, decide_eq_true h1]
   exact cB k
def nJ : Sp := fun vs H Q _ => ∃ (l : Addr) (js : List Int), vs = [.ref l] ∧ H l = some (.lst (js.map V.int)) ∧ js.Nodup ∧ 1 ≤ js.length ∧ js.length ≤ 4 ∧ (∀ j ∈ js, 0 ≤ j ∧ j ≤ 3) ∧ ∀ r H', Same H H' → H' r = some (.lst (js.map V.int)) → Q (.ref r) H'
theorem zQ (F : Fun K "jugs_in" "jugs_in" iN f fd) (B : Bt mg) (hs : mg "set" = none) (N : FnB P w K mg base 3 "check_jug_goals" ["jug"] cS) : FnOk P w K mg base CX0 4 f fd ["jugs"] nJ := by
 refine F.ok lA (fun vs H Q E h => ?_) (fun cdv A outer s H vs Q E hr h => ?_)
 · obtain ⟨l, js, rfl, _⟩ := h
   rfl
 · obtain ⟨l, js, rfl, hl, hnd, h1, h4, hb, k⟩ := h
   have nd := lA.nd
   refine ⟨_, aC (aT (bJ (bK (aQ bV (by rfl) B.isinstance aS (aA (pv 0) (aA (dL (v := .ty "list") (by rfl) B.list cQ rfl) aB))))) aG aL)
     (aC (aM (i := 1) nd rfl (Or.inl rfl) (aR cF (by rfl) B.list cQ (aA (pv 0) aB)))
     (aC (cN PassesOwn.never rfl (dI (pv 1)) (bT (i := 2) nd rfl (Or.inl rfl))
       (aH (aW (aU N hr (aA (pv 2) aB)))))
     (aC (aT (aV cT (aQ bC (by rfl) B.len PySem.boot_len (aA (pv 1) aB)) aE (nomark _)) aG aL)
     (aC (aT (aV vB (aF3 rfl (by rfl) B.len (by rfl) hs (pv 1)) (aQ bC (by rfl) B.len PySem.boot_len (aA (pv 1) aB)) (nomark _)) aG aL)
     (aH (aP (pv 1))))))), ?_⟩
   refine ⟨_, rfl, _, _, _, _, _, rfl, .ty "list", .lst hl, pU, _, rfl, cB ?_⟩
   refine ⟨_, rfl, l, _, rfl, .inl (SqL.of hl), fun r nr => ?_⟩
   have s1 : Same H (upd H r (.lst (js.map V.int))) := Same.new nr
   refine ⟨_, rfl, r, rfl, ⟨_, SqL.of aD⟩, cU (K := K) (a := r) (xs := js.map V.int) (fun i σ H' => ∃ v, σ = [some (.ref l), some (.ref r), v] ∧ H' = upd H r (.lst (js.map V.int)))
     ⟨none, rfl, rfl⟩ (fun i σ H' _ ⟨_, _, e⟩ => by subst e; exact SqL.of aD) ?_ ?_⟩
   · rintro i x σ H' hx ⟨v, rfl, rfl⟩
     obtain ⟨z, ez, rfl⟩ := fQ hx
     obtain ⟨z0, z3⟩ := hb z (List.mem_of_getElem? ez)
     obtain ⟨j, rfl⟩ : ∃ j : Nat, z = (j : Int) := ⟨z.toNat, (Int.toNat_of_nonneg z0).symm⟩
     exact ⟨_, rfl, j, rfl, by omega, _, rfl, rfl⟩
   · rintro σ H' ⟨v, rfl, rfl⟩
     refine ⟨_, rfl, r, _, rfl, .inl (SqL.of aD), rfl, _, rfl, ?_⟩
     rw [aQ5, decide_eq_false (by rw [List.length_map]; omega)]
     refine cB ?_
     refine ⟨_, rfl, r, js, rfl, SqL.of aD, hnd, by omega, ?_⟩
     refine ⟨_, rfl, r, _, rfl, .inl (SqL.of aD), rfl, _, rfl, aD2 (by rw [List.length_map]) ?_⟩
     exact ⟨_, rfl, k r _ s1 aD⟩
def mP : Sp := fun vs H Q _ => ∃ (l : Addr) (st : List Int), vs = [.ref l] ∧ H l = some (.tup (st.map V.int)) ∧ 1 ≤ st.length ∧ st.length ≤ 4 ∧ (∀ j ∈ st, 0 ≤ j ∧ j ≤ 60) ∧ ∀ r H', Same H H' → H' r = some (.lst (st.map V.int)) → Q (.ref r) H'
theorem tX (F : Fun K "amounts_in" "amounts_in" eI f fd) (B : Bt mg) (N : FnB P w K mg base 1 "is_number" ["value", "least", "most"] fW) : FnOk P w K mg base CX0 2 f fd ["state"] mP := by
 obtain ⟨t4, e4⟩ := B.jugs
 obtain ⟨t60, e60⟩ := B.size
 refine F.ok iS (fun vs H Q E h => ?_) (fun cdv A outer s H vs Q E hr h => ?_)
 · obtain ⟨l, sz, rfl, _⟩ := h
   rfl
 · obtain ⟨l, sz, rfl, hl, h1, h4, hb, k⟩ := h
   have nd := iS.nd
   refine ⟨_, aC (aT (bJ (bK (aQ bV (by rfl) B.isinstance aS (aA (pv 0) (aA (dL (v := .ty "tuple") (by rfl) B.tuple bP rfl) aB))))) aG aL)
     (aC (aM (i := 1) nd rfl (Or.inl rfl) (aR cF (by rfl) B.list cQ (aA (pv 0) aB)))
     (aC (aT (bJ (oO lP lP aE (aQ bC (by rfl) B.len PySem.boot_len (aA (pv 1) aB)) (bB (v := .int 4) (by rfl) e4 ⟨_, rfl⟩))) aG aL)
     (aC (cN PassesOwn.never rfl (dI (pv 1)) (bT (i := 2) nd rfl (Or.inl rfl))
       (aH (aT (bJ (bK (aU N hr (aA (pv 2) (aA aE (aA (bB (v := .int 60) (by rfl) e60 ⟨_, rfl⟩) aB)))))) aG aL)))
     (aH (aP (pv 1)))))), ?_⟩
   refine ⟨_, rfl, _, _, _, _, _, rfl, .ty "tuple", .tup hl, wT, _, rfl, cB ?_⟩
   refine ⟨_, rfl, l, _, rfl, .inr (SqT.of hl), fun r nr => ?_⟩
   have s1 : Same H (upd H r (.lst (sz.map V.int))) := Same.new nr
   refine ⟨_, rfl, r, _, rfl, .inl (SqL.of aD), _, _, rfl, rfl, _, rfl, ?_⟩
   rw [decide_eq_true (by simp; omega)]
   refine dR ⟨_, _, rfl, rfl, _, rfl, ?_⟩
   rw [decide_eq_true (by simp; omega)]
   refine cB ?_
   refine ⟨_, rfl, r, rfl, ⟨_, SqL.of aD⟩, cU (K := K) (a := r) (xs := sz.map V.int) (fun i σ H' => ∃ v, σ = [some (.ref l), some (.ref r), v] ∧ H' = upd H r (.lst (sz.map V.int)))
     ⟨none, rfl, rfl⟩ (fun i σ H' _ ⟨_, _, e⟩ => by subst e; exact SqL.of aD) ?_ ?_⟩
   · rintro i x σ H' hx ⟨v, rfl, rfl⟩
     obtain ⟨z, ez, rfl⟩ := fQ hx
     have hb := hb z (List.mem_of_getElem? ez)
     refine ⟨_, rfl, z, 0, 60, rfl, _, rfl, ?_⟩
     rw [decide_eq_true hb.1, decide_eq_true hb.2]
     exact cB ⟨_, rfl, rfl⟩
   · rintro σ H' ⟨v, rfl, rfl⟩
     exact ⟨_, rfl, k r _ s1 aD⟩
def kC (CH : Addr) : Sp := fun vs H Q _ => ∃ p sz tap a st, vs = [.ref p, .ref a] ∧ House CH H p sz tap ∧ H a = some (.tup (st.map V.int)) ∧ J.IsSt sz st ∧ ∀ H', Same H H' → Q .non H'
theorem oQ (F : Fun K "check_state_of" "check_state_of" cR f fd) (N : FnB P w K mg base 2 "held_in" ["house", "state"] (dO CH)) : FnOk P w K mg base CX0 3 f fd ["house", "state"] (kC CH) := by
 refine F.ok kD (fun vs H Q E h => ?_) (fun cdv A outer s H vs Q E hr h => ?_)
 · obtain ⟨p, sz, tap, a, st, rfl, _⟩ := h
   rfl
 · obtain ⟨p, sz, tap, a, st, rfl, hh, ha, hst, k⟩ := h
   refine ⟨_, aH (aW9 fun E' => aH (aW (aU N hr (aA (pv 0) (aA (pv 1) aB))))), ?_⟩
   exact ⟨_, rfl, _, rfl, p, sz, tap, a, st, rfl, hh, ha, hst, fun l H' s' _ _ => k _ s'⟩
end
section
variable {P : Program} {w : World} {K : W.Frag} {mg : Str → Option Value} {base : Heap} {CH : Addr} {Z : Gz}
def gD (Z : Gz) : Sp := fun vs H Q _ => ∃ (p dx : Addr) (j : Nat) (m : Int), vs = [.ref p, .int j, .int m] ∧ H p = some (.ins Z.H dx []) ∧ j ≤ 3 ∧ 0 ≤ m ∧ m ≤ 240 ∧
 ∀ H', (∀ c o, H c = some o → c ≠ p → H' c = some o) → gJ Z H' p (.holds j m) → Q .non H'
theorem uE (F : Fun K "__init__" "Holds.__init__" eO f fd) (C : CHo K Z.H) (N : FnB P w K mg base 3 "check_jug_goals" ["jug"] cS) (M : FnB P w K mg base 2 "check_amount" ["many"] gK) :
   FnOk P w K mg base CX0 4 f fd ["self", "jug", "many"] (gD Z) := by
 refine F.ok mY (fun vs H Q E h => ?_) (fun cdv A outer s H vs Q E hr h => ?_)
 · obtain ⟨p, dx, a, b, rfl, _⟩ := h
   rfl
 · obtain ⟨p, dx, j, m, rfl, hp, hj, h0, h1, k⟩ := h
   refine ⟨_, aC (aW (aU N hr (aA (pv 1) aB))) (aC (aW (aU M (hr.mono (by decide)) (aA (pv 2) aB)))
     (aC (fL (pv 0) (pv 1) rfl) (aH (fL (pv 0) (pv 2) rfl)))), ?_⟩
   refine ⟨_, rfl, j, rfl, hj, ?_⟩
   refine ⟨_, rfl, m, rfl, h0, h1, ?_⟩
   refine ⟨_, rfl, _, rfl, p, Z.H, dx, [], rfl, hp, C.cl, C.jug, (by show 0 < 1000; decide), ?_⟩
   refine ⟨_, rfl, _, rfl, p, Z.H, dx, _, rfl, aD, C.cl, C.many, (by show 1 < 1000; decide), ?_⟩
   exact k _ (fun c o e hc => by rw [aI hc, aI hc]; exact e) ⟨dx, aD⟩
def kZ (Z : Gz) : Sp := fun vs H Q _ => ∃ (p dx : Addr) (m : Int), vs = [.ref p, .int m] ∧ H p = some (.ins Z.S dx []) ∧ 0 ≤ m ∧ m ≤ 240 ∧
 ∀ H', (∀ c o, H c = some o → c ≠ p → H' c = some o) → gJ Z H' p (.som m) → Q .non H'
theorem wJ (F : Fun K "__init__" "Some.__init__" fE f fd) (C : CSo K Z.S) (M : FnB P w K mg base 2 "check_amount" ["many"] gK) :
   FnOk P w K mg base CX0 3 f fd ["self", "many"] (kZ Z) := by
 refine F.ok oK (fun vs H Q E h => ?_) (fun cdv A outer s H vs Q E hr h => ?_)
 · obtain ⟨p, dx, b, rfl, _⟩ := h
   rfl
 · obtain ⟨p, dx, m, rfl, hp, h0, h1, k⟩ := h
   refine ⟨_, aC (aW (aU M hr (aA (pv 1) aB))) (aH (fL (pv 0) (pv 1) rfl)), ?_⟩
   refine ⟨_, rfl, m, rfl, h0, h1, ?_⟩
   refine ⟨_, rfl, _, rfl, p, Z.S, dx, [], rfl, hp, C.cl, C.many, (by show 0 < 1000; decide), ?_⟩
   exact k _ (fun c o e hc => by rw [aI hc]; exact e) ⟨dx, aD⟩
def lZ (Z : Gz) : Sp := fun vs H Q _ => ∃ (p dx l : Addr) (js : List Int) (m : Int), vs = [.ref p, .ref l, .int m] ∧ H p = some (.ins Z.U dx []) ∧ H l = some (.lst (js.map V.int)) ∧ js.Nodup ∧ 1 ≤ js.length ∧ js.length ≤ 4 ∧ (∀ j ∈ js, 0 ≤ j ∧ j ≤ 3) ∧ 0 ≤ m ∧ m ≤ 240 ∧
 ∀ H', (∀ c o, H c = some o → c ≠ p → H' c = some o) → gJ Z H' p (.sum js m) → Q .non H'
theorem yG (F : Fun K "__init__" "Sum.__init__" gX f fd) (B : Bt mg) (C : CSu K Z.U) (N : FnB P w K mg base 4 "jugs_in" ["jugs"] nJ) (M : FnB P w K mg base 2 "check_amount" ["many"] gK) :
   FnOk P w K mg base CX0 5 f fd ["self", "jugs", "many"] (lZ Z) := by
 refine F.ok qB (fun vs H Q E h => ?_) (fun cdv A outer s H vs Q E hr h => ?_)
 · obtain ⟨p, dx, l, js, m, rfl, _⟩ := h
   rfl
 · obtain ⟨p, dx, l, js, m, rfl, hp, hl, hnd, l1, l4, hb, h0, h1, k⟩ := h
   refine ⟨_, aC (fL (pv 0) (aR aY (by rfl) B.tuple bP (aA (aU N hr (aA (pv 1) aB)) aB)) rfl)
     (aC (aW (aU M (hr.mono (by decide)) (aA (pv 2) aB))) (aH (fL (pv 0) (pv 2) rfl))), ?_⟩
   refine ⟨_, rfl, l, js, rfl, hl, hnd, l1, l4, hb, fun r H1 s1 hr1 => ?_⟩
   refine ⟨r, _, rfl, .inl ⟨SqL.of hr1, fun t nt => ?_⟩⟩
   have s2 : Same H (upd H1 t (.tup (js.map V.int))) := s1.lay nt
   have tp : t ≠ p := fun e => by subst e; rw [s1 _ _ hp] at nt; cases nt
   refine ⟨_, rfl, p, Z.U, dx, [], rfl, s2 _ _ hp, C.cl, C.jugs, (by show 0 < 1000; decide), ?_⟩
   refine ⟨_, rfl, m, rfl, h0, h1, ?_⟩
   refine ⟨_, rfl, _, rfl, p, Z.U, dx, _, rfl, aD, C.cl, C.many, (by show 1 < 1000; decide), ?_⟩
   refine k _ (fun c o e hc => by rw [aI hc, aI hc]; exact s2 _ _ e) ⟨dx, t, aD, ?_⟩
   rw [aI tp, aI tp, aD]
def iR (Z : Gz) : Sp := fun vs H Q _ => ∃ (p dx l : Addr) (st : List Int), vs = [.ref p, .ref l] ∧ H p = some (.ins Z.W dx []) ∧ H l = some (.tup (st.map V.int)) ∧ 1 ≤ st.length ∧ st.length ≤ 4 ∧ (∀ j ∈ st, 0 ≤ j ∧ j ≤ 60) ∧
 ∀ H', (∀ c o, H c = some o → c ≠ p → H' c = some o) → gJ Z H' p (.whole st) → Q .non H'
theorem tZ (F : Fun K "__init__" "Whole.__init__" eJ f fd) (B : Bt mg) (C : CWh K Z.W) (N : FnB P w K mg base 2 "amounts_in" ["state"] mP) :
   FnOk P w K mg base CX0 3 f fd ["self", "state"] (iR Z) := by
 refine F.ok mW (fun vs H Q E h => ?_) (fun cdv A outer s H vs Q E hr h => ?_)
 · obtain ⟨p, dx, l, js, rfl, _⟩ := h
   rfl
 · obtain ⟨p, dx, l, js, rfl, hp, hl, l1, l4, hb, k⟩ := h
   refine ⟨_, aH (fL (pv 0) (aR aY (by rfl) B.tuple bP (aA (aU N hr (aA (pv 1) aB)) aB)) rfl), ?_⟩
   refine ⟨_, rfl, l, js, rfl, hl, l1, l4, hb, fun r H1 s1 hr1 => ?_⟩
   refine ⟨r, _, rfl, .inl ⟨SqL.of hr1, fun t nt => ?_⟩⟩
   have s2 : Same H (upd H1 t (.tup (js.map V.int))) := s1.lay nt
   have tp : t ≠ p := fun e => by subst e; rw [s1 _ _ hp] at nt; cases nt
   refine ⟨_, rfl, p, Z.W, dx, [], rfl, s2 _ _ hp, C.cl, C.state, (by show 0 < 1000; decide), ?_⟩
   refine k _ (fun c o e hc => by rw [aI hc]; exact s2 _ _ e) ⟨dx, t, aD, ?_⟩
   rw [aI tp, aD]
def lV (Z : Gz) (CH : Addr) (n : Nat) : Sp := fun vs H Q _ => ∃ p h l sz tap st g, vs = [.ref p, .ref h, .ref l] ∧ g.num = n ∧ gJ Z H p g ∧ House CH H h sz tap ∧ H l = some (.lst (st.map V.int)) ∧ J.IsSt sz st ∧ g.ok sz ∧
 ∀ H', Same H H' → Q (.bl (g.met st)) H'
theorem wL (F : Fun K "met_by" "Holds.met_by" dH f fd) (C : CHo K Z.H) (N : FnB P w K mg base 2 "check_house_has_goals" ["house", "jug"] (bQ CH)) :
   FnOk P w K mg base CX0 3 f fd ["self", "house", "held"] (lV Z CH 0) := by
 refine F.ok lO (fun vs H Q E h => ?_) (fun cdv A outer s H vs Q E hr h => ?_)
 · obtain ⟨p, h, l, sz, tap, st, g, rfl, _⟩ := h
   rfl
 · obtain ⟨p, h, l, sz, tap, st, g, rfl, hn, hg, hh, hl, hst, hok, k⟩ := h
   cases g with
   | holds j m =>
     obtain ⟨dx, hp⟩ := hg
     have hj : j < sz.length := hok
     have hj' : j < st.length := by rw [hst.len]; exact hj
     refine ⟨_, aC (aW (aU N hr (aA (pv 1) (aA (bR (pv 0) rfl) aB)))) (aH (aP (gO cT (fO dA (pv 2) (bR (pv 0) rfl) (fun _ _ => rfl)) (bR (pv 0) rfl) (nomark _)))), ?_⟩
     refine ⟨_, rfl, _, rfl, p, Z.H, dx, _, _, rfl, hp, C.cl, C.jug, wY _ _, h, sz, tap, j, rfl, hh, hj, fun H1 s1 => ?_⟩
     refine ⟨_, rfl, _, rfl, p, Z.H, dx, _, _, rfl, s1 _ _ hp, C.cl, C.jug, wY _ _, l, _, _, _, rfl, rfl, SqL.of (s1 _ _ hl), eZ (jK hj'), ?_⟩
     refine ⟨_, rfl, p, Z.H, dx, _, _, rfl, s1 _ _ hp, C.cl, C.many, aP0 _ _, rfl, ?_⟩
     rw [aQ5]
     exact k _ s1
   | som m => cases hn
   | sum js m => cases hn
   | whole t => cases hn
theorem yH (F : Fun K "met_by" "Some.met_by" eW f fd) (C : CSo K Z.S) :
   FnOk P w K mg base CX0 3 f fd ["self", "house", "held"] (lV Z CH 1) := by
 refine F.ok rM (fun vs H Q E h => ?_) (fun cdv A outer s H vs Q E hr h => ?_)
 · obtain ⟨p, h, l, sz, tap, st, g, rfl, _⟩ := h
   rfl
 · obtain ⟨p, h, l, sz, tap, st, g, rfl, hn, hg, hh, hl, hst, hok, k⟩ := h
   cases g with
   | som m =>
     obtain ⟨dx, hp⟩ := hg
     refine ⟨_, aH (aP (gO aF6 (bR (pv 0) rfl) (pv 2) (by rfl))), ?_⟩
     refine ⟨_, rfl, p, Z.S, dx, _, _, rfl, hp, C.cl, C.many, aJ7 _, _, rfl, l, _, rfl, .inl (SqL.of hl), rfl, aH8 _, ?_⟩
     show Q (.bl (inV (.int m) (st.map V.int))) H
     rw [aO7]
     exact k _ (Same.refl _)
   | holds j m => cases hn
   | sum js m => cases hn
   | whole t => cases hn
theorem wH (F : Fun K "met_by" "Whole.met_by" dG f fd) (B : Bt mg) (C : CWh K Z.W) (N : FnB P w K mg base 3 "check_state_of" ["house", "state"] (kC CH)) :
   FnOk P w K mg base CX0 4 f fd ["self", "house", "held"] (lV Z CH 3) := by
 refine F.ok lN (fun vs H Q E h => ?_) (fun cdv A outer s H vs Q E hr h => ?_)
 · obtain ⟨p, h, l, sz, tap, st, g, rfl, _⟩ := h
   rfl
 · obtain ⟨p, h, l, sz, tap, st, g, rfl, hn, hg, hh, hl, hst, hok, k⟩ := h
   cases g with
   | whole t =>
     obtain ⟨dx, a, hp, ha⟩ := hg
     refine ⟨_, aC (aW (aU N hr (aA (pv 1) (aA (bR (pv 0) rfl) aB)))) (aH (aP (gO (aL9 hr.u20) (aR aY (by rfl) B.tuple bP (aA (pv 2) aB)) (bR (pv 0) rfl) (nomark _)))), ?_⟩
     refine ⟨_, rfl, _, rfl, p, Z.W, dx, _, _, rfl, hp, C.cl, C.state, oZ _, h, sz, tap, a, t, rfl, hh, ha, hok, fun H1 s1 => ?_⟩
     refine ⟨_, rfl, l, _, rfl, .inl ⟨SqL.of (s1 _ _ hl), fun u nu => ?_⟩⟩
     have s2 := s1.lay (o := .tup (st.map V.int)) nu
     refine ⟨_, rfl, p, Z.W, dx, _, _, rfl, s2 _ _ hp, C.cl, C.state, oZ _, _, rcT aD (s2 _ _ ha), ?_⟩
     exact k _ s2
   | holds j m => cases hn
   | sum js m => cases hn
   | som m => cases hn
theorem bA1 : bootBuiltins "sum" = some (.builtin "sum") := by decide +kernel
theorem zW (F : Fun K "met_by" "Sum.met_by" eK f fd) (C : CSu K Z.U) (hsm : mg "sum" = none) (N : FnB P w K mg base 2 "check_house_has_goals" ["house", "jug"] (bQ CH)) :
   FnOk P w K mg base CX0 3 f fd ["self", "house", "held"] (lV Z CH 2) := by
 refine F.ok gI (fun vs H Q E h => ?_) (fun cdv A outer s H vs Q E hr h => ?_)
 · obtain ⟨p, h, l, sz, tap, st, g, rfl, _⟩ := h
   rfl
 · obtain ⟨p, h, l, sz, tap, st, g, rfl, hn, hg, hh, hl, hst, hok, k⟩ := h
   cases g with
   | sum js m =>
     obtain ⟨dx, a, hp, ha⟩ := hg
     obtain ⟨h4, hb⟩ := hok
     have nd := gI.nd
     refine ⟨_, aC (cN PassesOwn.never rfl (vY (bR (pv 0) rfl)) (bT (i := 3) nd rfl (Or.inl rfl)) (aH (aW (aU N hr (aA (pv 1) (aA (pv 3) aB))))))
       (aH (aP (gO cT (aQ (aQ7 rfl) (by rfl) hsm bA1 (aA (aC0 gI [2] (vY (bR (pv 0) rfl)) (fun _ _ _ _ _ _ => ⟨qS, fO (aO6 K) (pv 1) (pv 0) (fun _ _ => rfl)⟩)) aB)) (bR (pv 0) rfl) (nomark _)))), ?_⟩
     refine ⟨_, rfl, p, Z.U, dx, _, _, rfl, hp, C.cl, C.jugs, rD _ _, a, rfl, ⟨_, SqT.of ha⟩, xA (K := K) (a := a) (xs := js.map V.int) (fun i σ H' => ∃ v, σ = [some (.ref p), some (.ref h), some (.ref l), v] ∧ Same H H')
       ⟨none, rfl, Same.refl _⟩ (fun i σ H' _ ⟨_, _, s1⟩ => SqT.of (s1 _ _ ha)) ?_ ?_⟩
     · rintro i x σ H' hx ⟨v, rfl, s1⟩
       obtain ⟨z, ez, rfl⟩ := fQ hx
       obtain ⟨z0, z1⟩ := hb z (List.mem_of_getElem? ez)
       obtain ⟨j, rfl⟩ : ∃ j : Nat, z = (j : Int) := ⟨z.toNat, (Int.toNat_of_nonneg z0).symm⟩
       exact ⟨_, rfl, _, rfl, h, sz, tap, j, rfl, hh.mono s1, by omega, fun H2 s2 => ⟨_, rfl, s1.trans s2⟩⟩
     · rintro σ H' ⟨v, rfl, s1⟩
       refine ⟨_, rfl, p, Z.U, dx, _, _, rfl, s1 _ _ hp, C.cl, C.jugs, rD _ _, a, rfl, ⟨_, SqT.of (s1 _ _ ha)⟩, aY3 (xs := js.map V.int) (fun i ys H'' => ys = ((js.take i).map fun j => J.at0 st j.toNat).map V.int ∧ H'' = H') ⟨rfl, rfl⟩ (by rw [List.length_map]; exact gZ (by omega)) (fun i ys H' ⟨e, _⟩ => by rw [e]; simp; omega)
         (fun i ys H'' _ ⟨_, e⟩ => by subst e; exact SqT.of (s1 _ _ ha)) (fun i x ys H'' hx ⟨e1, e2⟩ => ?_) (fun ys H'' ⟨e1, e2⟩ => ?_)⟩
       · obtain ⟨z, ez, rfl⟩ := fQ hx
         obtain ⟨z0, z1⟩ := hb z (List.mem_of_getElem? ez)
         obtain ⟨j, rfl⟩ : ∃ j : Nat, z = (j : Int) := ⟨z.toNat, (Int.toNat_of_nonneg z0).symm⟩
         have hj' : j < st.length := by rw [hst.len]; omega
         subst e1 e2
         refine vR ⟨_, rfl, _, rfl, l, _, _, .int (J.at0 st j), rfl, rfl, SqL.of (s1 _ _ hl), eZ (jK hj'), ?_, rfl⟩
         rw [List.take_add_one, ez, List.map_append, List.map_append]
         rfl
       · subst e1 e2
         intro D nD
         have s2 := s1.lay (o := .lst (((js.take (js.map V.int).length).map fun j => J.at0 st j.toNat).map V.int)) nD
         refine ⟨D, _, rfl, SqL.of aD, ?_⟩
         refine ⟨_, rfl, p, Z.U, dx, _, _, rfl, s2 _ _ hp, C.cl, C.many, aJ3 _ _, rfl, ?_⟩
         rw [aQ5, List.length_map, List.take_length]
         exact k _ (by rw [List.length_map, List.take_length] at s2; exact s2)
   | holds j m => cases hn
   | whole t => cases hn
   | som m => cases hn
def aB4 (Z : Gz) (CH : Addr) : Sp := fun vs H Q _ => ∃ p h a sz tap st g, vs = [.ref p, .ref h, .ref a] ∧ gJ Z H p g ∧ House CH H h sz tap ∧ H a = some (.tup (st.map V.int)) ∧ J.IsSt sz st ∧ g.ok sz ∧
 ∀ H', Same H H' → Q (.bl (g.met st)) H'
theorem aT2 (F : Fun K "come" "Goal.come" fJ f fd) (HI : FnB P w K mg base 2 "held_in" ["house", "state"] (dO CH)) (M0 : MeB P w K mg base 4 Z.H "met_by" ["self", "house", "held"] (lV Z CH 0))
   (M1 : MeB P w K mg base 4 Z.S "met_by" ["self", "house", "held"] (lV Z CH 1)) (M2 : MeB P w K mg base 4 Z.U "met_by" ["self", "house", "held"] (lV Z CH 2)) (M3 : MeB P w K mg base 4 Z.W "met_by" ["self", "house", "held"] (lV Z CH 3)) :
   FnOk P w K mg base CX0 5 f fd ["self", "house", "state"] (aB4 Z CH) := by
 refine F.ok jH (fun vs H Q E h => ?_) (fun cdv A outer s H vs Q E hr h => ?_)
 · obtain ⟨p, h, l, sz, tap, st, g, rfl, _⟩ := h
   rfl
 · obtain ⟨p, h, a, sz, tap, st, g, rfl, hg, hh, ha, hst, hok, k⟩ := h
   have nd := jH.nd
   have hr2 : Room 2 _ := hr.mono (by decide)
   cases g with
   | holds j m =>
     refine ⟨_, aC (aM (i := 3) nd rfl (Or.inl rfl) (aU HI hr2 (aA (pv 1) (aA (pv 2) aB)))) (aH (aP (nE M0 (pv 0) hr (aA (pv 1) (aA (pv 3) aB))))), ?_⟩
     refine ⟨_, rfl, _, rfl, h, sz, tap, a, st, rfl, hh, ha, hst, fun l H1 s1 _ hl => ?_⟩
     obtain ⟨dx, hp⟩ := hg.mono s1
     exact ⟨_, rfl, p, dx, _, rfl, hp, sS _ _ (by decide +kernel) (by decide +kernel), _, rfl, _, rfl, p, h, l, sz, tap, st, .holds j m, rfl, rfl, ⟨dx, hp⟩, hh.mono s1, hl, hst, hok, fun H2 s2 => k _ (s1.trans s2)⟩
   | som m =>
     refine ⟨_, aC (aM (i := 3) nd rfl (Or.inl rfl) (aU HI hr2 (aA (pv 1) (aA (pv 2) aB)))) (aH (aP (nE M1 (pv 0) hr (aA (pv 1) (aA (pv 3) aB))))), ?_⟩
     refine ⟨_, rfl, _, rfl, h, sz, tap, a, st, rfl, hh, ha, hst, fun l H1 s1 _ hl => ?_⟩
     obtain ⟨dx, hp⟩ := hg.mono s1
     exact ⟨_, rfl, p, dx, _, rfl, hp, zG _ (by decide +kernel), _, rfl, _, rfl, p, h, l, sz, tap, st, .som m, rfl, rfl, ⟨dx, hp⟩, hh.mono s1, hl, hst, hok, fun H2 s2 => k _ (s1.trans s2)⟩
   | sum js m =>
     refine ⟨_, aC (aM (i := 3) nd rfl (Or.inl rfl) (aU HI hr2 (aA (pv 1) (aA (pv 2) aB)))) (aH (aP (nE M2 (pv 0) hr (aA (pv 1) (aA (pv 3) aB))))), ?_⟩
     refine ⟨_, rfl, _, rfl, h, sz, tap, a, st, rfl, hh, ha, hst, fun l H1 s1 _ hl => ?_⟩
     obtain ⟨dx, t, hp, ht⟩ := hg.mono s1
     exact ⟨_, rfl, p, dx, _, rfl, hp, zE _ _ (by decide +kernel) (by decide +kernel), _, rfl, _, rfl, p, h, l, sz, tap, st, .sum js m, rfl, rfl, ⟨dx, t, hp, ht⟩, hh.mono s1, hl, hst, hok, fun H2 s2 => k _ (s1.trans s2)⟩
   | whole t =>
     refine ⟨_, aC (aM (i := 3) nd rfl (Or.inl rfl) (aU HI hr2 (aA (pv 1) (aA (pv 2) aB)))) (aH (aP (nE M3 (pv 0) hr (aA (pv 1) (aA (pv 3) aB))))), ?_⟩
     refine ⟨_, rfl, _, rfl, h, sz, tap, a, st, rfl, hh, ha, hst, fun l H1 s1 _ hl => ?_⟩
     obtain ⟨dx, b, hp, hb⟩ := hg.mono s1
     exact ⟨_, rfl, p, dx, _, rfl, hp, vQ _ (by decide +kernel), _, rfl, _, rfl, p, h, l, sz, tap, st, .whole t, rfl, rfl, ⟨dx, b, hp, hb⟩, hh.mono s1, hl, hst, hok, fun H2 s2 => k _ (s1.trans s2)⟩
end
end Jug
namespace Jug
open PySem L2
def Gz.cl (Z : Gz) : Go → Addr
 | .holds _ _ => Z.H
 | .som _ => Z.S
 | .sum _ _ => Z.U
 | .whole _ => Z.W
structure GoC (K : W.Frag) (mg : Str → Option Value) (Z : Gz) (CG : Addr) : Prop where
 ho : CHo K Z.H
 so : CSo K Z.S
 su : CSu K Z.U
 wh : CWh K Z.W
 tH : CTy K Z.H
 tS : CTy K Z.S
 tU : CTy K Z.U
 tW : CTy K Z.W
 gG : mg "Goal" = some (.ref CG)
 gH : mg "Holds" = some (.ref Z.H)
 gS : mg "Some" = some (.ref Z.S)
 gU : mg "Sum" = some (.ref Z.U)
 gW : mg "Whole" = some (.ref Z.W)
 kHS : W.kitOne K (.ref Z.H) (.ref Z.S) = some false
 kHU : W.kitOne K (.ref Z.H) (.ref Z.U) = some false
 kHW : W.kitOne K (.ref Z.H) (.ref Z.W) = some false
 kSH : W.kitOne K (.ref Z.S) (.ref Z.H) = some false
 kSU : W.kitOne K (.ref Z.S) (.ref Z.U) = some false
 kSW : W.kitOne K (.ref Z.S) (.ref Z.W) = some false
 kUH : W.kitOne K (.ref Z.U) (.ref Z.H) = some false
 kUS : W.kitOne K (.ref Z.U) (.ref Z.S) = some false
 kUW : W.kitOne K (.ref Z.U) (.ref Z.W) = some false
 kWH : W.kitOne K (.ref Z.W) (.ref Z.H) = some false
 kWS : W.kitOne K (.ref Z.W) (.ref Z.S) = some false
 kWU : W.kitOne K (.ref Z.W) (.ref Z.U) = some false
 kHG : W.kitOne K (.ref Z.H) (.ref CG) = some true
 kSG : W.kitOne K (.ref Z.S) (.ref CG) = some true
 kUG : W.kitOne K (.ref Z.U) (.ref CG) = some true
 kWG : W.kitOne K (.ref Z.W) (.ref CG) = some true
theorem GoC.ty {K : W.Frag} {mg : Str → Option Value} {Z : Gz} {CG : Addr} (M : GoC K mg Z CG) {H : Hp} {p : Addr} {g : Go} (h : gJ Z H p g) : TyOf K H (.ref p) (.ref (Z.cl g)) := by
 cases g with
 | holds a b => obtain ⟨dx, h⟩ := h; exact .ins h M.ho.cl M.tH.ha M.tH.hn M.tH.htk M.tH.hm
 | som a => obtain ⟨dx, h⟩ := h; exact .ins h M.so.cl M.tS.ha M.tS.hn M.tS.htk M.tS.hm
 | sum a b => obtain ⟨dx, t, h, _⟩ := h; exact .ins h M.su.cl M.tU.ha M.tU.hn M.tU.htk M.tU.hm
 | whole a => obtain ⟨dx, t, h, _⟩ := h; exact .ins h M.wh.cl M.tW.ha M.tW.hn M.tW.htk M.tW.hm
theorem gJ.no {Z : Gz} {H : Hp} {p : Addr} {g : Go} (h : gJ Z H p g) : ∃ dx fs, H p = some (.ins (Z.cl g) dx fs) ∧ fs.lookup ("come" : Str) = none := by
 cases g with
 | holds a b => obtain ⟨dx, h⟩ := h; exact ⟨dx, _, h, sS _ _ (by decide +kernel) (by decide +kernel)⟩
 | som a => obtain ⟨dx, h⟩ := h; exact ⟨dx, _, h, zG _ (by decide +kernel)⟩
 | sum a b => obtain ⟨dx, t, h, _⟩ := h; exact ⟨dx, _, h, zE _ _ (by decide +kernel) (by decide +kernel)⟩
 | whole a => obtain ⟨dx, t, h, _⟩ := h; exact ⟨dx, _, h, vQ _ (by decide +kernel)⟩
def nF (Z : Gz) : Addr → Prop := fun C => C = Z.H ∨ C = Z.S ∨ C = Z.U ∨ C = Z.W
theorem nF.of (Z : Gz) (g : Go) : nF Z (Z.cl g) := by
 cases g with
 | holds _ _ => exact .inl rfl
 | som _ => exact .inr (.inl rfl)
 | sum _ _ => exact .inr (.inr (.inl rfl))
 | whole _ => exact .inr (.inr (.inr rfl))
theorem GoC.any {K : W.Frag} {mg : Str → Option Value} {Z : Gz} {CG : Addr} (M : GoC K mg Z CG) (g : Go) : W.kitAny K (.ref (Z.cl g)) [.ref Z.H, .ref Z.S, .ref Z.U, .ref Z.W] = some true := by
 cases g with
 | holds _ _ => simp only [W.kitAny, Gz.cl, fR]
 | som _ => simp only [W.kitAny, Gz.cl, M.kSH, fR]
 | sum _ _ => simp only [W.kitAny, Gz.cl, M.kUH, M.kUS, fR]
 | whole _ => simp only [W.kitAny, Gz.cl, M.kWH, M.kWS, M.kWU, fR]
def kW (d : Addr) (H H' : Hp) : Prop := ∀ b c, H b = some c → b ≠ d → H' b = some c
theorem aN2 {H : Hp} {b d : Addr} {c : HO} {kvs : List (List Key × V)} (e : H b = some c) (hd : H d = some (.dT kvs)) (f : fx c = true) : b ≠ d := by
 rintro rfl
 rw [hd] at e
 cases e
 cases f
section
variable {P : Program} {w : World} {K : W.Frag} {mg : Str → Option Value} {base : Heap} {CH CG : Addr} {Z : Cz} {G : Gz}
def mO (G : Gz) : Sp := fun vs H Q _ => ∃ p g, vs = [.ref p] ∧ gJ G H p g ∧ ∀ H', Same H H' → Q .non H'
theorem tV (F : Fun K "check_goal" "check_goal" eG f fd) (B : Bt mg) (M : GoC K mg G CG) : FnOk P w K mg base CX0 1 f fd ["goal"] (mO G) := by
 refine F.ok mR (fun vs H Q E h => ?_) (fun cdv A outer s H vs Q E hr h => ?_)
 · obtain ⟨p, g, rfl, _⟩ := h
   rfl
 · obtain ⟨p, g, rfl, hg, k⟩ := h
   refine ⟨_, aH (aT (bJ (bK (aQ jL (by rfl) B.isinstance aS (aA (pv 0) (aA (bD (aA (bB (v := .ref G.H) (by rfl) M.gH rfl) (aA (bB (v := .ref G.S) (by rfl) M.gS rfl) (aA (bB (v := .ref G.U) (by rfl) M.gU rfl)
     (aA (bB (v := .ref G.W) (by rfl) M.gW rfl) aB))))) aB))))) aG aL), ?_⟩
   refine ⟨_, rfl, (by exact sz4), fun tp nt => ?_⟩
   exact ⟨_, tp, _, _, _, _, rfl, aD, .cons (.ref _) (.cons (.ref _) (.cons (.ref _) (.cons (.ref _) .nil))), M.ty (hg.mono (Same.new nt)), M.any g, _, rfl, cB (k _ (Same.new nt))⟩
end
end Jug
namespace Jug
open PySem L2
theorem vK : bootBuiltins "sorted" = some (.builtin "sorted") := by decide +kernel
theorem aR2 {sz st : List Int} {tap : Bool} (hz : Hz sz) (hst : J.IsSt sz st) : (J.ways sz (J.moves sz.length tap) st).length ≤ 2000 := by
 have h1 := J.vW (J.nX (tap := tap) hz.nn) hst (J.states sz).length
 have h2 := hz.states_le
 exact Nat.le_trans h1 (by omega)
def wst (sz : List Int) (tap : Bool) (st : List Int) : List (List Int) := (J.ways sz (J.moves sz.length tap) st).map (·.1)
section
variable {X : Cx}
theorem aX9 : OpR X (compareOp .Is) (fun x y H Q => ∃ b c, x = .bl b ∧ y = .bl c ∧ Q (.bl (b == c)) H) := by
 intro pins s σ H x y v u Q I rx ry h
 obtain ⟨b, c, rfl, rfl, q⟩ := h
 cases rx
 cases ry
 exact PyProof.Rows.is_bool (cC I q rfl)
end
section
variable {P : Program} {w : World} {K : W.Frag} {mg : Str → Option Value} {base : Heap} {CH : Addr} {Z : Cz}
def rE (CH : Addr) : Sp := fun vs H Q _ => ∃ p a sz tap st, vs = [.ref p, .ref a] ∧ House CH H p sz tap ∧ Hz sz ∧ H a = some (.tup (st.map V.int)) ∧ J.IsSt sz st ∧ (wst sz tap st).length < 2 ∧
 ∀ (l : Addr) (H' : Hp) (ys : List V), Same H H' → H l = none → H' l = some (.lst ys) → Paired (lH H') ys (wst sz tap st) → Q (.ref l) H'
theorem zO (F : Fun K "reached" "reached" iL f fd) (hs : mg "sorted" = none) (WY : FnB P w K mg base 8 "ways_from" ["house", "state"] (vS Z CH)) : FnOk P w K mg base CX0 9 f fd ["house", "state"] (rE CH) := by
 refine F.ok rK (fun vs H Q E h => ?_) (fun cdv A outer s H vs Q E hr h => ?_)
 · obtain ⟨p, a, sz, tap, st, rfl, _⟩ := h
   rfl
 · obtain ⟨p, a, sz, tap, st, rfl, hh, hz, ha, hst, h1, k⟩ := h
   refine ⟨_, aH (aP (aQ (qH rfl) (by rfl) hs vK (aA (aU WY hr (aA (pv 0) (aA (pv 1) aB))) aB))), ?_⟩
   refine ⟨_, rfl, _, rfl, p, a, sz, tap, st, rfl, hh, hz, ha, hst, fun d H2 kvs s2 nd e2 wd => ?_⟩
   have lk := wd.length
   have lw := aR2 (tap := tap) hz hst
   refine .mk d kvs (wst sz tap st) rfl (.inl e2) (by rw [wd.keys]; unfold wst; rw [List.map_map]; rfl) (by unfold wst at h1; rw [List.length_map] at h1; omega) fun l ys nl py => ?_
   have s3 : Same H2 (upd H2 l (.lst ys)) := Same.new nl
   exact k l _ ys (s2.trans s3) (s2.free nl) aD (rS py (Fix.of s3))
end
end Jug
namespace Jug
open PySem L2
def cY : V → Int → Int → Bool
 | .int i, lo, hi => decide (lo ≤ i) && decide (i ≤ hi)
 | _, _, _ => false
inductive Kd (H : Hp) : V → String → Prop where
 | non : Kd H .non "NoneType"
 | bl (b : Bool) : Kd H (.bl b) "bool"
 | int (i : Int) : Kd H (.int i) "int"
 | str (x : Str) : Kd H (.str x) "str"
 | lst {a : Addr} {xs : List V} (e : H a = some (.lst xs)) : Kd H (.ref a) "list"
 | tup {a : Addr} {xs : List V} (e : H a = some (.tup xs)) : Kd H (.ref a) "tuple"
theorem Kd.ty {K : W.Frag} {H : Hp} {v : V} {t : String} (k : Kd H v t) : TyOf K H v (.type t) := by
 cases k with
 | non => exact .non
 | bl b => exact .bl b
 | int i => exact .int i
 | str x => exact .str x
 | lst e => exact .lst e
 | tup e => exact .tup e
theorem Kd.mono {H H' : Hp} {v : V} {t : String} (k : Kd H v t) (s : Same H H') : Kd H' v t := by
 cases k with
 | non => exact .non
 | bl b => exact .bl b
 | int i => exact .int i
 | str x => exact .str x
 | lst e => exact .lst (s _ _ e)
 | tup e => exact .tup (s _ _ e)
def Im (v : V) : Prop := ∃ t, t ≠ "list" ∧ t ≠ "tuple" ∧ ∀ H, Kd H v t
theorem Im.int (i : Int) : Im (.int i) := ⟨"int", by decide, by decide, fun _ => .int i⟩
theorem Im.bl (i : Bool) : Im (.bl i) := ⟨"bool", by decide, by decide, fun _ => .bl i⟩
theorem Im.str (i : Str) : Im (.str i) := ⟨"str", by decide, by decide, fun _ => .str i⟩
theorem Im.non : Im .non := ⟨"NoneType", by decide, by decide, fun _ => .non⟩
section
variable {K : W.Frag}
theorem aY7 : W.kitOne K (.type "NoneType") (.type "int") = some false := by
 unfold W.kitOne
 rw [if_neg (by decide)]
 with_unfolding_all rfl
theorem aY6 : W.kitOne K (.type "str") (.type "int") = some false := by
 unfold W.kitOne
 rw [if_neg (by decide)]
 with_unfolding_all rfl
theorem aY8 : W.kitOne K (.type "list") (.type "int") = some false := by
 unfold W.kitOne
 rw [if_neg (by decide)]
 with_unfolding_all rfl
theorem aY5 : W.kitOne K (.type "tuple") (.type "int") = some false := by
 unfold W.kitOne
 rw [if_neg (by decide)]
 with_unfolding_all rfl
theorem aY9 : W.kitOne K (.type "bool") (.type "int") = some true := by
 unfold W.kitOne
 rw [if_neg (by decide)]
 with_unfolding_all rfl
theorem yU {H : Hp} {v : V} {t b : String} (k : Kd H v t) (hb : b = "tuple" ∨ b = "list") (h : t ≠ b) : W.kitOne K (.type t) (.type b) = some false := by
 rcases hb with rfl | rfl <;> cases k <;> first | exact absurd rfl h | (unfold W.kitOne; rw [if_neg (by decide)]; with_unfolding_all rfl)
theorem aY4 {H : Hp} {v : V} {t : String} (k : Kd H v t) (h : t ≠ "bool") : W.kitOne K (.type t) (.type "bool") = some false := by
 cases k <;> first | exact absurd rfl h | (unfold W.kitOne; rw [if_neg (by decide)]; with_unfolding_all rfl)
end
section
variable {P : Program} {w : World} {K : W.Frag} {mg : Str → Option Value} {base : Heap}
def iK : Sp := fun vs H Q _ => ∃ v t, ∃ lo hi : Int, vs = [v, .int lo, .int hi] ∧ Kd H v t ∧ Q (.bl (cY v lo hi)) H
theorem zR (F : Fun K "is_number" "is_number" fC f fd) (B : Bt mg) : FnOk P w K mg base CX0 1 f fd ["value", "least", "most"] iK := by
 refine F.ok oG (fun vs H Q E h => ?_) (fun cdv A outer s H vs Q E hr h => ?_)
 · obtain ⟨v, t, lo, hi, rfl, _⟩ := h
   rfl
 · obtain ⟨v, t, lo, hi, rfl, kd, k⟩ := h
   refine ⟨_, aH (aP (pP (aQ bV (by rfl) B.isinstance aS (aA (pv 0) (aA (dL (v := .ty "int") (by rfl) B.int aQ8 rfl) aB)))
     (pP (aL4 (aQ bV (by rfl) B.isinstance aS (aA (pv 0) (aA (dL (v := .ty "bool") (by rfl) B.bool qX rfl) aB))))
     (vZ (xX lP lP (pv 1) (pv 0) (pv 2)))))), ?_⟩
   have kt := kd.ty (K := K)
   cases kd with
   | non => exact ⟨_, rfl, _, _, _, _, _, rfl, .ty "int", kt, aY7, _, rfl, cB k⟩
   | str x => exact ⟨_, rfl, _, _, _, _, _, rfl, .ty "int", kt, aY6, _, rfl, cB k⟩
   | lst e => exact ⟨_, rfl, _, _, _, _, _, rfl, .ty "int", kt, aY8, _, rfl, cB k⟩
   | tup e => exact ⟨_, rfl, _, _, _, _, _, rfl, .ty "int", kt, aY5, _, rfl, cB k⟩
   | bl b =>
     refine ⟨_, rfl, _, _, _, _, _, rfl, .ty "int", kt, aY9, _, rfl, dR ?_⟩
     exact ⟨_, rfl, _, _, _, _, _, rfl, .ty "bool", kt, aO4, _, rfl, _, rfl, cB k⟩
   | int i =>
     refine ⟨_, rfl, _, _, _, _, _, rfl, .ty "int", kt, aO2, _, rfl, dR ?_⟩
     refine ⟨_, rfl, _, _, _, _, _, rfl, .ty "bool", kt, aO3, _, rfl, _, rfl, dR ?_⟩
     refine ⟨_, rfl, _, rfl, _, _, rfl, rfl, _, rfl, ?_⟩
     have k : Q (.bl (decide (lo ≤ i) && decide (i ≤ hi))) H := k
     by_cases h1 : lo ≤ i
     · rw [decide_eq_true h1]
       refine dR ⟨_, rfl, _, _, rfl, rfl, ?_⟩
       rw [decide_eq_true h1, Bool.true_and] at k
       exact k
     · rw [decide_eq_false h1]
       refine cB ?_
       rw [decide_eq_false h1, Bool.false_and] at k
       exact k
def nK : Sp := fun vs H Q _ => ∃ v t, vs = [v] ∧ Kd H v t ∧ Q (.bl (cY v 0 3)) H
theorem zS (F : Fun K "is_jug" "is_jug" jV f fd) (B : Bt mg) (N : FnB P w K mg base 1 "is_number" ["value", "least", "most"] iK) : FnOk P w K mg base CX0 2 f fd ["value"] nK := by
 obtain ⟨t4, e4⟩ := B.jugs
 refine F.ok uV (fun vs H Q E h => ?_) (fun cdv A outer s H vs Q E hr h => ?_)
 · obtain ⟨v, t, rfl, _⟩ := h
   rfl
 · obtain ⟨v, t, rfl, kd, k⟩ := h
   refine ⟨_, aH (aP (aU N hr (aA (pv 0) (aA aE (aA (eD kK (bB (v := .int 4) (by rfl) e4 ⟨_, rfl⟩) aE) aB))))), ?_⟩
   exact ⟨_, rfl, _, _, rfl, rfl, v, t, 0, 3, rfl, kd, k⟩
theorem FnOk.or {CX : CXT} {k : Nat} {f : Addr} {fd : FuncData} {ps : List Str} {s1 s2 : Sp} (F1 : FnOk P w K mg base CX k f fd ps s1) (F2 : FnOk P w K mg base CX k f fd ps s2) : FnOk P w K mg base CX k f fd ps (fun vs H Q E => s1 vs H Q E ∨ s2 vs H Q E) :=
 ⟨fun vs H Q E h => h.elim (F1.len vs H Q E) (F2.len vs H Q E), fun A outer s H args us vs Q E hr e hb hv h => h.elim (F1.run A outer s H args us vs Q E hr e hb hv) (F2.run A outer s H args us vs Q E hr e hb hv)⟩
def dS (C : Addr) (lo hi : Int) : Sp := fun vs H _ E => ∃ v t, vs = [v] ∧ Kd H v t ∧ cY v lo hi = false ∧ E (.ref C) none H
theorem tT {f : Addr} {fd : FuncData} {CB : Addr} (F : Fun K "check_jug" "check_jug" fD f fd) (X : XC K mg "BadMove" CB) (N : FnB P w K mg base 2 "is_jug" ["value"] nK) : FnOk P w K mg base (CX1 P w) 3 f fd ["jug"] (dS CB 0 3) := by
 refine F.okX oH (fun vs H Q E h => ?_) (fun cdv A outer s H vs Q E hr h => ?_)
 · obtain ⟨v, t, rfl, _⟩ := h
   rfl
 · obtain ⟨v, t, rfl, kd, hn, k⟩ := h
   refine ⟨_, aH (aT (bJ (bK (aU N hr (aA (pv 0) aB)))) (aH (bX bdX xeX rfl X)) aL), ?_⟩
   refine ⟨_, rfl, v, t, rfl, kd, _, rfl, ?_⟩
   rw [hn]
   exact dR k
theorem qK {f : Addr} {fd : FuncData} {CB : Addr} (F : Fun K "check_jug" "check_jug" eF f fd) (X : XC K mg "BadGoal" CB) (N : FnB P w K mg base 2 "is_jug" ["value"] nK) : FnOk P w K mg base (CX1 P w) 3 f fd ["jug"] (dS CB 0 3) := by
 refine F.okX mQ (fun vs H Q E h => ?_) (fun cdv A outer s H vs Q E hr h => ?_)
 · obtain ⟨v, t, rfl, _⟩ := h
   rfl
 · obtain ⟨v, t, rfl, kd, hn, k⟩ := h
   refine ⟨_, aH (aT (bJ (bK (aU N hr (aA (pv 0) aB)))) (aH (bX bdX xeX rfl X)) aL), ?_⟩
   refine ⟨_, rfl, v, t, rfl, kd, _, rfl, ?_⟩
   rw [hn]
   exact dR k
theorem pT {f : Addr} {fd : FuncData} {CB : Addr} (F : Fun K "check_amount" "check_amount" dF f fd) (hA : ∃ t, mg "MOST_AMOUNT" = some (.int 240 t)) (X : XC K mg "BadGoal" CB) (N : FnB P w K mg base 1 "is_number" ["value", "least", "most"] iK) : FnOk P w K mg base (CX1 P w) 2 f fd ["many"] (dS CB 0 240) := by
 obtain ⟨ta, eA⟩ := hA
 refine F.okX lM (fun vs H Q E h => ?_) (fun cdv A outer s H vs Q E hr h => ?_)
 · obtain ⟨v, t, rfl, _⟩ := h
   rfl
 · obtain ⟨v, t, rfl, kd, hn, k⟩ := h
   refine ⟨_, aH (aT (bJ (bK (aU N hr (aA (pv 0) (aA aE (aA (bB (v := .int 240) (by rfl) eA ⟨_, rfl⟩) aB)))))) (aH (bX bdX xeX rfl X)) aL), ?_⟩
   refine ⟨_, rfl, v, t, 0, 240, rfl, kd, _, rfl, ?_⟩
   rw [hn]
   exact dR k
end
end Jug
namespace Jug
open PySem L2
theorem aV2 {c A B : Prop} [Decidable c] (hc : ¬ c) (h : A) : if (!decide c) = true then A else B := by
 rw [decide_eq_false hc]; exact dR h
def uH : List V → List Int → Bool
 | [], [] => true
 | x :: xs, z :: zs => cY x 0 z && uH xs zs
 | _, _ => false
theorem aC6 : ∀ (xs : List V) (sz : List Int), xs.length = sz.length → (∀ (i : Nat) x z, xs[i]? = some x → sz[i]? = some z → cY x 0 z = true) → uH xs sz = true
 | [], [], _, _ => rfl
 | [], _ :: _, h, _ => by cases h
 | _ :: _, [], h, _ => by cases h
 | x :: xs, z :: zs, h, k => by
   show (cY x 0 z && uH xs zs) = true
   rw [k 0 x z rfl rfl, aC6 xs zs (by simpa using h) fun i a b e1 e2 => k (i + 1) a b e1 e2]; rfl
def jZ (H : Hp) (sz : List Int) (v : V) : Prop := (∃ t, Kd H v t ∧ t ≠ "tuple") ∨ ∃ a xs, v = .ref a ∧ H a = some (.tup xs) ∧ (∀ x ∈ xs, Im x) ∧ uH xs sz = false
theorem jZ.mono {H H' : Hp} {sz : List Int} {v : V} (h : jZ H sz v) (s : Same H H') : jZ H' sz v := by
 rcases h with ⟨t, k, n⟩ | ⟨a, xs, e, ha, r⟩
 · exact .inl ⟨t, k.mono s, n⟩
 · exact .inr ⟨a, xs, e, s _ _ ha, r⟩
section
variable {P : Program} {w : World} {K : W.Frag} {mg : Str → Option Value} {base : Heap} {CH CS CB : Addr} {Z : Cz}
def dZ (CH CS : Addr) : Sp := fun vs H _ E => ∃ p sz tap v, vs = [.ref p, v] ∧ House CH H p sz tap ∧ jZ H sz v ∧ ∀ H', Same H H' → E (.ref CS) none H'
theorem yD (F : Fun K "held_in" "held_in" iO f fd) (B : Bt mg) (X : XC K mg "BadState" CS) (N : FnB P w K mg base 1 "is_number" ["value", "least", "most"] iK)
   (S : MeB P w K mg base 1 CH "sizes" ["self"] (hZ CH)) : FnOk P w K mg base (CX1 P w) 2 f fd ["house", "state"] (dZ CH CS) := by
 refine F.okX dP (fun vs H Q E h => ?_) (fun cdv A outer s H vs Q E hr h => ?_)
 · obtain ⟨p, sz, tap, v, rfl, _⟩ := h
   rfl
 · obtain ⟨p, sz, tap, v, rfl, hh, hb, k⟩ := h
   refine ⟨_, aC (aT (bJ (bK (aQ bV (by rfl) B.isinstance aS (aA (pv 1) (aA (dL (v := .ty "tuple") (by rfl) B.tuple bP rfl) aB))))) (aH (bX bdX xeX rfl X)) aL)
     (aC (aM (i := 2) dP.nd rfl (Or.inl rfl) (aR cF (by rfl) B.list cQ (aA (pv 1) aB)))
     (aC (aM (i := 3) dP.nd rfl (Or.inl rfl) (jW S (pv 0) hr))
     (aC (aT (aV vB (aQ bC (by rfl) B.len PySem.boot_len (aA (pv 2) aB)) (aQ bC (by rfl) B.len PySem.boot_len (aA (pv 3) aB)) (nomark _)) (aH (bX bdX xeX rfl X)) aL)
     (aC (cN wA rfl (aL1 (by rfl) B.zip (aA (pv 2) (aA (pv 3) aB)))
       (aL2 rfl (oP (bT (i := 4) dP.nd rfl (Or.inl rfl)) (oP (bT (i := 5) dP.nd rfl (Or.inl rfl)) aB7)))
       (aH (aT (bJ (bK (aU N hr (aA (pv 4) (aA aE (aA (pv 5) aB)))))) (aH (bX bdX xeX rfl X)) aL)))
     (aH (aP (pv 2))))))), ?_⟩
   rcases hb with ⟨t, kd, nt⟩ | ⟨a, xs, rfl, ha, him, hbad⟩
   · exact ⟨_, rfl, _, _, _, _, _, rfl, .ty "tuple", kd.ty, yU kd (.inl rfl) nt, _, rfl, dR (k H (Same.refl _))⟩
   refine ⟨_, rfl, _, _, _, _, _, rfl, .ty "tuple", .tup ha, wT, _, rfl, cB ?_⟩
   refine ⟨_, rfl, a, _, rfl, .inr (SqT.of ha), fun l hl => ?_⟩
   have s1 : Same H (upd H l (.lst xs)) := Same.new hl
   obtain ⟨dx, t, hp, ht⟩ := id hh
   refine ⟨_, rfl, p, dx, _, rfl, s1 _ _ hp, mE _ _ (by decide +kernel) (by decide +kernel), p, sz, tap, rfl, hh.mono s1, fun m hm => ?_⟩
   have s2 : Same (upd H l (.lst xs)) (upd (upd H l (.lst xs)) m (.lst (sz.map V.int))) := Same.new hm
   have e1 := s2 _ _ (aD (H := H))
   refine ⟨_, rfl, l, _, rfl, .inl (SqL.of e1), _, rfl, m, _, rfl, .inl (SqL.of aD), rfl, _, rfl, ?_⟩
   by_cases hlen : xs.length = sz.length
   · have hlen' : xs.length = (sz.map V.int).length := by simp [hlen]
     refine aD2 (by rw [hlen']) ?_
     refine ⟨_, rfl, _, rfl, l, m, _, _, rfl, SqL.of e1, SqL.of aD, aD7 (xs := xs) (ys := sz.map V.int) hlen'
       (fun i σ H' => ∃ v4 v5, σ = [some (.ref p), some (.ref a), some (.ref l), some (.ref m), v4, v5] ∧ Same (upd (upd H l (.lst xs)) m (.lst (sz.map V.int))) H' ∧ ∀ j x z, j < i → xs[j]? = some x → sz[j]? = some z → cY x 0 z = true)
       ⟨none, none, rfl, Same.refl _, fun j x z h => absurd h (Nat.not_lt_zero _)⟩ (fun i σ H' _ ⟨_, _, _, s3, _⟩ => ⟨SqL.of (s3 _ _ e1), SqL.of (s3 _ _ aD)⟩) ?_ ?_⟩
     · rintro i x y T σ H' hx hy hT ⟨v4, v5, rfl, s3, ih⟩
       obtain ⟨zy, ey, rfl⟩ := fQ hy
       obtain ⟨tx, _, _, kx⟩ := him x (List.mem_of_getElem? hx)
       refine ⟨T, _, rfl, SqT.of aD, rfl, _, _, rfl, _, _, rfl, rfl, ?_⟩
       refine ⟨_, rfl, _, rfl, x, tx, 0, zy, rfl, kx _, _, rfl, ?_⟩
       cases hn : cY x 0 zy with
       | false => exact dR (k _ ((s1.trans (s2.trans s3)).lay hT))
       | true =>
         refine cB ⟨_, _, rfl, s3.lay hT, fun j x' z' hj e1 e2 => ?_⟩
         rcases Nat.lt_succ_iff_lt_or_eq.mp hj with hj | rfl
         · exact ih j x' z' hj e1 e2
         · rw [hx] at e1; rw [ey] at e2; cases e1; cases e2; exact hn
     · rintro σ H' ⟨v4, v5, rfl, s3, ih⟩
       rw [aC6 xs sz hlen fun i x z e1 e2 => ih i x z (List.getElem?_eq_some_iff.mp e1).1 e1 e2] at hbad
       cases hbad
   · refine aV2 (fun e => hlen ?_) (k _ (s1.trans s2))
     have e : (xs.length : Int) = (sz.length : Int) := by simpa using e
     omega
def eT (CH CB : Addr) : Sp := fun vs H _ E => ∃ p sz tap, ∃ (j : Nat), vs = [.ref p, .int j] ∧ House CH H p sz tap ∧ sz.length ≤ j ∧ ∀ H', Same H H' → E (.ref CB) none H'
theorem mL (F : Fun K "check_house_has" "check_house_has" cM f fd) (B : Bt mg) (X : XC K mg "BadMove" CB) (S : MeB P w K mg base 1 CH "sizes" ["self"] (hZ CH)) :
   FnOk P w K mg base (CX1 P w) 2 f fd ["house", "jug"] (eT CH CB) := by
 refine F.okX jS (fun vs H Q E h => ?_) (fun cdv A outer s H vs Q E hr h => ?_)
 · obtain ⟨p, sz, tap, j, rfl, _⟩ := h
   rfl
 · obtain ⟨p, sz, tap, j, rfl, hh, hj, k⟩ := h
   obtain ⟨dx, t, hp, ht⟩ := id hh
   refine ⟨_, aH (aT (aV aC5 (pv 1) (aQ bC (by rfl) B.len PySem.boot_len (aA (jW S (pv 0) hr) aB)) (nomark _)) (aH (bX bdX xeX rfl X)) aL), ?_⟩
   refine ⟨_, rfl, _, rfl, p, dx, _, rfl, hp, mE _ _ (by decide +kernel) (by decide +kernel), p, sz, tap, rfl, hh, fun m hm => ?_⟩
   refine ⟨m, _, rfl, .inl (SqL.of aD), _, _, rfl, rfl, _, rfl, ?_⟩
   rw [decide_eq_true (by simp; omega)]
   exact dR (k _ (Same.new hm))
theorem lR (F : Fun K "check_house_has" "check_house_has" cG f fd) (B : Bt mg) (X : XC K mg "BadGoal" CB) (S : MeB P w K mg base 1 CH "sizes" ["self"] (hZ CH)) :
   FnOk P w K mg base (CX1 P w) 2 f fd ["house", "jug"] (eT CH CB) := by
 refine F.okX jA (fun vs H Q E h => ?_) (fun cdv A outer s H vs Q E hr h => ?_)
 · obtain ⟨p, sz, tap, j, rfl, _⟩ := h
   rfl
 · obtain ⟨p, sz, tap, j, rfl, hh, hj, k⟩ := h
   obtain ⟨dx, t, hp, ht⟩ := id hh
   refine ⟨_, aH (aT (aV aC5 (pv 1) (aQ bC (by rfl) B.len PySem.boot_len (aA (jW S (pv 0) hr) aB)) (nomark _)) (aH (bX bdX xeX rfl X)) aL), ?_⟩
   refine ⟨_, rfl, _, rfl, p, dx, _, rfl, hp, mE _ _ (by decide +kernel) (by decide +kernel), p, sz, tap, rfl, hh, fun m hm => ?_⟩
   refine ⟨m, _, rfl, .inl (SqL.of aD), _, _, rfl, rfl, _, rfl, ?_⟩
   rw [decide_eq_true (by simp; omega)]
   exact dR (k _ (Same.new hm))
def lX (CH CB : Addr) : Sp := fun vs H _ E => ∃ p sz tap, ∃ (j : Nat), vs = [.ref p, .int j] ∧ House CH H p sz tap ∧ (sz.length ≤ j ∨ tap = false) ∧ ∀ o H', Same H H' → E (.ref CB) o H'
theorem yE (F : Fun K "check_house_can_tap" "check_house_can_tap" bW f fd) (C : CHs K CH) (X : XC K mg "BadMove" CB) (N : FnB P w K mg base 2 "check_house_has_moves" ["house", "jug"] (bQ CH))
   (NX : FnX P w K mg base 2 "check_house_has_moves" ["house", "jug"] (eT CH CB)) : FnOk P w K mg base (CX1 P w) 3 f fd ["house", "jug"] (lX CH CB) := by
 refine F.okX iD (fun vs H Q E h => ?_) (fun cdv A outer s H vs Q E hr h => ?_)
 · obtain ⟨p, sz, tap, j, rfl, _⟩ := h
   rfl
 · obtain ⟨p, sz, tap, j, rfl, hh, hj, k⟩ := h
   by_cases hl : sz.length ≤ j
   · refine ⟨_, aC (aW (bI bdX xeX NX hr (aA (pv 0) (aA (pv 1) aB)))) (aH (aT (bJ (bK (bR (pv 0) rfl))) aG aL)), ?_⟩
     exact ⟨_, rfl, _, rfl, p, sz, tap, j, rfl, hh, hl, fun H' s' => k _ H' s'⟩
   · rcases hj with hj | rfl
     · exact absurd hj hl
     refine ⟨_, aC (aW (aU N hr (aA (pv 0) (aA (pv 1) aB)))) (aH (aT (bJ (bK (bR (pv 0) rfl))) (aH (bX bdX xeX rfl X)) aL)), ?_⟩
     refine ⟨_, rfl, _, rfl, p, sz, false, j, rfl, hh, by omega, fun H1 s1 => ?_⟩
     obtain ⟨dx, t, hp, ht⟩ := hh.mono s1
     exact ⟨_, rfl, p, CH, dx, _, _, rfl, hp, C.cl, C.tap, aA8 _ _, _, rfl, dR (k _ _ s1)⟩
end
end Jug
namespace Jug
open PySem L2
def unfit (n : Nat) (tap : Bool) : J.Mv → Prop
 | .pour a b => n ≤ a ∨ n ≤ b
 | .fill a => n ≤ a ∨ tap = false
 | .emp a => n ≤ a ∨ tap = false
section
variable {P : Program} {w : World} {K : W.Frag} {mg : Str → Option Value} {base : Heap} {CH CS CB : Addr} {Z : Cz}
def kJ (CB : Addr) : Sp := fun vs H _ E => ∃ p v u tv tu, vs = [.ref p, v, u] ∧ Kd H v tv ∧ Kd H u tu ∧ (cY v 0 3 = false ∨ ∃ a : Nat, v = .int a ∧ a ≤ 3 ∧ (cY u 0 3 = false ∨ u = .int a)) ∧ ∀ o H', Same H H' → E (.ref CB) o H'
theorem uB (F : Fun K "__init__" "Pour.__init__" fF f fd) (X : XC K mg "BadMove" CB) (N : FnB P w K mg base 3 "check_jug_moves" ["jug"] cS) (NX : FnX P w K mg base 3 "check_jug_moves" ["jug"] (dS CB 0 3)) :
   FnOk P w K mg base (CX1 P w) 4 f fd ["self", "one", "other"] (kJ CB) := by
 refine F.okX oM (fun vs H Q E h => ?_) (fun cdv A outer s H vs Q E hr h => ?_)
 · obtain ⟨p, v, u, tv, tu, rfl, _⟩ := h
   rfl
 · obtain ⟨p, v, u, tv, tu, rfl, kv, ku, hb, k⟩ := h
   rcases hb with hb | ⟨a, rfl, ha, hb | rfl⟩
   · refine ⟨_, aC (aW (bI bdX xeX NX hr (aA (pv 1) aB))) aG, ?_⟩
     exact ⟨_, rfl, v, tv, rfl, kv, hb, k _ H (Same.refl _)⟩
   · refine ⟨_, aC (aW (aU N hr (aA (pv 1) aB))) (aC (aW (bI bdX xeX NX hr (aA (pv 2) aB))) aG), ?_⟩
     exact ⟨_, rfl, a, rfl, ha, _, rfl, u, tu, rfl, ku, hb, k _ H (Same.refl _)⟩
   · refine ⟨_, aC (aW (aU N hr (aA (pv 1) aB))) (aC (aW (aU N hr (aA (pv 2) aB)))
       (aC (aT (aV cT (pv 1) (pv 2) (nomark _)) (aH (bX bdX xeX rfl X)) aL) aG)), ?_⟩
     refine ⟨_, rfl, a, rfl, ha, _, rfl, a, rfl, ha, _, rfl, _, rfl, rfl, _, rfl, ?_⟩
     rw [decide_eq_true (by simp)]
     exact dR (k _ H (Same.refl _))
def iA (CB : Addr) : Sp := fun vs H _ E => ∃ p v tv, vs = [.ref p, v] ∧ Kd H v tv ∧ cY v 0 3 = false ∧ ∀ o H', Same H H' → E (.ref CB) o H'
theorem uF (F : Fun K "__init__" "Fill.__init__" fK f fd) (NX : FnX P w K mg base 3 "check_jug_moves" ["jug"] (dS CB 0 3)) : FnOk P w K mg base (CX1 P w) 4 f fd ["self", "jug"] (iA CB) := by
 refine F.okX oN (fun vs H Q E h => ?_) (fun cdv A outer s H vs Q E hr h => ?_)
 · obtain ⟨p, v, tv, rfl, _⟩ := h
   rfl
 · obtain ⟨p, v, tv, rfl, kv, hb, k⟩ := h
   exact ⟨_, aC (aW (bI bdX xeX NX hr (aA (pv 1) aB))) aG, _, rfl, v, tv, rfl, kv, hb, k _ H (Same.refl _)⟩
theorem sI (F : Fun K "__init__" "Empty.__init__" eP f fd) (NX : FnX P w K mg base 3 "check_jug_moves" ["jug"] (dS CB 0 3)) : FnOk P w K mg base (CX1 P w) 4 f fd ["self", "jug"] (iA CB) := by
 refine F.okX mZ (fun vs H Q E h => ?_) (fun cdv A outer s H vs Q E hr h => ?_)
 · obtain ⟨p, v, tv, rfl, _⟩ := h
   rfl
 · obtain ⟨p, v, tv, rfl, kv, hb, k⟩ := h
   exact ⟨_, aC (aW (bI bdX xeX NX hr (aA (pv 1) aB))) aG, _, rfl, v, tv, rfl, kv, hb, k _ H (Same.refl _)⟩
def pJ (Z : Cz) (CH CB : Addr) (ok : J.Mv → Prop) : Sp := fun vs H _ E => ∃ p h l sz tap m, vs = [.ref p, .ref h, .ref l] ∧ ok m ∧ iX Z H p m ∧ House CH H h sz tap ∧ unfit sz.length tap m ∧ ∀ o H', Same H H' → E (.ref CB) o H'
theorem yI (F : Fun K "held_behind" "Pour.held_behind" cJ f fd) (C : CPo K Z.P) (N : FnB P w K mg base 2 "check_house_has_moves" ["house", "jug"] (bQ CH))
   (NX : FnX P w K mg base 2 "check_house_has_moves" ["house", "jug"] (eT CH CB)) : FnOk P w K mg base (CX1 P w) 3 f fd ["self", "house", "held"] (pJ Z CH CB wW) := by
 refine F.okX cX (fun vs H Q E h => ?_) (fun cdv A outer s H vs Q E hr h => ?_)
 · obtain ⟨p, h', l, sz, tap, m, rfl, _⟩ := h
   rfl
 · obtain ⟨p, q, l, sz, tap, m, rfl, hm, hmv, hh, hu, k⟩ := h
   cases m with
   | fill a => exact hm.elim
   | emp a => exact hm.elim
   | pour a b =>
     obtain ⟨dp, hp⟩ := hmv
     have hp : H p = some (.ins Z.P dp (pF a b)) := hp
     by_cases ha : sz.length ≤ a
     · refine ⟨_, aC (aW (bI bdX xeX NX hr (aA (pv 1) (aA (bR (pv 0) rfl) aB)))) aG, ?_⟩
       exact ⟨_, rfl, _, rfl, p, Z.P, dp, _, _, rfl, hp, C.cl, C.one, pQ _ _, q, sz, tap, a, rfl, hh, ha, fun H1 s1 => k _ H1 s1⟩
     · have hb : sz.length ≤ b := hu.resolve_left ha
       refine ⟨_, aC (aW (aU N hr (aA (pv 1) (aA (bR (pv 0) rfl) aB)))) (aC (aW (bI bdX xeX NX hr (aA (pv 1) (aA (bR (pv 0) rfl) aB)))) aG), ?_⟩
       refine ⟨_, rfl, _, rfl, p, Z.P, dp, _, _, rfl, hp, C.cl, C.one, pQ _ _, q, sz, tap, a, rfl, hh, by omega, fun H1 s1 => ?_⟩
       exact ⟨_, rfl, _, rfl, p, Z.P, dp, _, _, rfl, s1 _ _ hp, C.cl, C.other, kR _ _, q, sz, tap, b, rfl, hh.mono s1, hb, fun H2 s2 => k _ H2 (s1.trans s2)⟩
theorem yJ (F : Fun K "held_behind" "Fill.held_behind" cK f fd) (C : CJu K Z.F) (NX : FnX P w K mg base 3 "check_house_can_tap" ["house", "jug"] (lX CH CB)) :
   FnOk P w K mg base (CX1 P w) 4 f fd ["self", "house", "held"] (pJ Z CH CB wX) := by
 refine F.okX jC (fun vs H Q E h => ?_) (fun cdv A outer s H vs Q E hr h => ?_)
 · obtain ⟨p, h', l, sz, tap, m, rfl, _⟩ := h
   rfl
 · obtain ⟨p, q, l, sz, tap, m, rfl, hm, hmv, hh, hu, k⟩ := h
   cases m with
   | pour a b => exact hm.elim
   | emp a => exact hm.elim
   | fill a =>
     obtain ⟨dp, hp⟩ := hmv
     have hp : H p = some (.ins Z.F dp (jF a)) := hp
     refine ⟨_, aC (aW (bI bdX xeX NX hr (aA (pv 1) (aA (bR (pv 0) rfl) aB)))) aG, ?_⟩
     exact ⟨_, rfl, _, rfl, p, Z.F, dp, _, _, rfl, hp, C.cl, C.jug, nV _, q, sz, tap, a, rfl, hh, hu, k⟩
theorem wN (F : Fun K "held_behind" "Empty.held_behind" bZ f fd) (C : CJu K Z.E) (NX : FnX P w K mg base 3 "check_house_can_tap" ["house", "jug"] (lX CH CB)) :
   FnOk P w K mg base (CX1 P w) 4 f fd ["self", "house", "held"] (pJ Z CH CB aD3) := by
 refine F.okX iW (fun vs H Q E h => ?_) (fun cdv A outer s H vs Q E hr h => ?_)
 · obtain ⟨p, h', l, sz, tap, m, rfl, _⟩ := h
   rfl
 · obtain ⟨p, q, l, sz, tap, m, rfl, hm, hmv, hh, hu, k⟩ := h
   cases m with
   | pour a b => exact hm.elim
   | fill a => exact hm.elim
   | emp a =>
     obtain ⟨dp, hp⟩ := hmv
     have hp : H p = some (.ins Z.E dp (jF a)) := hp
     refine ⟨_, aC (aW (bI bdX xeX NX hr (aA (pv 1) (aA (bR (pv 0) rfl) aB)))) aG, ?_⟩
     exact ⟨_, rfl, _, rfl, p, Z.E, dp, _, _, rfl, hp, C.cl, C.jug, nV _, q, sz, tap, a, rfl, hh, hu, k⟩
def oC (Z : Cz) (CH CS CB : Addr) : Sp := fun vs H _ E => ∃ p h v sz tap m, vs = [.ref p, .ref h, v] ∧ iX Z H p m ∧ House CH H h sz tap ∧
 ((jZ H sz v ∧ ∀ o H', Same H H' → E (.ref CS) o H') ∨ (∃ a st, v = .ref a ∧ H a = some (.tup (st.map V.int)) ∧ J.IsSt sz st ∧ unfit sz.length tap m ∧ ∀ o H', Same H H' → E (.ref CB) o H'))
theorem aM8 (F : Fun K "done" "Move.done" fI f fd) (B : Bt mg) (N : FnB P w K mg base 2 "held_in" ["house", "state"] (dO CH)) (NX : FnX P w K mg base 2 "held_in" ["house", "state"] (dZ CH CS))
   (HP : MeX P w K mg base 4 Z.P "held_behind" ["self", "house", "held"] (pJ Z CH CB wW)) (HF : MeX P w K mg base 4 Z.F "held_behind" ["self", "house", "held"] (pJ Z CH CB wX)) (HE : MeX P w K mg base 4 Z.E "held_behind" ["self", "house", "held"] (pJ Z CH CB aD3)) :
   FnOk P w K mg base (CX1 P w) 5 f fd ["self", "house", "state"] (oC Z CH CS CB) := by
 refine F.okX cZ (fun vs H Q E h => ?_) (fun cdv A outer s H vs Q E hr h => ?_)
 · obtain ⟨p, h', v, sz, tap, m, rfl, _⟩ := h
   rfl
 · obtain ⟨p, q, v, sz, tap, m, rfl, hmv, hh, hb⟩ := h
   have hr2 : Room 2 _ := hr.mono (by decide)
   rcases hb with ⟨hb, k⟩ | ⟨a, st, rfl, ha, hst, hu, k⟩
   · refine ⟨_, aC (aM (i := 3) cZ.nd rfl (Or.inl rfl) (bI bdX xeX NX hr2 (aA (pv 1) (aA (pv 2) aB)))) aG, ?_⟩
     exact ⟨_, rfl, _, rfl, q, sz, tap, v, rfl, hh, hb, fun H' s' => k _ H' s'⟩
   obtain ⟨dp, hp⟩ := id hmv
   cases m with
   | pour x y =>
     refine ⟨_, aC (aM (i := 3) cZ.nd rfl (Or.inl rfl) (aU N hr2 (aA (pv 1) (aA (pv 2) aB))))
       (aH (aP (aR aY (by rfl) B.tuple bP (aA (lB bdX xeX HP (pv 0) hr (aA (pv 1) (aA (pv 3) aB))) aB)))), ?_⟩
     refine ⟨_, rfl, _, rfl, q, sz, tap, a, st, rfl, hh, ha, hst, fun l H1 s1 nl hl => ?_⟩
     exact ⟨_, rfl, p, dp, _, rfl, s1 _ _ hp, aC3 _ _ (by decide +kernel) (by decide +kernel), _, rfl, _, rfl, p, q, l, sz, tap, .pour x y, rfl, trivial, hmv.mono s1, hh.mono s1, hu, fun o H' s' => k o H' (s1.trans s')⟩
   | fill x =>
     refine ⟨_, aC (aM (i := 3) cZ.nd rfl (Or.inl rfl) (aU N hr2 (aA (pv 1) (aA (pv 2) aB))))
       (aH (aP (aR aY (by rfl) B.tuple bP (aA (lB bdX xeX HF (pv 0) hr (aA (pv 1) (aA (pv 3) aB))) aB)))), ?_⟩
     refine ⟨_, rfl, _, rfl, q, sz, tap, a, st, rfl, hh, ha, hst, fun l H1 s1 nl hl => ?_⟩
     exact ⟨_, rfl, p, dp, _, rfl, s1 _ _ hp, sR _ (by decide +kernel), _, rfl, _, rfl, p, q, l, sz, tap, .fill x, rfl, trivial, hmv.mono s1, hh.mono s1, hu, fun o H' s' => k o H' (s1.trans s')⟩
   | emp x =>
     refine ⟨_, aC (aM (i := 3) cZ.nd rfl (Or.inl rfl) (aU N hr2 (aA (pv 1) (aA (pv 2) aB))))
       (aH (aP (aR aY (by rfl) B.tuple bP (aA (lB bdX xeX HE (pv 0) hr (aA (pv 1) (aA (pv 3) aB))) aB)))), ?_⟩
     refine ⟨_, rfl, _, rfl, q, sz, tap, a, st, rfl, hh, ha, hst, fun l H1 s1 nl hl => ?_⟩
     exact ⟨_, rfl, p, dp, _, rfl, s1 _ _ hp, sR _ (by decide +kernel), _, rfl, _, rfl, p, q, l, sz, tap, .emp x, rfl, trivial, hmv.mono s1, hh.mono s1, hu, fun o H' s' => k o H' (s1.trans s')⟩
end
end Jug
namespace Jug
open PySem L2
theorem rW {X : Cx} {e : Expr} : PE X e (fun _ _ _ => False) := fun _ _ _ _ _ _ h => h.elim
structure NoMv (K : W.Frag) (Z : Cz) : Prop where
 n1 : W.kitAny K (.type "NoneType") [.ref Z.P, .ref Z.F, .ref Z.E] = some false
 n2 : W.kitAny K (.type "bool") [.ref Z.P, .ref Z.F, .ref Z.E] = some false
 n3 : W.kitAny K (.type "int") [.ref Z.P, .ref Z.F, .ref Z.E] = some false
 n4 : W.kitAny K (.type "str") [.ref Z.P, .ref Z.F, .ref Z.E] = some false
 n5 : W.kitAny K (.type "list") [.ref Z.P, .ref Z.F, .ref Z.E] = some false
 n6 : W.kitAny K (.type "tuple") [.ref Z.P, .ref Z.F, .ref Z.E] = some false
theorem NoMv.of {K : W.Frag} {Z : Cz} (N : NoMv K Z) {H : Hp} {v : V} {t : String} (k : Kd H v t) : W.kitAny K (.type t) [.ref Z.P, .ref Z.F, .ref Z.E] = some false := by
 cases k with
 | non => exact N.n1
 | bl b => exact N.n2
 | int i => exact N.n3
 | str x => exact N.n4
 | lst e => exact N.n5
 | tup e => exact N.n6
def kN (Z : Cz) (H : Hp) (v : V) : Prop := (∃ t, Kd H v t ∧ t ≠ "list") ∨ ∃ l xs, v = .ref l ∧ H l = some (.lst xs) ∧ (∀ x ∈ xs, (∃ t, Kd H x t) ∨ ∃ m, isM Z H x m) ∧ ∃ x ∈ xs, ∃ t, Kd H x t
theorem isM.mono {Z : Cz} {H H' : Hp} {v : V} {m : J.Mv} (h : isM Z H v m) (s : Same H H') : isM Z H' v m := let ⟨p, e, q⟩ := h; ⟨p, e, q.mono s⟩
theorem aH3 {Z : Cz} {H : Hp} {v : V} {t : String} {m : J.Mv} (k : Kd H v t) (h : isM Z H v m) : False := by
 obtain ⟨p, rfl, dx, e⟩ := h
 cases k with
 | lst e' => rw [e'] at e; cases e
 | tup e' => rw [e'] at e; cases e
theorem kN.mono {Z : Cz} {H H' : Hp} {v : V} (h : kN Z H v) (s : Same H H') : kN Z H' v := by
 rcases h with ⟨t, k, n⟩ | ⟨l, xs, e, hl, ha, x, hx, t, k⟩
 · exact .inl ⟨t, k.mono s, n⟩
 · exact .inr ⟨l, xs, e, s _ _ hl, fun y hy => (ha y hy).elim (fun ⟨t, k⟩ => .inl ⟨t, k.mono s⟩) (fun ⟨m, q⟩ => .inr ⟨m, q.mono s⟩), x, hx, t, k.mono s⟩
def nG (H : Hp) (v : V) : Prop := (∃ t, Kd H v t ∧ t ≠ "list") ∨ ∃ l xs, v = .ref l ∧ H l = some (.lst xs) ∧ (∀ x ∈ xs, Im x) ∧
 (xs.length = 0 ∨ 4 < xs.length ∨ (∃ x ∈ xs, cY x 1 60 = false) ∨ ∃ sz : List Int, xs = sz.map V.int ∧ (∀ s ∈ sz, 1 ≤ s ∧ s ≤ 60) ∧ 2000 < J.uX sz)
theorem nG.mono {H H' : Hp} {v : V} (h : nG H v) (s : Same H H') : nG H' v := by
 rcases h with ⟨t, k, n⟩ | ⟨l, xs, e, hl, r⟩
 · exact .inl ⟨t, k.mono s, n⟩
 · exact .inr ⟨l, xs, e, s _ _ hl, r⟩
section
variable {P : Program} {w : World} {K : W.Frag} {mg : Str → Option Value} {base : Heap} {CH CS CB : Addr} {Z : Cz}
def fV (Z : Cz) (CB : Addr) : Sp := fun vs H _ E => ∃ v, vs = [v] ∧ kN Z H v ∧ ∀ o H', Same H H' → E (.ref CB) o H'
theorem wC (F : Fun K "moves_in" "moves_in" gR f fd) (B : Bt mg) (M : MvC K mg Z) (NM : NoMv K Z) (X : XC K mg "BadMove" CB) : FnOk P w K mg base (CX1 P w) 1 f fd ["moves"] (fV Z CB) := by
 refine F.okX hJ (fun vs H Q E h => ?_) (fun cdv A outer s H vs Q E hr h => ?_)
 · obtain ⟨v, rfl, _⟩ := h
   rfl
 · obtain ⟨v, rfl, hb, k⟩ := h
   refine ⟨_, aC (aT (bJ (bK (aQ bV (by rfl) B.isinstance aS (aA (pv 0) (aA (dL (v := .ty "list") (by rfl) B.list cQ rfl) aB))))) (aH (bX bdX xeX rfl X)) aL)
     (aC (aM (i := 1) hJ.nd rfl (Or.inl rfl) (aR cF (by rfl) B.list cQ (aA (pv 0) aB)))
     (aC (cN wA rfl (dI (pv 1)) (bT (i := 2) hJ.nd rfl (Or.inl rfl))
       (aH (aT (bJ (bK (aQ jL (by rfl) B.isinstance aS (aA (pv 2) (aA (bD (aA (bB (v := .ref Z.P) (by rfl) M.gP rfl) (aA (bB (v := .ref Z.F) (by rfl) M.gF rfl) (aA (bB (v := .ref Z.E) (by rfl) M.gE rfl) aB)))) aB))))) (aH (bX bdX xeX rfl X)) aL)))
     (aH (aP (pv 1))))), ?_⟩
   rcases hb with ⟨t, kd, nt⟩ | ⟨l, xs, rfl, hl, hall, x0, hx0, t0, k0⟩
   · exact ⟨_, rfl, _, _, _, _, _, rfl, .ty "list", kd.ty, yU kd (.inr rfl) nt, _, rfl, dR (k _ H (Same.refl _))⟩
   refine ⟨_, rfl, _, _, _, _, _, rfl, .ty "list", .lst hl, pU, _, rfl, cB ?_⟩
   refine ⟨_, rfl, l, _, rfl, .inl (SqL.of hl), fun r nr => ?_⟩
   have s1 : Same H (upd H r (.lst xs)) := Same.new nr
   refine ⟨_, rfl, r, rfl, ⟨_, SqL.of aD⟩, cU (K := K) (a := r) (xs := xs) (fun i σ H' => ∃ v, σ = [some (.ref l), some (.ref r), v] ∧ Same (upd H r (.lst xs)) H' ∧ ∀ (j : Nat) x, j < i → xs[j]? = some x → ∃ m, isM Z H x m)
     ⟨none, rfl, Same.refl _, fun j x h => absurd h (Nat.not_lt_zero _)⟩ (fun i σ H' _ ⟨_, _, s2, _⟩ => SqL.of (s2 _ _ aD)) ?_ ?_⟩
   · rintro i x σ H' hx ⟨v, rfl, s2, ih⟩
     refine ⟨_, rfl, (by exact sz3), fun tp nt => ?_⟩
     rcases hall x (List.mem_of_getElem? hx) with ⟨t, kd⟩ | ⟨m, hm⟩
     · exact ⟨_, tp, _, _, _, _, rfl, aD, .cons (.ref _) (.cons (.ref _) (.cons (.ref _) .nil)), (((kd.mono s1).mono s2).mono (Same.new nt)).ty, NM.of kd, _, rfl, dR (k _ _ ((s1.trans s2).lay nt))⟩
     · obtain ⟨p, rfl, hmv⟩ := id hm
       have hmv' := (hmv.mono s1).mono s2
       refine ⟨_, tp, _, _, _, _, rfl, aD, .cons (.ref _) (.cons (.ref _) (.cons (.ref _) .nil)), M.ty (hmv'.mono (Same.new nt)), M.any m, _, rfl, cB ?_⟩
       refine ⟨_, rfl, s2.lay nt, fun j y hj ej => ?_⟩
       rcases Nat.lt_succ_iff_lt_or_eq.mp hj with hj | rfl
       · exact ih j y hj ej
       · rw [hx] at ej; cases ej; exact ⟨m, hm⟩
   · rintro σ H' ⟨v, rfl, s2, ih⟩
     obtain ⟨j, hj⟩ := List.getElem?_of_mem hx0
     obtain ⟨m, hm⟩ := ih j x0 (List.getElem?_eq_some_iff.mp hj).1 hj
     exact (aH3 k0 hm).elim
def jE (Z : Cz) (CH CS CB : Addr) : Sp := fun vs H _ E => ∃ v h u sz tap, vs = [v, .ref h, u] ∧ House CH H h sz tap ∧ ((kN Z H v ∧ ∀ o H', Same H H' → E (.ref CB) o H') ∨ ∃ l xs ms, v = .ref l ∧ H l = some (.lst xs) ∧ Paired (isM Z H) xs ms ∧
 ((jZ H sz u ∧ ∀ o H', Same H H' → E (.ref CS) o H') ∨ ∃ a st ms1 m ms2, u = .ref a ∧ H a = some (.tup (st.map V.int)) ∧ J.IsSt sz st ∧ (∀ i, i < sz.length → 0 ≤ J.at0 sz i) ∧ ms = ms1 ++ m :: ms2 ∧ (∀ x ∈ ms1, x.ok sz.length tap) ∧ unfit sz.length tap m ∧ ∀ o H', Same H H' → E (.ref CB) o H'))
theorem wF (F : Fun K "done_all" "done_all" iP f fd) (B : Bt mg) (I : FnB P w K mg base 1 "moves_in" ["moves"] (pY Z)) (IX : FnX P w K mg base 1 "moves_in" ["moves"] (fV Z CB)) (N : FnB P w K mg base 2 "held_in" ["house", "state"] (dO CH)) (NX : FnX P w K mg base 2 "held_in" ["house", "state"] (dZ CH CS))
   (D : ∀ C, sX Z C → MeX P w K mg base 5 C "done" ["self", "house", "state"] (fun vs H Q E => vT Z CH vs H Q E ∨ oC Z CH CS CB vs H Q E)) : FnOk P w K mg base (CX1 P w) 6 f fd ["moves", "house", "state"] (jE Z CH CS CB) := by
 refine F.okX eB (fun vs H Q E h => ?_) (fun cdv A outer s H vs Q E hr h => ?_)
 · obtain ⟨v, q, u, sz, tap, rfl, _⟩ := h
   rfl
 · obtain ⟨v, q, u, sz, tap, rfl, hh, hb⟩ := h
   rcases hb with ⟨hb, k⟩ | ⟨l, xs, ms, rfl, hl, hp, hb⟩
   · refine ⟨_, aC (aM (i := 3) eB.nd rfl (Or.inl rfl) (bI bdX xeX IX (hr.mono (by decide)) (aA (pv 0) aB))) aG, ?_⟩
     exact ⟨_, rfl, v, rfl, hb, k⟩
   rcases hb with ⟨hb, k⟩ | ⟨a, st, ms1, m0, ms2, rfl, ha, hst, hs, rfl, hok, hu, k⟩
   · refine ⟨_, aC (aM (i := 3) eB.nd rfl (Or.inl rfl) (aU I (hr.mono (by decide)) (aA (pv 0) aB)))
       (aC (aM (i := 4) eB.nd rfl (Or.inl rfl) (aR aY (by rfl) B.tuple bP (aA (bI bdX xeX NX (hr.mono (by decide)) (aA (pv 1) (aA (pv 2) aB))) aB))) aG), ?_⟩
     refine ⟨_, rfl, l, xs, ms, rfl, hl, hp, fun r H1 s1 nr er => ?_⟩
     exact ⟨_, rfl, _, rfl, q, sz, tap, u, rfl, hh.mono s1, hb.mono s1, fun H' s' => k _ H' (s1.trans s')⟩
   refine ⟨_, aC (aM (i := 3) eB.nd rfl (Or.inl rfl) (aU I (hr.mono (by decide)) (aA (pv 0) aB)))
     (aC (aM (i := 4) eB.nd rfl (Or.inl rfl) (aR aY (by rfl) B.tuple bP (aA (aU N (hr.mono (by decide)) (aA (pv 1) (aA (pv 2) aB))) aB)))
     (aC (cN wA rfl (dI (pv 3)) (bT (i := 5) eB.nd rfl (Or.inl rfl))
       (aH (aM (i := 4) eB.nd rfl (Or.inl rfl) (qT bdX xeX D (pv 5) hr (aA (pv 1) (aA (pv 4) aB))))))
     (aH (aP (pv 4))))), ?_⟩
   refine ⟨_, rfl, l, xs, _, rfl, hl, hp, fun r H1 s1 nr er => ?_⟩
   refine ⟨_, rfl, _, rfl, q, sz, tap, a, st, rfl, hh.mono s1, s1 _ _ ha, hst, fun y H2 s2 ny ey => ?_⟩
   refine ⟨y, _, rfl, .inl ⟨SqL.of ey, fun t nt => ?_⟩⟩
   have s3 : Same H (upd H2 t (.tup (st.map V.int))) := (s1.trans s2).lay nt
   have er3 : (upd H2 t (.tup (st.map V.int))) r = some (.lst xs) := (s2.lay nt) _ _ er
   refine ⟨_, rfl, r, rfl, ⟨_, SqL.of er3⟩, cU (K := K) (a := r) (xs := xs) (fun i σ H' => i ≤ ms1.length ∧ ∃ b v, σ = [some (.ref l), some (.ref q), some (.ref a), some (.ref r), some (.ref b), v] ∧ Same (upd H2 t (.tup (st.map V.int))) H' ∧ H' b = some (.tup (((ms1.take i).foldl (J.behind sz) st).map V.int)))
     ⟨Nat.zero_le _, t, none, rfl, Same.refl _, aD⟩ (fun i σ H' _ ⟨_, _, _, _, s4, _⟩ => SqL.of (s4 _ _ er3)) ?_ ?_⟩
   · rintro i x σ H' hx ⟨hi, b, v, rfl, s4, hb⟩
     obtain ⟨m, hm, p, rfl, hmv⟩ := L2.Paired.get hp hx
     have s5 := s3.trans s4
     obtain ⟨dp, hpp⟩ := hmv.mono s5
     have hst' := aP6 hs hst (ms1.take i) (fun z hz => hok z (List.mem_of_mem_take hz))
     refine ⟨_, rfl, Z.cl m, p, dp, _, sW Z m, rfl, hpp, wZ m (by decide +kernel) (by decide +kernel) (by decide +kernel), _, rfl, _, rfl, ?_⟩
     by_cases hlt : i < ms1.length
     · have hm1 : ms1[i]? = some m := by rw [List.getElem?_append_left hlt] at hm; exact hm
       refine .inl ⟨p, q, b, sz, tap, _, m, rfl, hmv.mono s5, hh.mono s5, hb, hst', hok m (List.mem_of_getElem? hm1), fun r' H6 s6 e6 => ?_⟩
       refine ⟨hlt, r', _, rfl, s4.trans s6, ?_⟩
       rw [List.take_add_one, hm1]
       simpa using e6
     · have hi : i = ms1.length := by omega
       subst hi
       have hm1 : m0 = m := by rw [List.getElem?_append_right (Nat.le_refl _)] at hm; simpa using hm
       subst hm1
       exact .inr ⟨p, q, _, sz, tap, m0, rfl, hmv.mono s5, hh.mono s5, .inr ⟨b, _, rfl, hb, hst', hu, fun o H6 s6 => k o H6 (s5.trans s6)⟩⟩
   · rintro σ H' ⟨hi, _⟩
     have := hp.length
     rw [List.length_append, List.length_cons] at this
     omega
def oB (CB : Addr) : Sp := fun vs H _ E => ∃ v, vs = [v] ∧ nG H v ∧ ∀ o H', Same H H' → E (.ref CB) o H'
theorem wB (F : Fun K "sizes_in" "sizes_in" gQ f fd) (B : Bt mg) (hst : ∃ t, mg "MOST_STATES" = some (.int 2000 t)) (X : XC K mg "BadHouse" CB) (N : FnB P w K mg base 1 "is_number" ["value", "least", "most"] iK)
   (C : FnB P w K mg base 1 "count_states" ["sizes"] iY) : FnOk P w K mg base (CX1 P w) 2 f fd ["sizes"] (oB CB) := by
 obtain ⟨t4, e4⟩ := B.jugs
 obtain ⟨t60, e60⟩ := B.size
 obtain ⟨t2, e2⟩ := hst
 refine F.okX hG (fun vs H Q E h => ?_) (fun cdv A outer s H vs Q E hr h => ?_)
 · obtain ⟨v, rfl, _⟩ := h
   rfl
 · obtain ⟨v, rfl, hb, k⟩ := h
   refine ⟨_, aC (aT (bJ (bK (aQ bV (by rfl) B.isinstance aS (aA (pv 0) (aA (dL (v := .ty "list") (by rfl) B.list cQ rfl) aB))))) (aH (bX bdX xeX rfl X)) aL)
     (aC (aM (i := 1) hG.nd rfl (Or.inl rfl) (aR cF (by rfl) B.list cQ (aA (pv 0) aB)))
     (aC (aT (bJ (oO lP lP aE (aQ bC (by rfl) B.len PySem.boot_len (aA (pv 1) aB)) (bB (v := .int 4) (by rfl) e4 ⟨_, rfl⟩))) (aH (bX bdX xeX rfl X)) aL)
     (aC (cN wA rfl (dI (pv 1)) (bT (i := 2) hG.nd rfl (Or.inl rfl))
       (aH (aT (bJ (bK (aU N hr (aA (pv 2) (aA aE (aA (bB (v := .int 60) (by rfl) e60 ⟨_, rfl⟩) aB)))))) (aH (bX bdX xeX rfl X)) aL)))
     (aC (aT (aV aC4 (aU C hr (aA (pv 1) aB)) (bB (v := .int 2000) (by rfl) e2 ⟨_, rfl⟩) (nomark _)) (aH (bX bdX xeX rfl X)) aL)
     (aH (aP (pv 1))))))), ?_⟩
   rcases hb with ⟨t, kd, nt⟩ | ⟨l, xs, rfl, hl, him, hb⟩
   · exact ⟨_, rfl, _, _, _, _, _, rfl, .ty "list", kd.ty, yU kd (.inr rfl) nt, _, rfl, dR (k _ H (Same.refl _))⟩
   refine ⟨_, rfl, _, _, _, _, _, rfl, .ty "list", .lst hl, pU, _, rfl, cB ?_⟩
   refine ⟨_, rfl, l, _, rfl, .inl (SqL.of hl), fun r nr => ?_⟩
   have s1 : Same H (upd H r (.lst xs)) := Same.new nr
   refine ⟨_, rfl, r, _, rfl, .inl (SqL.of aD), _, _, rfl, rfl, _, rfl, ?_⟩
   by_cases h1 : xs.length = 0
   · rw [decide_eq_false (by omega)]
     exact cB ⟨_, rfl, dR (k _ _ s1)⟩
   rw [decide_eq_true (by omega)]
   refine dR ⟨_, _, rfl, rfl, _, rfl, ?_⟩
   by_cases h4 : 4 < xs.length
   · rw [decide_eq_false (by omega)]
     exact dR (k _ _ s1)
   rw [decide_eq_true (by omega)]
   refine cB ?_
   refine ⟨_, rfl, r, rfl, ⟨_, SqL.of aD⟩, cU (K := K) (a := r) (xs := xs) (fun i σ H' => (∃ v, σ = [some (.ref l), some (.ref r), v] ∧ H' = upd H r (.lst xs)) ∧ ∀ (j : Nat) x, j < i → xs[j]? = some x → cY x 1 60 = true)
     ⟨⟨none, rfl, rfl⟩, fun j x h => absurd h (Nat.not_lt_zero _)⟩ (fun i σ H' _ ⟨⟨_, _, e⟩, _⟩ => by subst e; exact SqL.of aD) ?_ ?_⟩
   · rintro i x σ H' hx ⟨⟨v, rfl, rfl⟩, ih⟩
     obtain ⟨tx, _, _, kx⟩ := him x (List.mem_of_getElem? hx)
     refine ⟨_, rfl, x, tx, 1, 60, rfl, kx _, _, rfl, ?_⟩
     cases hn : cY x 1 60 with
     | false => exact dR (k _ _ s1)
     | true =>
       refine cB ⟨⟨_, rfl, rfl⟩, fun j y hj ej => ?_⟩
       rcases Nat.lt_succ_iff_lt_or_eq.mp hj with hj | rfl
       · exact ih j y hj ej
       · rw [hx] at ej; cases ej; exact hn
   · rintro σ H' ⟨⟨v, rfl, rfl⟩, ih⟩
     rcases hb with hb | hb | ⟨x, hx, hb⟩ | ⟨sz, rfl, hbd, hb⟩
     · exact absurd hb h1
     · exact absurd hb h4
     · obtain ⟨j, hj⟩ := List.getElem?_of_mem hx
       rw [ih j x (List.getElem?_eq_some_iff.mp hj).1 hj] at hb
       cases hb
     · refine ⟨_, rfl, r, sz, rfl, aD, hbd, _, _, rfl, rfl, _, rfl, ?_⟩
       rw [decide_eq_true (by omega)]
       exact dR (k _ _ s1)
def jQ (CH CB : Addr) : Sp := fun vs H _ E => ∃ (p dx : Addr) (v u : V), vs = [.ref p, v, u] ∧ H p = some (.ins CH dx []) ∧ (nG H v ∨ ∃ l sz t, v = .ref l ∧ H l = some (.lst (sz.map V.int)) ∧ Hz sz ∧ Kd H u t ∧ t ≠ "bool") ∧
 ∀ o H', (∀ c o, H c = some o → c ≠ p → H' c = some o) → E (.ref CB) o H'
theorem sG (F : Fun K "__init__" "House.__init__" eN f fd) (B : Bt mg) (C : CHs K CH) (X : XC K mg "BadHouse" CB) (N : FnB P w K mg base 2 "sizes_in" ["sizes"] lT) (NX : FnX P w K mg base 2 "sizes_in" ["sizes"] (oB CB)) :
   FnOk P w K mg base (CX1 P w) 3 f fd ["self", "sizes", "tap"] (jQ CH CB) := by
 refine F.okX mX (fun vs H Q E h => ?_) (fun cdv A outer s H vs Q E hr h => ?_)
 · obtain ⟨p, dx, v, u, rfl, _⟩ := h
   rfl
 · obtain ⟨p, dx, v, u, rfl, hp, hb, k⟩ := h
   rcases hb with hb | ⟨l, sz, t, rfl, hl, hz, ku, nt⟩
   · refine ⟨_, aC (fL (pv 0) (aR aY (by rfl) B.tuple bP (aA (bI bdX xeX NX hr (aA (pv 1) aB)) aB)) rfl) aG, ?_⟩
     exact ⟨_, rfl, v, rfl, hb, fun o H' s' => k o H' fun c u e _ => s' c u e⟩
   refine ⟨_, aC (fL (pv 0) (aR aY (by rfl) B.tuple bP (aA (aU N hr (aA (pv 1) aB)) aB)) rfl)
     (aC (aT (bJ (bK (aQ bV (by rfl) B.isinstance aS (aA (pv 2) (aA (dL (v := .ty "bool") (by rfl) B.bool qX rfl) aB))))) (aH (bX bdX xeX rfl X)) aL) aG), ?_⟩
   refine ⟨_, rfl, l, sz, rfl, hl, hz, fun r H1 s1 hr1 => ?_⟩
   refine ⟨r, _, rfl, .inl ⟨SqL.of hr1, fun t' nt' => ?_⟩⟩
   have s2 : Same H (upd H1 t' (.tup (sz.map V.int))) := s1.lay nt'
   refine ⟨_, rfl, p, CH, dx, [], rfl, s2 _ _ hp, C.cl, C.js, (by show 0 < 1000; decide), ?_⟩
   have ku' : Kd (upd (upd H1 t' (.tup (sz.map V.int))) p (.ins CH dx (iF "jug_sizes" (.ref t') []))) u t := by
     cases ku with
     | non => exact .non
     | bl b => exact .bl b
     | int i => exact .int i
     | str x => exact .str x
     | lst e => exact .lst (by rw [aI (fun z => by rw [z, hp] at e; cases e)]; exact s2 _ _ e)
     | tup e => exact .tup (by rw [aI (fun z => by rw [z, hp] at e; cases e)]; exact s2 _ _ e)
   refine ⟨_, rfl, _, _, _, _, _, rfl, .ty "bool", ku'.ty, aY4 ku nt, _, rfl, dR ?_⟩
   exact k _ _ fun c o e hc => by rw [aI hc]; exact s2 _ _ e
def jP (CH CS : Addr) : Sp := fun vs H _ E => ∃ p sz tap v, vs = [.ref p, v] ∧ House CH H p sz tap ∧ jZ H sz v ∧ ∀ o H', Same H H' → E (.ref CS) o H'
theorem aM0 (F : Fun K "ways_from" "ways_from" fB f fd) (B : Bt mg) (NX : FnX P w K mg base 2 "held_in" ["house", "state"] (dZ CH CS)) : FnOk P w K mg base (CX1 P w) 8 f fd ["house", "state"] (jP CH CS) := by
 refine F.okX cD (fun vs H Q E h => ?_) (fun cdv A outer s H vs Q E hr h => ?_)
 · obtain ⟨p, sz, tap, v, rfl, _⟩ := h
   rfl
 · obtain ⟨p, sz, tap, v, rfl, hh, hb, k⟩ := h
   refine ⟨_, aC (aM (i := 2) cD.nd rfl (Or.inl rfl) (aR aY (by rfl) B.tuple bP (aA (bI bdX xeX NX (hr.mono (by decide)) (aA (pv 0) (aA (pv 1) aB))) aB))) aG, ?_⟩
   exact ⟨_, rfl, _, rfl, p, sz, tap, v, rfl, hh, hb, fun H' s' => k _ H' s'⟩
theorem xZ (F : Fun K "reached" "reached" iL f fd) (hs : mg "sorted" = none) (WX : FnX P w K mg base 8 "ways_from" ["house", "state"] (jP CH CS)) : FnOk P w K mg base (CX1 P w) 9 f fd ["house", "state"] (jP CH CS) := by
 refine F.okX rK (fun vs H Q E h => ?_) (fun cdv A outer s H vs Q E hr h => ?_)
 · obtain ⟨p, sz, tap, v, rfl, _⟩ := h
   rfl
 · obtain ⟨p, sz, tap, v, rfl, hh, hb, k⟩ := h
   refine ⟨_, aH (aP (aQ (qH rfl) (by rfl) hs vK (aA (bI bdX xeX WX hr (aA (pv 0) (aA (pv 1) aB))) aB))), ?_⟩
   exact ⟨_, rfl, _, rfl, p, sz, tap, v, rfl, hh, hb, k⟩
theorem wD (F : Fun K "measured" "measured" iM f fd) (WX : FnX P w K mg base 8 "ways_from" ["house", "state"] (jP CH CS)) : FnOk P w K mg base (CX1 P w) 9 f fd ["house", "state"] (jP CH CS) := by
 refine F.okX mC (fun vs H Q E h => ?_) (fun cdv A outer s H vs Q E hr h => ?_)
 · obtain ⟨p, sz, tap, v, rfl, _⟩ := h
   rfl
 · obtain ⟨p, sz, tap, v, rfl, hh, hb, k⟩ := h
   refine ⟨_, aC (aM (i := 2) mC.nd rfl (Or.inl rfl) aL6)
     (aC (cN wA rfl (aV0 (bI bdX xeX WX hr (aA (pv 0) (aA (pv 1) aB)))) (bT (i := 3) mC.nd rfl (Or.inl rfl)) aG) aG), ?_⟩
   intro am nam
   have s1 : Same H (upd H am (.dK [])) := Same.new nam
   exact ⟨_, rfl, _, rfl, p, sz, tap, v, rfl, hh.mono s1, hb.mono s1, fun o H' s' => k o H' (s1.trans s')⟩
def xP (CH CS : Addr) : Sp := fun vs H _ E => ∃ p sz tap v u, vs = [.ref p, v, u] ∧ House CH H p sz tap ∧ (jZ H sz v ∨ ∃ a st, v = .ref a ∧ H a = some (.tup (st.map V.int)) ∧ J.IsSt sz st ∧ jZ H sz u) ∧ ∀ o H', Same H H' → E (.ref CS) o H'
theorem aM1 (F : Fun K "tied" "tied" pM f fd) (B : Bt mg) (N : FnB P w K mg base 2 "held_in" ["house", "state"] (dO CH)) (NX : FnX P w K mg base 2 "held_in" ["house", "state"] (dZ CH CS)) : FnOk P w K mg base (CX1 P w) 9 f fd ["house", "one", "other"] (xP CH CS) := by
 refine F.okX qQ (fun vs H Q E h => ?_) (fun cdv A outer s H vs Q E hr h => ?_)
 · obtain ⟨p, sz, tap, v, u, rfl, _⟩ := h
   rfl
 · obtain ⟨p, sz, tap, v, u, rfl, hh, hb, k⟩ := h
   have hr2 : Room 2 _ := hr.mono (by decide)
   rcases hb with hb | ⟨a, st, rfl, ha, hst, hb⟩
   · refine ⟨_, aC (aM (i := 3) qQ.nd rfl (Or.inl rfl) (aR aY (by rfl) B.tuple bP (aA (bI bdX xeX NX hr2 (aA (pv 0) (aA (pv 1) aB))) aB))) aG, ?_⟩
     exact ⟨_, rfl, _, rfl, p, sz, tap, v, rfl, hh, hb, fun H' s' => k _ H' s'⟩
   · refine ⟨_, aC (aM (i := 3) qQ.nd rfl (Or.inl rfl) (aR aY (by rfl) B.tuple bP (aA (aU N hr2 (aA (pv 0) (aA (pv 1) aB))) aB)))
       (aC (aM (i := 4) qQ.nd rfl (Or.inl rfl) (aR aY (by rfl) B.tuple bP (aA (bI bdX xeX NX hr2 (aA (pv 0) (aA (pv 2) aB))) aB))) aG), ?_⟩
     refine ⟨_, rfl, _, rfl, p, sz, tap, a, st, rfl, hh, ha, hst, fun y H1 s1 ny ey => ⟨y, _, rfl, .inl ⟨SqL.of ey, fun t nt => ?_⟩⟩⟩
     have s2 : Same H (upd H1 t (.tup (st.map V.int))) := s1.lay nt
     exact ⟨_, rfl, _, rfl, p, sz, tap, u, rfl, hh.mono s2, hb.mono s2, fun H' s' => k _ H' (s2.trans s')⟩
theorem pS (F : Fun K "routine_text" "routine_text" dU f fd) (IX : FnX P w K mg base 1 "moves_in" ["moves"] (fV Z CB)) : FnOk P w K mg base (CX1 P w) 2 f fd ["moves"] (fV Z CB) := by
 refine F.okX lL (fun vs H Q E h => ?_) (fun cdv A outer s H vs Q E hr h => ?_)
 · obtain ⟨v, rfl, _⟩ := h
   rfl
 · obtain ⟨v, rfl, hb, k⟩ := h
   refine ⟨_, aH (aP (aS4 iG (aC0 lL [] (dI (bI bdX xeX IX hr (aA (pv 0) aB))) (fun _ _ _ _ _ _ => ⟨qS, rW⟩)))), ?_⟩
   exact ⟨rfl, _, rfl, v, rfl, hb, k⟩
end
end Jug
namespace Jug
open PySem L2
structure NoGo (K : W.Frag) (G : Gz) : Prop where
 n1 : W.kitAny K (.type "NoneType") [.ref G.H, .ref G.S, .ref G.U, .ref G.W] = some false
 n2 : W.kitAny K (.type "bool") [.ref G.H, .ref G.S, .ref G.U, .ref G.W] = some false
 n3 : W.kitAny K (.type "int") [.ref G.H, .ref G.S, .ref G.U, .ref G.W] = some false
 n4 : W.kitAny K (.type "str") [.ref G.H, .ref G.S, .ref G.U, .ref G.W] = some false
 n5 : W.kitAny K (.type "list") [.ref G.H, .ref G.S, .ref G.U, .ref G.W] = some false
 n6 : W.kitAny K (.type "tuple") [.ref G.H, .ref G.S, .ref G.U, .ref G.W] = some false
theorem NoGo.of {K : W.Frag} {G : Gz} (N : NoGo K G) {H : Hp} {v : V} {t : String} (k : Kd H v t) : W.kitAny K (.type t) [.ref G.H, .ref G.S, .ref G.U, .ref G.W] = some false := by
 cases k with
 | non => exact N.n1
 | bl b => exact N.n2
 | int i => exact N.n3
 | str x => exact N.n4
 | lst e => exact N.n5
 | tup e => exact N.n6
def tI (H : Hp) (v : V) : Prop := (∃ t, Kd H v t ∧ t ≠ "list") ∨ ∃ l xs, v = .ref l ∧ H l = some (.lst xs) ∧ (∀ x ∈ xs, ∃ t, Kd H x t) ∧
 ((∃ x ∈ xs, cY x 0 3 = false) ∨ ∃ js : List Int, xs = js.map V.int ∧ js.length < 1000 ∧ (js = [] ∨ (PyProof.Rows.firstMet (fun i => js.getD i 0) js.length).length ≠ js.length))
theorem tI.mono {H H' : Hp} {v : V} (h : tI H v) (s : Same H H') : tI H' v := by
 rcases h with ⟨t, k, n⟩ | ⟨l, xs, e, hl, hk, r⟩
 · exact .inl ⟨t, k.mono s, n⟩
 · exact .inr ⟨l, xs, e, s _ _ hl, fun x hx => let ⟨t, k⟩ := hk x hx; ⟨t, k.mono s⟩, r⟩
def tJ (H : Hp) (v : V) : Prop := (∃ t, Kd H v t ∧ t ≠ "tuple") ∨ ∃ l xs, v = .ref l ∧ H l = some (.tup xs) ∧ (∀ x ∈ xs, ∃ t, Kd H x t) ∧ (xs.length = 0 ∨ 4 < xs.length ∨ ∃ x ∈ xs, cY x 0 60 = false)
theorem tJ.mono {H H' : Hp} {v : V} (h : tJ H v) (s : Same H H') : tJ H' v := by
 rcases h with ⟨t, k, n⟩ | ⟨l, xs, e, hl, hk, r⟩
 · exact .inl ⟨t, k.mono s, n⟩
 · exact .inr ⟨l, xs, e, s _ _ hl, fun x hx => let ⟨t, k⟩ := hk x hx; ⟨t, k.mono s⟩, r⟩
def Go.unfit (sz : List Int) : Go → Prop
 | .holds j _ => sz.length ≤ j
 | .som _ => False
 | .sum js _ => (∀ j ∈ js, 0 ≤ j) ∧ ∃ j ∈ js, (sz.length : Int) ≤ j
 | .whole t => uH (t.map V.int) sz = false
section
variable {P : Program} {w : World} {K : W.Frag} {mg : Str → Option Value} {base : Heap} {CH CS CB CG : Addr} {Z : Cz} {G : Gz}
def pZ (CB : Addr) : Sp := fun vs H _ E => ∃ v, vs = [v] ∧ tI H v ∧ ∀ o H', Same H H' → E (.ref CB) o H'
theorem yC (F : Fun K "jugs_in" "jugs_in" iN f fd) (B : Bt mg) (hs : mg "set" = none) (X : XC K mg "BadGoal" CB)
   (N : FnX P w K mg base 3 "check_jug_goals" ["jug"] (fun vs H Q E => cS vs H Q E ∨ dS CB 0 3 vs H Q E)) : FnOk P w K mg base (CX1 P w) 4 f fd ["jugs"] (pZ CB) := by
 refine F.okX lA (fun vs H Q E h => ?_) (fun cdv A outer s H vs Q E hr h => ?_)
 · obtain ⟨v, rfl, _⟩ := h
   rfl
 · obtain ⟨v, rfl, hb, k⟩ := h
   have nd := lA.nd
   refine ⟨_, aC (aT (bJ (bK (aQ bV (by rfl) B.isinstance aS (aA (pv 0) (aA (dL (v := .ty "list") (by rfl) B.list cQ rfl) aB))))) (aH (bX bdX xeX rfl X)) aL)
     (aC (aM (i := 1) nd rfl (Or.inl rfl) (aR cF (by rfl) B.list cQ (aA (pv 0) aB)))
     (aC (cN wA rfl (dI (pv 1)) (bT (i := 2) nd rfl (Or.inl rfl))
       (aH (aW (bI bdX xeX N hr (aA (pv 2) aB)))))
     (aC (aT (aV cT (aQ bC (by rfl) B.len PySem.boot_len (aA (pv 1) aB)) aE (nomark _)) (aH (bX bdX xeX rfl X)) aL)
     (aC (aT (aV vB (zL rfl (by rfl) B.len (by rfl) hs (pv 1)) (aQ bC (by rfl) B.len PySem.boot_len (aA (pv 1) aB)) (nomark _)) (aH (bX bdX xeX rfl X)) aL)
     (aH (aP (pv 1))))))), ?_⟩
   rcases hb with ⟨t, kd, nt⟩ | ⟨l, xs, rfl, hl, hk, hb⟩
   · exact ⟨_, rfl, _, _, _, _, _, rfl, .ty "list", kd.ty, yU kd (.inr rfl) nt, _, rfl, dR (k _ H (Same.refl _))⟩
   refine ⟨_, rfl, _, _, _, _, _, rfl, .ty "list", .lst hl, pU, _, rfl, cB ?_⟩
   refine ⟨_, rfl, l, _, rfl, .inl (SqL.of hl), fun r nr => ?_⟩
   have s1 : Same H (upd H r (.lst xs)) := Same.new nr
   refine ⟨_, rfl, r, rfl, ⟨_, SqL.of aD⟩, cU (K := K) (a := r) (xs := xs) (fun i σ H' => (∃ v, σ = [some (.ref l), some (.ref r), v] ∧ H' = upd H r (.lst xs)) ∧ ∀ (j : Nat) x, j < i → xs[j]? = some x → cY x 0 3 = true)
     ⟨⟨none, rfl, rfl⟩, fun j x h => absurd h (Nat.not_lt_zero _)⟩ (fun i σ H' _ ⟨⟨_, _, e⟩, _⟩ => by subst e; exact SqL.of aD) ?_ ?_⟩
   · rintro i x σ H' hx ⟨⟨v, rfl, rfl⟩, ih⟩
     obtain ⟨t, kx⟩ := hk x (List.mem_of_getElem? hx)
     refine ⟨_, rfl, ?_⟩
     cases hn : cY x 0 3 with
     | false => exact .inr ⟨x, t, rfl, kx.mono s1, hn, k _ _ s1⟩
     | true =>
       cases x with
       | int z =>
         have hn' : (decide (0 ≤ z) && decide (z ≤ 3)) = true := hn
         rw [Bool.and_eq_true, decide_eq_true_iff, decide_eq_true_iff] at hn'
         obtain ⟨j, rfl⟩ : ∃ j : Nat, z = (j : Int) := ⟨z.toNat, (Int.toNat_of_nonneg hn'.1).symm⟩
         refine .inl ⟨j, rfl, by omega, ⟨_, rfl, rfl⟩, fun j' y hj ej => ?_⟩
         rcases Nat.lt_succ_iff_lt_or_eq.mp hj with hj | rfl
         · exact ih j' y hj ej
         · rw [hx] at ej; cases ej; exact hn
       | _ => cases hn
   · rintro σ H' ⟨⟨v, rfl, rfl⟩, ih⟩
     rcases hb with ⟨x, hx, hb⟩ | ⟨js, rfl, hlt, hb⟩
     · obtain ⟨j, hj⟩ := List.getElem?_of_mem hx
       rw [ih j x (List.getElem?_eq_some_iff.mp hj).1 hj] at hb
       cases hb
     · refine ⟨_, rfl, r, _, rfl, .inl (SqL.of aD), rfl, _, rfl, ?_⟩
       by_cases h0 : js = []
       · rw [aQ5, decide_eq_true (by rw [h0]; rfl)]
         exact dR (k _ _ s1)
       · rw [aQ5, decide_eq_false (by rw [List.length_map]; intro e; exact h0 (List.length_eq_zero_iff.mp (by omega)))]
         refine cB ?_
         refine ⟨_, rfl, r, js, rfl, SqL.of aD, hlt, ?_⟩
         have hb := hb.resolve_left h0
         refine ⟨_, rfl, r, _, rfl, .inl (SqL.of aD), rfl, _, rfl, aV2 (fun e => hb ?_) (k _ _ s1)⟩
         have e : ((PyProof.Rows.firstMet (fun i => js.getD i 0) js.length).length : Int) = (js.length : Int) := by simpa using e
         omega
def lY (CB : Addr) : Sp := fun vs H _ E => ∃ v, vs = [v] ∧ tJ H v ∧ ∀ o H', Same H H' → E (.ref CB) o H'
theorem sD (F : Fun K "amounts_in" "amounts_in" eI f fd) (B : Bt mg) (X : XC K mg "BadGoal" CB) (N : FnB P w K mg base 1 "is_number" ["value", "least", "most"] iK) : FnOk P w K mg base (CX1 P w) 2 f fd ["state"] (lY CB) := by
 obtain ⟨t4, e4⟩ := B.jugs
 obtain ⟨t60, e60⟩ := B.size
 refine F.okX iS (fun vs H Q E h => ?_) (fun cdv A outer s H vs Q E hr h => ?_)
 · obtain ⟨v, rfl, _⟩ := h
   rfl
 · obtain ⟨v, rfl, hb, k⟩ := h
   have nd := iS.nd
   refine ⟨_, aC (aT (bJ (bK (aQ bV (by rfl) B.isinstance aS (aA (pv 0) (aA (dL (v := .ty "tuple") (by rfl) B.tuple bP rfl) aB))))) (aH (bX bdX xeX rfl X)) aL)
     (aC (aM (i := 1) nd rfl (Or.inl rfl) (aR cF (by rfl) B.list cQ (aA (pv 0) aB)))
     (aC (aT (bJ (oO lP lP aE (aQ bC (by rfl) B.len PySem.boot_len (aA (pv 1) aB)) (bB (v := .int 4) (by rfl) e4 ⟨_, rfl⟩))) (aH (bX bdX xeX rfl X)) aL)
     (aC (cN wA rfl (dI (pv 1)) (bT (i := 2) nd rfl (Or.inl rfl))
       (aH (aT (bJ (bK (aU N hr (aA (pv 2) (aA aE (aA (bB (v := .int 60) (by rfl) e60 ⟨_, rfl⟩) aB)))))) (aH (bX bdX xeX rfl X)) aL)))
     (aH (aP (pv 1)))))), ?_⟩
   rcases hb with ⟨t, kd, nt⟩ | ⟨l, xs, rfl, hl, hk, hb⟩
   · exact ⟨_, rfl, _, _, _, _, _, rfl, .ty "tuple", kd.ty, yU kd (.inl rfl) nt, _, rfl, dR (k _ H (Same.refl _))⟩
   refine ⟨_, rfl, _, _, _, _, _, rfl, .ty "tuple", .tup hl, wT, _, rfl, cB ?_⟩
   refine ⟨_, rfl, l, _, rfl, .inr (SqT.of hl), fun r nr => ?_⟩
   have s1 : Same H (upd H r (.lst xs)) := Same.new nr
   refine ⟨_, rfl, r, _, rfl, .inl (SqL.of aD), _, _, rfl, rfl, _, rfl, ?_⟩
   by_cases h1 : xs.length = 0
   · rw [decide_eq_false (by omega)]
     exact cB ⟨_, rfl, dR (k _ _ s1)⟩
   rw [decide_eq_true (by omega)]
   refine dR ⟨_, _, rfl, rfl, _, rfl, ?_⟩
   by_cases h4 : 4 < xs.length
   · rw [decide_eq_false (by omega)]
     exact dR (k _ _ s1)
   rw [decide_eq_true (by omega)]
   refine cB ?_
   refine ⟨_, rfl, r, rfl, ⟨_, SqL.of aD⟩, cU (K := K) (a := r) (xs := xs) (fun i σ H' => (∃ v, σ = [some (.ref l), some (.ref r), v] ∧ H' = upd H r (.lst xs)) ∧ ∀ (j : Nat) x, j < i → xs[j]? = some x → cY x 0 60 = true)
     ⟨⟨none, rfl, rfl⟩, fun j x h => absurd h (Nat.not_lt_zero _)⟩ (fun i σ H' _ ⟨⟨_, _, e⟩, _⟩ => by subst e; exact SqL.of aD) ?_ ?_⟩
   · rintro i x σ H' hx ⟨⟨v, rfl, rfl⟩, ih⟩
     obtain ⟨t, kx⟩ := hk x (List.mem_of_getElem? hx)
     refine ⟨_, rfl, x, t, 0, 60, rfl, kx.mono s1, _, rfl, ?_⟩
     cases hn : cY x 0 60 with
     | false => exact dR (k _ _ s1)
     | true =>
       refine cB ⟨⟨_, rfl, rfl⟩, fun j y hj ej => ?_⟩
       rcases Nat.lt_succ_iff_lt_or_eq.mp hj with hj | rfl
       · exact ih j y hj ej
       · rw [hx] at ej; cases ej; exact hn
   · rintro σ H' ⟨⟨v, rfl, rfl⟩, ih⟩
     rcases hb with hb | hb | ⟨x, hx, hb⟩
     · exact absurd hb h1
     · exact absurd hb h4
     · obtain ⟨j, hj⟩ := List.getElem?_of_mem hx
       rw [ih j x (List.getElem?_eq_some_iff.mp hj).1 hj] at hb
       cases hb
def jR (CB : Addr) : Sp := fun vs H _ E => ∃ p v u tv tu, vs = [.ref p, v, u] ∧ Kd H v tv ∧ Kd H u tu ∧ (cY v 0 3 = false ∨ ∃ a : Nat, v = .int a ∧ a ≤ 3 ∧ cY u 0 240 = false) ∧ ∀ o H', Same H H' → E (.ref CB) o H'
theorem sH (F : Fun K "__init__" "Holds.__init__" eO f fd) (N : FnB P w K mg base 3 "check_jug_goals" ["jug"] cS) (NX : FnX P w K mg base 3 "check_jug_goals" ["jug"] (dS CB 0 3)) (MX : FnX P w K mg base 2 "check_amount" ["many"] (dS CB 0 240)) :
   FnOk P w K mg base (CX1 P w) 4 f fd ["self", "jug", "many"] (jR CB) := by
 refine F.okX mY (fun vs H Q E h => ?_) (fun cdv A outer s H vs Q E hr h => ?_)
 · obtain ⟨p, v, u, tv, tu, rfl, _⟩ := h
   rfl
 · obtain ⟨p, v, u, tv, tu, rfl, kv, ku, hb, k⟩ := h
   rcases hb with hb | ⟨a, rfl, ha, hb⟩
   · exact ⟨_, aC (aW (bI bdX xeX NX hr (aA (pv 1) aB))) aG, _, rfl, v, tv, rfl, kv, hb, k _ H (Same.refl _)⟩
   · refine ⟨_, aC (aW (aU N hr (aA (pv 1) aB))) (aC (aW (bI bdX xeX MX (hr.mono (by decide)) (aA (pv 2) aB))) aG), ?_⟩
     exact ⟨_, rfl, a, rfl, ha, _, rfl, u, tu, rfl, ku, hb, k _ H (Same.refl _)⟩
def kI (CB : Addr) : Sp := fun vs H _ E => ∃ p v tv, vs = [.ref p, v] ∧ Kd H v tv ∧ cY v 0 240 = false ∧ ∀ o H', Same H H' → E (.ref CB) o H'
theorem uA (F : Fun K "__init__" "Some.__init__" fE f fd) (MX : FnX P w K mg base 2 "check_amount" ["many"] (dS CB 0 240)) : FnOk P w K mg base (CX1 P w) 3 f fd ["self", "many"] (kI CB) := by
 refine F.okX oK (fun vs H Q E h => ?_) (fun cdv A outer s H vs Q E hr h => ?_)
 · obtain ⟨p, v, tv, rfl, _⟩ := h
   rfl
 · obtain ⟨p, v, tv, rfl, kv, hb, k⟩ := h
   exact ⟨_, aC (aW (bI bdX xeX MX hr (aA (pv 1) aB))) aG, _, rfl, v, tv, rfl, kv, hb, k _ H (Same.refl _)⟩
theorem Kd.off {H H' : Hp} {p dx C : Addr} {fs : List (Str × V)} {v : V} {t : String} (k : Kd H v t) (hp : H p = some (.ins C dx fs)) (s : ∀ c o, H c = some o → c ≠ p → H' c = some o) : Kd H' v t := by
 cases k with
 | non => exact .non
 | bl b => exact .bl b
 | int i => exact .int i
 | str x => exact .str x
 | lst e => exact .lst (s _ _ e (fun z => by rw [z, hp] at e; cases e))
 | tup e => exact .tup (s _ _ e (fun z => by rw [z, hp] at e; cases e))
def jG (G : Gz) (CB : Addr) : Sp := fun vs H _ E => ∃ (p dx : Addr) (v u : V), vs = [.ref p, v, u] ∧ H p = some (.ins G.U dx []) ∧ (tI H v ∨ ∃ (l : Addr) (js : List Int) (t : String), v = .ref l ∧ H l = some (.lst (js.map V.int)) ∧ js.Nodup ∧ 1 ≤ js.length ∧ js.length ≤ 4 ∧ (∀ j ∈ js, 0 ≤ j ∧ j ≤ 3) ∧ Kd H u t ∧ cY u 0 240 = false) ∧
 ∀ o H', (∀ c o, H c = some o → c ≠ p → H' c = some o) → E (.ref CB) o H'
theorem wI (F : Fun K "__init__" "Sum.__init__" gX f fd) (B : Bt mg) (C : CSu K G.U) (N : FnB P w K mg base 4 "jugs_in" ["jugs"] nJ) (NX : FnX P w K mg base 4 "jugs_in" ["jugs"] (pZ CB)) (MX : FnX P w K mg base 2 "check_amount" ["many"] (dS CB 0 240)) :
   FnOk P w K mg base (CX1 P w) 5 f fd ["self", "jugs", "many"] (jG G CB) := by
 refine F.okX qB (fun vs H Q E h => ?_) (fun cdv A outer s H vs Q E hr h => ?_)
 · obtain ⟨p, dx, v, u, rfl, _⟩ := h
   rfl
 · obtain ⟨p, dx, v, u, rfl, hp, hb, k⟩ := h
   rcases hb with hb | ⟨l, js, t, rfl, hl, hnd, l1, l4, hbj, ku, hu⟩
   · refine ⟨_, aC (fL (pv 0) (aR aY (by rfl) B.tuple bP (aA (bI bdX xeX NX hr (aA (pv 1) aB)) aB)) rfl) aG, ?_⟩
     exact ⟨_, rfl, v, rfl, hb, fun o H' s' => k o H' fun c u e _ => s' c u e⟩
   refine ⟨_, aC (fL (pv 0) (aR aY (by rfl) B.tuple bP (aA (aU N hr (aA (pv 1) aB)) aB)) rfl)
     (aC (aW (bI bdX xeX MX (hr.mono (by decide)) (aA (pv 2) aB))) aG), ?_⟩
   refine ⟨_, rfl, l, js, rfl, hl, hnd, l1, l4, hbj, fun r H1 s1 hr1 => ?_⟩
   refine ⟨r, _, rfl, .inl ⟨SqL.of hr1, fun t' nt' => ?_⟩⟩
   have s2 : Same H (upd H1 t' (.tup (js.map V.int))) := s1.lay nt'
   refine ⟨_, rfl, p, G.U, dx, [], rfl, s2 _ _ hp, C.cl, C.jugs, (by show 0 < 1000; decide), ?_⟩
   have off : ∀ c o, H c = some o → c ≠ p → (upd (upd H1 t' (.tup (js.map V.int))) p (.ins G.U dx (iF "jugs" (.ref t') []))) c = some o := fun c o e hc => by rw [aI hc]; exact s2 _ _ e
   exact ⟨_, rfl, u, t, rfl, ku.off hp off, hu, k _ _ off⟩
def iB (CB : Addr) : Sp := fun vs H _ E => ∃ p v, vs = [.ref p, v] ∧ tJ H v ∧ ∀ o H', Same H H' → E (.ref CB) o H'
theorem sE (F : Fun K "__init__" "Whole.__init__" eJ f fd) (B : Bt mg) (NX : FnX P w K mg base 2 "amounts_in" ["state"] (lY CB)) : FnOk P w K mg base (CX1 P w) 3 f fd ["self", "state"] (iB CB) := by
 refine F.okX mW (fun vs H Q E h => ?_) (fun cdv A outer s H vs Q E hr h => ?_)
 · obtain ⟨p, v, rfl, _⟩ := h
   rfl
 · obtain ⟨p, v, rfl, hb, k⟩ := h
   refine ⟨_, aH (fL (pv 0) (aR aY (by rfl) B.tuple bP (aA (bI bdX xeX NX hr (aA (pv 1) aB)) aB)) rfl), ?_⟩
   exact ⟨_, rfl, v, rfl, hb, k⟩
def oA (CH CG : Addr) : Sp := fun vs H _ E => ∃ p sz tap v, vs = [.ref p, v] ∧ House CH H p sz tap ∧ jZ H sz v ∧ ∀ o H', Same H H' → E (.ref CG) o H'
theorem nS (F : Fun K "check_state_of" "check_state_of" cR f fd) (XS : XC K mg "BadState" CS) (XG : XC K mg "BadGoal" CG) (hss : lS K CS CS = true) (NX : FnX P w K mg base 2 "held_in" ["house", "state"] (dZ CH CS)) :
   FnOk P w K mg base (CX1 P w) 3 f fd ["house", "state"] (oA CH CG) := by
 refine F.okX kD (fun vs H Q E h => ?_) (fun cdv A outer s H vs Q E hr h => ?_)
 · obtain ⟨p, sz, tap, v, rfl, _⟩ := h
   rfl
 · obtain ⟨p, sz, tap, v, rfl, hh, hb, k⟩ := h
   refine ⟨_, aH (vX bdX xeX (xV (bC4 NX hr (fun _ => aA (pv 0) (aA (pv 1) aB)))) XS XG), ?_⟩
   exact ⟨_, rfl, _, rfl, p, sz, tap, v, rfl, hh, hb, fun H' s' => ⟨CS, rfl, rfl, XS.ex, hss, fun x => k _ H' s'⟩⟩
end
end Jug
namespace Jug
open PySem L2
section
variable {P : Program} {w : World} {K : W.Frag} {mg : Str → Option Value} {base : Heap} {CH CS CB CG : Addr} {Z : Cz} {G : Gz}
def mI (G : Gz) (CH CB : Addr) (n : Nat) : Sp := fun vs H _ E => ∃ p h l sz tap g, vs = [.ref p, .ref h, .ref l] ∧ g.num = n ∧ gJ G H p g ∧ House CH H h sz tap ∧ g.unfit sz ∧ ∀ o H', Same H H' → E (.ref CB) o H'
theorem uD (F : Fun K "met_by" "Holds.met_by" dH f fd) (C : CHo K G.H) (NX : FnX P w K mg base 2 "check_house_has_goals" ["house", "jug"] (eT CH CB)) :
   FnOk P w K mg base (CX1 P w) 3 f fd ["self", "house", "held"] (mI G CH CB 0) := by
 refine F.okX lO (fun vs H Q E h => ?_) (fun cdv A outer s H vs Q E hr h => ?_)
 · obtain ⟨p, h, l, sz, tap, g, rfl, _⟩ := h
   rfl
 · obtain ⟨p, h, l, sz, tap, g, rfl, hn, hg, hh, hu, k⟩ := h
   cases g with
   | holds j m =>
     obtain ⟨dx, hp⟩ := hg
     refine ⟨_, aC (aW (bI bdX xeX NX hr (aA (pv 1) (aA (bR (pv 0) rfl) aB)))) aG, ?_⟩
     exact ⟨_, rfl, _, rfl, p, G.H, dx, _, _, rfl, hp, C.cl, C.jug, wY _ _, h, sz, tap, j, rfl, hh, hu, fun H1 s1 => k _ H1 s1⟩
   | som m => cases hn
   | sum js m => cases hn
   | whole t => cases hn
theorem tY (F : Fun K "met_by" "Whole.met_by" dG f fd) (C : CWh K G.W) (NX : FnX P w K mg base 3 "check_state_of" ["house", "state"] (oA CH CB)) :
   FnOk P w K mg base (CX1 P w) 4 f fd ["self", "house", "held"] (mI G CH CB 3) := by
 refine F.okX lN (fun vs H Q E h => ?_) (fun cdv A outer s H vs Q E hr h => ?_)
 · obtain ⟨p, h, l, sz, tap, g, rfl, _⟩ := h
   rfl
 · obtain ⟨p, h, l, sz, tap, g, rfl, hn, hg, hh, hu, k⟩ := h
   cases g with
   | whole t =>
     obtain ⟨dx, a, hp, ha⟩ := hg
     refine ⟨_, aC (aW (bI bdX xeX NX hr (aA (pv 1) (aA (bR (pv 0) rfl) aB)))) aG, ?_⟩
     refine ⟨_, rfl, _, rfl, p, G.W, dx, _, _, rfl, hp, C.cl, C.state, oZ _, h, sz, tap, .ref a, rfl, hh, .inr ⟨a, _, rfl, ha, fun x hx => ?_, hu⟩, k⟩
     obtain ⟨z, _, rfl⟩ := List.mem_map.mp hx
     exact .int z
   | holds j m => cases hn
   | som m => cases hn
   | sum js m => cases hn
theorem yF (F : Fun K "met_by" "Sum.met_by" eK f fd) (C : CSu K G.U) (N : FnX P w K mg base 2 "check_house_has_goals" ["house", "jug"] (fun vs H Q E => bQ CH vs H Q E ∨ eT CH CB vs H Q E)) :
   FnOk P w K mg base (CX1 P w) 3 f fd ["self", "house", "held"] (mI G CH CB 2) := by
 refine F.okX gI (fun vs H Q E h => ?_) (fun cdv A outer s H vs Q E hr h => ?_)
 · obtain ⟨p, h, l, sz, tap, g, rfl, _⟩ := h
   rfl
 · obtain ⟨p, h, l, sz, tap, g, rfl, hn, hg, hh, hu, k⟩ := h
   cases g with
   | sum js m =>
     obtain ⟨dx, a, hp, ha⟩ := hg
     obtain ⟨h0, j0, hj0, hb0⟩ := hu
     have nd := gI.nd
     refine ⟨_, aC (cN wA rfl (vY (bR (pv 0) rfl)) (bT (i := 3) nd rfl (Or.inl rfl)) (aH (aW (bI bdX xeX N hr (aA (pv 1) (aA (pv 3) aB)))))) aG, ?_⟩
     refine ⟨_, rfl, p, G.U, dx, _, _, rfl, hp, C.cl, C.jugs, rD _ _, a, rfl, ⟨_, SqT.of ha⟩, xA (K := K) (a := a) (xs := js.map V.int) (fun i σ H' => (∃ v, σ = [some (.ref p), some (.ref h), some (.ref l), v] ∧ Same H H') ∧ ∀ (n : Nat) z, n < i → js[n]? = some z → z < sz.length)
       ⟨⟨none, rfl, Same.refl _⟩, fun n z h => absurd h (Nat.not_lt_zero _)⟩ (fun i σ H' _ ⟨⟨_, _, s1⟩, _⟩ => SqT.of (s1 _ _ ha)) ?_ ?_⟩
     · rintro i x σ H' hx ⟨⟨v, rfl, s1⟩, ih⟩
       obtain ⟨z, ez, rfl⟩ := fQ hx
       obtain ⟨j, rfl⟩ : ∃ j : Nat, z = (j : Int) := ⟨z.toNat, (Int.toNat_of_nonneg (h0 z (List.mem_of_getElem? ez))).symm⟩
       refine ⟨_, rfl, _, rfl, ?_⟩
       by_cases hj : j < sz.length
       · refine .inl ⟨h, sz, tap, j, rfl, hh.mono s1, hj, fun H2 s2 => ⟨⟨_, rfl, s1.trans s2⟩, fun n z hn en => ?_⟩⟩
         rcases Nat.lt_succ_iff_lt_or_eq.mp hn with hn | rfl
         · exact ih n z hn en
         · rw [ez] at en; cases en; omega
       · exact .inr ⟨h, sz, tap, j, rfl, hh.mono s1, by omega, fun H2 s2 => k _ H2 (s1.trans s2)⟩
     · rintro σ H' ⟨_, ih⟩
       obtain ⟨n, hn⟩ := List.getElem?_of_mem hj0
       have := ih n j0 (by rw [List.length_map]; exact (List.getElem?_eq_some_iff.mp hn).1) hn
       omega
   | holds j m => cases hn
   | som m => cases hn
   | whole t => cases hn
def oE (G : Gz) (CH CS CB : Addr) : Sp := fun vs H _ E => ∃ p h v sz tap g, vs = [.ref p, .ref h, v] ∧ gJ G H p g ∧ House CH H h sz tap ∧
 ((jZ H sz v ∧ ∀ o H', Same H H' → E (.ref CS) o H') ∨ ∃ a st, v = .ref a ∧ H a = some (.tup (st.map V.int)) ∧ J.IsSt sz st ∧ g.unfit sz ∧ ∀ o H', Same H H' → E (.ref CB) o H')
theorem aM9 (F : Fun K "come" "Goal.come" fJ f fd) (HI : FnB P w K mg base 2 "held_in" ["house", "state"] (dO CH)) (HX : FnX P w K mg base 2 "held_in" ["house", "state"] (dZ CH CS)) (M0 : MeX P w K mg base 4 G.H "met_by" ["self", "house", "held"] (mI G CH CB 0))
   (M2 : MeX P w K mg base 4 G.U "met_by" ["self", "house", "held"] (mI G CH CB 2)) (M3 : MeX P w K mg base 4 G.W "met_by" ["self", "house", "held"] (mI G CH CB 3)) :
   FnOk P w K mg base (CX1 P w) 5 f fd ["self", "house", "state"] (oE G CH CS CB) := by
 refine F.okX jH (fun vs H Q E h => ?_) (fun cdv A outer s H vs Q E hr h => ?_)
 · obtain ⟨p, h, v, sz, tap, g, rfl, _⟩ := h
   rfl
 · obtain ⟨p, h, v, sz, tap, g, rfl, hg, hh, hb⟩ := h
   have nd := jH.nd
   have hr2 : Room 2 _ := hr.mono (by decide)
   rcases hb with ⟨hb, k⟩ | ⟨a, st, rfl, ha, hst, hu, k⟩
   · refine ⟨_, aC (aM (i := 3) nd rfl (Or.inl rfl) (bI bdX xeX HX hr2 (aA (pv 1) (aA (pv 2) aB)))) aG, ?_⟩
     exact ⟨_, rfl, _, rfl, h, sz, tap, v, rfl, hh, hb, fun H' s' => k _ H' s'⟩
   cases g with
   | holds j m =>
     refine ⟨_, aC (aM (i := 3) nd rfl (Or.inl rfl) (aU HI hr2 (aA (pv 1) (aA (pv 2) aB)))) (aH (aP (lB bdX xeX M0 (pv 0) hr (aA (pv 1) (aA (pv 3) aB))))), ?_⟩
     refine ⟨_, rfl, _, rfl, h, sz, tap, a, st, rfl, hh, ha, hst, fun l H1 s1 _ hl => ?_⟩
     obtain ⟨dx, hp⟩ := hg.mono s1
     exact ⟨_, rfl, p, dx, _, rfl, hp, sS _ _ (by decide +kernel) (by decide +kernel), _, rfl, _, rfl, p, h, l, sz, tap, .holds j m, rfl, rfl, ⟨dx, hp⟩, hh.mono s1, hu, fun o H2 s2 => k o _ (s1.trans s2)⟩
   | som m => exact hu.elim
   | sum js m =>
     refine ⟨_, aC (aM (i := 3) nd rfl (Or.inl rfl) (aU HI hr2 (aA (pv 1) (aA (pv 2) aB)))) (aH (aP (lB bdX xeX M2 (pv 0) hr (aA (pv 1) (aA (pv 3) aB))))), ?_⟩
     refine ⟨_, rfl, _, rfl, h, sz, tap, a, st, rfl, hh, ha, hst, fun l H1 s1 _ hl => ?_⟩
     obtain ⟨dx, t, hp, ht⟩ := hg.mono s1
     exact ⟨_, rfl, p, dx, _, rfl, hp, zE _ _ (by decide +kernel) (by decide +kernel), _, rfl, _, rfl, p, h, l, sz, tap, .sum js m, rfl, rfl, ⟨dx, t, hp, ht⟩, hh.mono s1, hu, fun o H2 s2 => k o _ (s1.trans s2)⟩
   | whole t =>
     refine ⟨_, aC (aM (i := 3) nd rfl (Or.inl rfl) (aU HI hr2 (aA (pv 1) (aA (pv 2) aB)))) (aH (aP (lB bdX xeX M3 (pv 0) hr (aA (pv 1) (aA (pv 3) aB))))), ?_⟩
     refine ⟨_, rfl, _, rfl, h, sz, tap, a, st, rfl, hh, ha, hst, fun l H1 s1 _ hl => ?_⟩
     obtain ⟨dx, t', hp, ht⟩ := hg.mono s1
     exact ⟨_, rfl, p, dx, _, rfl, hp, vQ _ (by decide +kernel), _, rfl, _, rfl, p, h, l, sz, tap, .whole t, rfl, rfl, ⟨dx, t', hp, ht⟩, hh.mono s1, hu, fun o H2 s2 => k o _ (s1.trans s2)⟩
def lW (CB : Addr) : Sp := fun vs H _ E => ∃ v t, vs = [v] ∧ Kd H v t ∧ ∀ o H', Same H H' → E (.ref CB) o H'
theorem sC (F : Fun K "check_goal" "check_goal" eG f fd) (B : Bt mg) (M : GoC K mg G CG) (NG : NoGo K G) (X : XC K mg "BadGoal" CB) : FnOk P w K mg base (CX1 P w) 1 f fd ["goal"] (lW CB) := by
 refine F.okX mR (fun vs H Q E h => ?_) (fun cdv A outer s H vs Q E hr h => ?_)
 · obtain ⟨v, t, rfl, _⟩ := h
   rfl
 · obtain ⟨v, t, rfl, kd, k⟩ := h
   refine ⟨_, aH (aT (bJ (bK (aQ jL (by rfl) B.isinstance aS (aA (pv 0) (aA (bD (aA (bB (v := .ref G.H) (by rfl) M.gH rfl) (aA (bB (v := .ref G.S) (by rfl) M.gS rfl) (aA (bB (v := .ref G.U) (by rfl) M.gU rfl)
     (aA (bB (v := .ref G.W) (by rfl) M.gW rfl) aB))))) aB))))) (aH (bX bdX xeX rfl X)) aL), ?_⟩
   refine ⟨_, rfl, (by exact sz4), fun tp nt => ?_⟩
   exact ⟨_, tp, _, _, _, _, rfl, aD, .cons (.ref _) (.cons (.ref _) (.cons (.ref _) (.cons (.ref _) .nil))), (kd.mono (Same.new nt)).ty, NG.of kd, _, rfl, dR (k _ _ (Same.new nt))⟩
def pX (Z : Cz) (G : Gz) (CH CB : Addr) : Sp := fun vs H _ E => ∃ (h d p : Addr) (sz : List Int) (tap : Bool) (g : Go) (kvs : List (List Key × V)) (W : List J.Way), vs = [.ref h, .ref d, .ref p] ∧ House CH H h sz tap ∧ gJ G H p g ∧ g.unfit sz ∧ H d = some (.dT kvs) ∧ WD Z H W kvs W ∧ (∀ x ∈ W, J.IsSt sz x.1) ∧ W ≠ [] ∧
 ∀ o H', kW d H H' → E (.ref CB) o H'
theorem yA (F : Fun K "nearest" "nearest" jM f fd) (CM : ∀ C, nF G C → MeX P w K mg base 5 C "come" ["self", "house", "state"] (oE G CH CS CB)) : FnOk P w K mg base (CX1 P w) 6 f fd ["house", "ways", "goal"] (pX Z G CH CB) := by
 refine F.okX rL (fun vs H Q E h => ?_) (fun cdv A outer s H vs Q E hr h => ?_)
 · obtain ⟨h, d, p, sz, tap, g, kvs, W, rfl, _⟩ := h
   rfl
 · obtain ⟨h, d, p, sz, tap, g, kvs, W, rfl, hh, hg, hu, hd, wd, hst, hne, k⟩ := h
   refine ⟨_, aC (cN wA rfl (aV0 (pv 1)) (bT (i := 3) rL.nd rfl (Or.inl rfl))
       (aH (aT (bK (qT bdX xeX CM (pv 2) hr (aA (pv 0) (aA (pv 3) aB)))) aG aL))) aG, ?_⟩
   refine ⟨_, rfl, d, kvs, rfl, .inl ⟨hd, fun o => aZ7 (a := d) (kvs := kvs) (o := o) (fun i σ H' => i = 0 ∧ ∃ v3 : Option V, σ = [some (.ref h), some (.ref d), some (.ref p), v3] ∧ kW d H H' ∧ H' d = some (.frz o (.dT kvs)))
     ⟨rfl, none, rfl, fun b c e hb => by rw [aI hb]; exact e, aD⟩ (fun i σ H' _ ⟨_, _, _, _, e⟩ => e) ?_ ?_⟩⟩
   · rintro i k' v b σ H' hk hb ⟨hi, v3, rfl, s4, ed⟩
     obtain ⟨x, hx, ek, _⟩ := L2.Paired.get wd hk
     have ek' : k' = kOf x.1 := ek
     rw [ek', qU] at hb
     have fb : ∀ {b c}, H b = some c → fx c = true → H' b = some c := fun {b c} e f => s4 b c e (aN2 e hd f)
     have hg4 : gJ G H' p g := hg.fix fun c o e f => fb e f
     have hh4 : House CH H' h sz tap := hh.fix fun c o e f => fb e f
     obtain ⟨dx, fs, hp, hno⟩ := hg4.no
     refine ⟨_, rfl, G.cl g, p, dx, fs, nF.of G g, rfl, hp, hno, _, rfl, _, rfl, p, h, _, sz, tap, g, rfl, hg4, hh4, .inr ⟨b, x.1, rfl, hb, hst x (List.mem_of_getElem? hx), hu, fun o' H5 s5 => k o' H5 fun c o e hc => s5 _ _ (s4 c o e hc)⟩⟩
   · rintro σ H' ⟨hi, _⟩
     have := wd.length
     exact absurd (List.length_eq_zero_iff.mp (show W.length = 0 by omega)) hne
def kY (G : Gz) (CH CS CB : Addr) : Sp := fun vs H _ E => ∃ h v u sz tap, vs = [.ref h, v, u] ∧ House CH H h sz tap ∧ ((jZ H sz v ∧ ∀ o H', Same H H' → E (.ref CS) o H') ∨ ∃ a st, v = .ref a ∧ H a = some (.tup (st.map V.int)) ∧ J.IsSt sz st ∧
 ((∃ t, Kd H u t ∧ ∀ o H', Same H H' → E (.ref CB) o H') ∨ ∃ p g, u = .ref p ∧ Hz sz ∧ gJ G H p g ∧ g.unfit sz ∧ ∀ o H', Same H H' → E (.ref CB) o H'))
theorem zU (F : Fun K "fewest" "fewest" kQ f fd) (HI : FnB P w K mg base 2 "held_in" ["house", "state"] (dO CH)) (HX : FnX P w K mg base 2 "held_in" ["house", "state"] (dZ CH CS)) (CK : FnB P w K mg base 1 "check_goal" ["goal"] (mO G))
   (CX : FnX P w K mg base 1 "check_goal" ["goal"] (lW CB)) (WY : FnB P w K mg base 8 "ways_from" ["house", "state"] (vS Z CH)) (NE : FnX P w K mg base 6 "nearest" ["house", "ways", "goal"] (pX Z G CH CB)) : FnOk P w K mg base (CX1 P w) 9 f fd ["house", "state", "goal"] (kY G CH CS CB) := by
 refine F.okX pK (fun vs H Q E h => ?_) (fun cdv A outer s H vs Q E hr h => ?_)
 · obtain ⟨h, v, u, sz, tap, rfl, _⟩ := h
   rfl
 · obtain ⟨h, v, u, sz, tap, rfl, hh, hb⟩ := h
   rcases hb with ⟨hb, k⟩ | ⟨a, st, rfl, ha, hst, hb⟩
   · refine ⟨_, aC (aW (bI bdX xeX HX (hr.mono (by decide)) (aA (pv 0) (aA (pv 1) aB)))) aG, ?_⟩
     exact ⟨_, rfl, _, rfl, h, sz, tap, v, rfl, hh, hb, fun H' s' => k _ H' s'⟩
   rcases hb with ⟨t, kd, k⟩ | ⟨p, g, rfl, hz, hg, hu, k⟩
   · refine ⟨_, aC (aW (aU HI (hr.mono (by decide)) (aA (pv 0) (aA (pv 1) aB)))) (aC (aW (bI bdX xeX CX (hr.mono (by decide)) (aA (pv 2) aB))) aG), ?_⟩
     refine ⟨_, rfl, _, rfl, h, sz, tap, a, st, rfl, hh, ha, hst, fun y H1 s1 ny ey => ?_⟩
     exact ⟨_, rfl, u, t, rfl, kd.mono s1, fun o H' s' => k o H' (s1.trans s')⟩
   · refine ⟨_, aC (aW (aU HI (hr.mono (by decide)) (aA (pv 0) (aA (pv 1) aB))))
       (aC (aW (aU CK (hr.mono (by decide)) (aA (pv 2) aB)))
       (aC (aM (i := 3) pK.nd rfl (Or.inl rfl) (aU WY hr (aA (pv 0) (aA (pv 1) aB))))
       (aC (aM (i := 4) pK.nd rfl (Or.inl rfl) (bI bdX xeX NE (hr.mono (by decide)) (aA (pv 0) (aA (pv 3) (aA (pv 2) aB))))) aG))), ?_⟩
     have hgd := J.nX (tap := tap) hz.nn
     have wi := J.aI3 hgd hst
     refine ⟨_, rfl, _, rfl, h, sz, tap, a, st, rfl, hh, ha, hst, fun y H1 s1 ny ey => ?_⟩
     refine ⟨_, rfl, p, g, rfl, hg.mono s1, fun H2 s2 => ?_⟩
     have s12 := s1.trans s2
     refine ⟨_, rfl, _, rfl, h, a, sz, tap, st, rfl, hh.mono s12, hz, s12 _ _ ha, hst, fun d H3 kvs s3 nd e3 wd => ?_⟩
     have s13 := s12.trans s3
     have nd0 : H d = none := by
       cases e : H d with
       | none => rfl
       | some o => have := s12 _ _ e; rw [nd] at this; cases this
     refine ⟨_, rfl, _, rfl, _, rfl, h, d, p, sz, tap, g, kvs, _, rfl, hh.mono s13, hg.mono s13, hu, e3, wd, wi.sts, fun e => ?_, fun o H4 s4 => k o H4 fun c u e => s4 c u (s13 _ _ e) (aJ e nd0)⟩
     have := wi.hd
     rw [e] at this
     cases this
end
end Jug
namespace Jug
open PySem L2
structure Ez where
 B : Addr
 S : Addr
 M : Addr
 G : Addr
 T : Addr
 J : Addr
def Ez.at (z : Ez) : Nat → Addr
 | 0 => z.B
 | 1 => z.S
 | 2 => z.M
 | _ => z.G
def lK (n : Nat) : List Bool := [decide (n = 0), decide (n = 1), decide (n = 2), decide (n = 3), false, true]
structure EzC (K : W.Frag) (mg : Str → Option Value) (z : Ez) : Prop where
 xB : XC K mg "BadHouse" z.B
 xS : XC K mg "BadState" z.S
 xM : XC K mg "BadMove" z.M
 xG : XC K mg "BadGoal" z.G
 xJ : XC K mg "JugError" z.J
 gT : mg "BadText" = some (.ref z.T)
 ve : mg "ValueError" = none
 ex : ∀ n, n < 4 → W.excIn K (z.at n) bmV "ValueError.__new__" = true
 cl : ∀ n, n < 4 → ExcCls K (z.at n)
 sub : ∀ n, n < 4 → lS K (z.at n) z.J = true
 kB : ∀ n, n < 4 → W.kitOne K (.ref (z.at n)) (.ref z.B) = some (decide (n = 0))
 kS : ∀ n, n < 4 → W.kitOne K (.ref (z.at n)) (.ref z.S) = some (decide (n = 1))
 kM : ∀ n, n < 4 → W.kitOne K (.ref (z.at n)) (.ref z.M) = some (decide (n = 2))
 kG : ∀ n, n < 4 → W.kitOne K (.ref (z.at n)) (.ref z.G) = some (decide (n = 3))
 kT : ∀ n, n < 4 → W.kitOne K (.ref (z.at n)) (.ref z.T) = some false
 kV : ∀ n, n < 4 → W.kitOne K (.ref (z.at n)) (.type "ValueError") = some true
theorem uM : bootBuiltins "ValueError" = some (.type "ValueError") := by decide +kernel
theorem bdN {CX : CXT} {P : Program} {w : World} {K : W.Frag} {mg : Str → Option Value} {base : Heap} {N : List Str} {qual : Str} {sc : Scope} {f : Addr} {cd : Value} {A : Around} {outer : List Env} {s : Shared} {H : Hp} {E : XK} : Body (oV CX P w K mg base N qual sc f cd A outer s H E).nox := ⟨rfl, rfl, rfl, fun _ => rfl⟩
section
variable {P : Program} {w : World} {K : W.Frag} {mg : Str → Option Value} {base : Heap} {CH CS CB CG : Addr} {Z : Cz} {G : Gz} {z : Ez}
def xR (z : Ez) : Sp := fun vs H Q _ => ∃ x n, vs = [.ref x] ∧ n < 4 ∧ H x = some (xO (z.at n) x) ∧ ∀ l H', Same H H' → H' l = some (.lst ((lK n).map V.bl)) → Q (.ref l) H'
theorem aM7 (F : Fun K "_law_kinds" "_law_kinds" gA f fd) (B : Bt mg) (X : EzC K mg z) : FnOkH P w K mg base 1 f fd ["_law_error"] (xR z) := by
 refine F.okH mV (fun vs H Q E h => ?_) (fun cdv A outer s H vs Q E h => ?_)
 · obtain ⟨x, n, rfl, _⟩ := h
   rfl
 · obtain ⟨x, n, rfl, hn, hx, k⟩ := h
   refine ⟨_, aC (aM (i := 1) mV.nd rfl (Or.inl rfl) (aN (aA (aQ gC (by rfl) B.isinstance aS (aA (pv 0) (aA (bB (v := .ref z.B) (by rfl) X.xB.g rfl) aB)))
       (aA (aQ gC (by rfl) B.isinstance aS (aA (pv 0) (aA (bB (v := .ref z.S) (by rfl) X.xS.g rfl) aB)))
       (aA (aQ gC (by rfl) B.isinstance aS (aA (pv 0) (aA (bB (v := .ref z.M) (by rfl) X.xM.g rfl) aB))) aB)))))
     (aH (aP (eD zN (pv 1) (aN (aA (aQ gC (by rfl) B.isinstance aS (aA (pv 0) (aA (bB (v := .ref z.G) (by rfl) X.xG.g rfl) aB)))
       (aA (aQ gC (by rfl) B.isinstance aS (aA (pv 0) (aA (bB (v := .ref z.T) (by rfl) X.gT rfl) aB)))
       (aA (aQ gC (by rfl) B.isinstance aS (aA (pv 0) (aA (dL (v := .ty "ValueError") (by rfl) X.ve uM rfl) aB))) aB))))))), ?_⟩
   refine ⟨_, rfl, x, z.at n, _, _, _, rfl, .ref _, hx, X.cl n hn, X.kB n hn, _, rfl, x, z.at n, _, _, _, rfl, .ref _, hx, X.cl n hn, X.kS n hn, _, rfl, x, z.at n, _, _, _, rfl, .ref _, hx, X.cl n hn, X.kM n hn, (by exact sz3), fun l nl => ?_⟩
   have s1 : Same H (upd H l (.lst [.bl (decide (n = 0)), .bl (decide (n = 1)), .bl (decide (n = 2))])) := Same.new nl
   have hx1 := s1 _ _ hx
   refine ⟨_, rfl, _, rfl, x, z.at n, _, _, _, rfl, .ref _, hx1, X.cl n hn, X.kG n hn, _, rfl, x, z.at n, _, _, _, rfl, .ref _, hx1, X.cl n hn, X.kT n hn, _, rfl, x, z.at n, _, _, _, rfl, .ty "ValueError", hx1, X.cl n hn, X.kV n hn, (by exact sz3), fun m nm => ?_⟩
   refine ⟨l, m, _, _, rfl, rfl, Same.new nm _ _ aD, aD, (by exact sz6), fun p np => k p _ ((s1.lay nm).lay np) aD⟩
def Asks (P : Program) (w : World) (K : W.Frag) (mg : Str → Option Value) (base : Heap) (k : Nat) (z : Ez) (n : Nat) (H : Hp) (f : Addr) (v u : V) : Prop :=
 ∀ H1, Same H H1 → Fnal K H1 f ∧ ∀ Q E, (∀ o H', Same H1 H' → E (.ref (z.at n)) o H') → Callee P w K mg base k f [v, u] H1 Q E
theorem Asks.mono {k n : Nat} {H H' : Hp} {f : Addr} {v u : V} (h : Asks P w K mg base k z n H f v u) (s : Same H H') : Asks P w K mg base k z n H' f v u := fun H1 s1 => h H1 (s.trans s1)
theorem Asks.of {k n : Nat} {H : Hp} {f : Addr} {fd : FuncData} {ps : List Str} {sp : Sp} {v u : V} (F : FnOk P w K mg base (CX1 P w) k f fd ps sp) (hk : W.keepIn K (.ref f) = true) (hb : Binds K fd ps [])
   (h : ∀ H1, Same H H1 → ∀ Q E, (∀ o H', Same H1 H' → E (.ref (z.at n)) o H') → sp [v, u] H1 Q E) : Asks P w K mg base k z n H f v u := fun H1 s1 => ⟨.inl hk, fun Q E hE => .of F hb (h H1 s1 Q E hE)⟩
def qP (P : Program) (w : World) (K : W.Frag) (mg : Str → Option Value) (base : Heap) (k : Nat) (z : Ez) : Sp := fun vs H Q _ => ∃ f n v u, vs = [.ref f, v, u] ∧ n < 4 ∧ Asks P w K mg base k z n H f v u ∧ ∀ l H', Same H H' → H' l = some (.lst ((lK n).map V.bl)) → Q (.ref l) H'
theorem aS9 {f : Addr} {fd : FuncData} {k : Nat} (F : Fun K "_law_told" "_law_told" hU f fd) (X : EzC K mg z) (NK : FnH P w K mg base 1 "_law_kinds" ["_law_error"] (xR z)) : FnOk P w K mg base CX0 (k + 2) f fd ["_law_ask", "_law_one", "_law_other"] (qP P w K mg base (k + 1) z) := by
 refine F.ok oJ (fun vs H Q E h => ?_) (fun cdv A outer s H vs Q E hr h => ?_)
 · obtain ⟨f, n, v, u, rfl, _⟩ := h
   rfl
 · obtain ⟨f, n, v, u, rfl, hn, ha, kk⟩ := h
   have hr1 : Room 1 _ := hr.mono (by omega)
   refine ⟨_, aC (aF1 (i := 3) bdN (xV (aW7 (i := 0) (k := k + 1) rfl (Or.inl rfl) hr (fun _ => aA (pv 1) (aA (pv 2) aB)))) X.xJ oJ.nd rfl rfl
     (fun x E' => aH (aP (aX4 NK ⟨rfl, hr1.dp, hr1.un⟩ (aA (pv 3) aB))))) aG, ?_⟩
   obtain ⟨fn, ca⟩ := ha H (Same.refl _)
   refine ⟨f, rfl, _, rfl, _, rfl, fn, ca _ _ fun o H' s' => ⟨z.at n, rfl, X.ex n hn, X.sub n hn, fun x hx => ?_⟩⟩
   exact ⟨_, rfl, x, n, rfl, hn, aD, fun l H2 s2 e2 => kk l H2 ((s'.lay hx).trans s2) e2⟩
def zF (P : Program) (w : World) (K : W.Frag) (mg : Str → Option Value) (base : Heap) (k : Nat) (z : Ez) : Sp := fun vs H Q _ => ∃ f d t e n ds ts, vs = [.ref f, .ref d, .ref t, .ref e] ∧ n < 4 ∧ H d = some (.lst ds) ∧ H t = some (.lst ts) ∧ H e = some (.lst ((lK n).map V.bl)) ∧
 (∀ v ∈ ds, ∀ u ∈ ts, Asks P w K mg base k z n H f v u) ∧ ∀ H', Same H H' → Q (.bl true) H'
theorem aY0 {f : Addr} {fd : FuncData} {k : Nat} (F : Fun K "_law_all" "_law_all" iQ f fd) (T : FnB P w K mg base (k + 2) "_law_told" ["_law_ask", "_law_one", "_law_other"] (qP P w K mg base (k + 1) z)) : FnOk P w K mg base CX0 (k + 3) f fd ["_law_ask", "_law_doors", "_law_things", "_law_due"] (zF P w K mg base (k + 1) z) := by
 refine F.ok qA (fun vs H Q E h => ?_) (fun cdv A outer s H vs Q E hr h => ?_)
 · obtain ⟨f, d, t, e, n, ds, ts, rfl, _⟩ := h
   rfl
 · obtain ⟨f, d, t, e, n, ds, ts, rfl, hn, hd, ht, he, ha, kk⟩ := h
   have nd := qA.nd
   refine ⟨_, aC (cN PassesOwn.never rfl (dI (pv 1)) (bT (i := 4) nd rfl (Or.inl rfl))
       (aH (cN PassesOwn.never rfl (dI (pv 2)) (bT (i := 5) nd rfl (Or.inl rfl))
         (aH (aT (aV (nR hr.u20) (aU T hr (aA (pv 0) (aA (pv 4) (aA (pv 5) aB)))) (pv 3) (nomark _)) (aH (aP cL)) aL)))))
     (aH (aP cL)), ?_⟩
   refine ⟨_, rfl, d, rfl, ⟨_, SqL.of hd⟩, cU (K := K) (a := d) (xs := ds) (fun i σ H' => ∃ v4 v5, σ = [some (.ref f), some (.ref d), some (.ref t), some (.ref e), v4, v5] ∧ Same H H')
     ⟨none, none, rfl, Same.refl _⟩ (fun i σ H' _ ⟨_, _, _, s1⟩ => SqL.of (s1 _ _ hd)) ?_ ?_⟩
   · rintro i v σ H1 hv ⟨v4, v5, rfl, s1⟩
     refine ⟨_, rfl, t, rfl, ⟨_, SqL.of (s1 _ _ ht)⟩, cU (K := K) (a := t) (xs := ts) (fun j σ H' => ∃ v5, σ = [some (.ref f), some (.ref d), some (.ref t), some (.ref e), some v, v5] ∧ Same H H')
       ⟨_, rfl, s1⟩ (fun i σ H' _ ⟨_, _, s1⟩ => SqL.of (s1 _ _ ht)) ?_ ?_⟩
     · rintro j u σ H2 hu ⟨v5, rfl, s2⟩
       refine ⟨_, rfl, _, rfl, _, rfl, f, n, v, u, rfl, hn, (ha v (List.mem_of_getElem? hv) u (List.mem_of_getElem? hu)).mono s2, fun l H3 s3 e3 => ?_⟩
       refine ⟨_, rfl, _, rcB e3 ((s2.trans s3) _ _ he), _, rfl, ?_⟩
       rw [decide_eq_true rfl]
       exact cB ⟨_, rfl, s2.trans s3⟩
     · rintro σ H2 ⟨v5, rfl, s2⟩
       exact ⟨_, _, rfl, s2⟩
   · rintro σ H1 ⟨v4, v5, rfl, s1⟩
     exact kk H1 s1
end
end Jug
namespace Jug
open PySem L2
theorem bO {c A B : Prop} [Decidable c] (hc : ¬ c) (h : B) : if (decide c) = true then A else B := by
 rw [decide_eq_false hc]; exact cB h
theorem jY {c A B : Prop} [Decidable c] (hc : c) (h : A) : if (decide c) = true then A else B := by
 rw [decide_eq_true hc]; exact dR h
theorem kL {H H' : Hp} {p dx C : Addr} (np : H p = none) (ndx : H dx = none) (kp : ∀ c o, (upd (upd H dx (.own p)) p (.ins C dx [])) c = some o → c ≠ p → H' c = some o) : Same H H' :=
 fun c o e => kp c o (by rw [aI (aJ e np), aI (aJ e ndx)]; exact e) (aJ e np)
theorem dQ {H : Hp} {p dx C : Addr} (np : H p = none) (ndx : H dx = none) : Same H (upd (upd H dx (.own p)) p (.ins C dx [])) := fun c u e => by rw [aI (aJ e np), aI (aJ e ndx)]; exact e
def MK (C : Addr) (sp : Sp) (E : XK) (vs : List V) (H : Hp) (Q : Addr → Hp → Prop) : Prop := ∀ x dx, H x = none → H dx = none → dx ≠ x → sp (.ref x :: (vs ++ [])) (upd (upd H dx (.own x)) x (.ins C dx [])) (fun v H2 => v = .non ∧ Q x H2) E
section
variable {CH CB : Addr} {Z : Cz} {G : Gz} {E : XK} {H : Hp} {Q : Addr → Hp → Prop}
theorem bL {l : Addr} {sz : List Int} {tap : Bool} (hl : H l = some (.lst (sz.map V.int))) (hz : Hz sz) (k : ∀ p H', Same H H' → House CH H' p sz tap → Q p H') : MK CH (dC CH) E [.ref l, .bl tap] H Q :=
 fun x dx nx nd _ => ⟨x, dx, l, sz, tap, rfl, aD, dQ nx nd _ _ hl, hz, fun H' kp hh => ⟨rfl, k x H' (kL nx nd kp) hh⟩⟩
theorem vE {v u : V} (hb : nG H v ∨ ∃ l sz t, v = .ref l ∧ H l = some (.lst (sz.map V.int)) ∧ Hz sz ∧ Kd H u t ∧ t ≠ "bool") (k : ∀ o H', Same H H' → E (.ref CB) o H') : MK CH (jQ CH CB) E [v, u] H Q :=
 fun x dx nx nd _ => ⟨x, dx, v, u, rfl, aD, hb.imp (fun b => b.mono (dQ nx nd)) (fun ⟨l, sz, t, e, hl, hz, ku, n⟩ => ⟨l, sz, t, e, dQ nx nd _ _ hl, hz, ku.mono (dQ nx nd), n⟩), fun o H' kp => k o H' (kL nx nd kp)⟩
theorem iT {a b : Nat} (ha : a ≤ 3) (hb : b ≤ 3) (hab : a ≠ b) (k : ∀ p H', Same H H' → iX Z H' p (.pour a b) → Q p H') : MK Z.P (fX Z) E [.int a, .int b] H Q :=
 fun x dx nx nd _ => ⟨x, dx, a, b, rfl, aD, ha, hb, hab, fun H' kp e => ⟨rfl, k x H' (kL nx nd kp) ⟨dx, e⟩⟩⟩
theorem mK {a : Nat} (ha : a ≤ 3) (k : ∀ p H', Same H H' → iX Z H' p (.fill a) → Q p H') : MK Z.F (dB Z.F) E [.int a] H Q :=
 fun x dx nx nd _ => ⟨x, dx, a, rfl, aD, ha, fun H' kp e => ⟨rfl, k x H' (kL nx nd kp) ⟨dx, e⟩⟩⟩
theorem wQ {a : Nat} (ha : a ≤ 3) (k : ∀ p H', Same H H' → iX Z H' p (.emp a) → Q p H') : MK Z.E (dB Z.E) E [.int a] H Q :=
 fun x dx nx nd _ => ⟨x, dx, a, rfl, aD, ha, fun H' kp e => ⟨rfl, k x H' (kL nx nd kp) ⟨dx, e⟩⟩⟩
theorem yP {v u : V} {tv tu : String} {C : Addr} (kv : Kd H v tv) (ku : Kd H u tu) (hb : cY v 0 3 = false ∨ ∃ a : Nat, v = .int a ∧ a ≤ 3 ∧ (cY u 0 3 = false ∨ u = .int a)) (k : ∀ o H', Same H H' → E (.ref CB) o H') : MK C (kJ CB) E [v, u] H Q :=
 fun x dx nx nd _ => ⟨x, v, u, tv, tu, rfl, kv.mono (dQ nx nd), ku.mono (dQ nx nd), hb, fun o H' s' => k o H' ((dQ nx nd).trans s')⟩
theorem aC7 {v : V} {tv : String} {C : Addr} (kv : Kd H v tv) (hb : cY v 0 3 = false) (k : ∀ o H', Same H H' → E (.ref CB) o H') : MK C (iA CB) E [v] H Q :=
 fun x dx nx nd _ => ⟨x, v, tv, rfl, kv.mono (dQ nx nd), hb, fun o H' s' => k o H' ((dQ nx nd).trans s')⟩
theorem oR {j : Nat} {m : Int} (ha : j ≤ 3) (h0 : 0 ≤ m) (h1 : m ≤ 240) (k : ∀ p H', Same H H' → gJ G H' p (.holds j m) → Q p H') : MK G.H (gD G) E [.int j, .int m] H Q :=
 fun x dx nx nd _ => ⟨x, dx, j, m, rfl, aD, ha, h0, h1, fun H' kp e => ⟨rfl, k x H' (kL nx nd kp) e⟩⟩
theorem aT5 {m : Int} (h0 : 0 ≤ m) (h1 : m ≤ 240) (k : ∀ p H', Same H H' → gJ G H' p (.som m) → Q p H') : MK G.S (kZ G) E [.int m] H Q :=
 fun x dx nx nd _ => ⟨x, dx, m, rfl, aD, h0, h1, fun H' kp e => ⟨rfl, k x H' (kL nx nd kp) e⟩⟩
theorem aN4 {l : Addr} {js : List Int} {m : Int} (hl : H l = some (.lst (js.map V.int))) (hnd : js.Nodup) (l1 : 1 ≤ js.length) (l4 : js.length ≤ 4) (hb : ∀ j ∈ js, 0 ≤ j ∧ j ≤ 3) (h0 : 0 ≤ m) (h1 : m ≤ 240) (k : ∀ p H', Same H H' → gJ G H' p (.sum js m) → Q p H') : MK G.U (lZ G) E [.ref l, .int m] H Q :=
 fun x dx nx nd _ => ⟨x, dx, l, js, m, rfl, aD, dQ nx nd _ _ hl, hnd, l1, l4, hb, h0, h1, fun H' kp e => ⟨rfl, k x H' (kL nx nd kp) e⟩⟩
theorem iJ {l : Addr} {st : List Int} (hl : H l = some (.tup (st.map V.int))) (l1 : 1 ≤ st.length) (l4 : st.length ≤ 4) (hb : ∀ j ∈ st, 0 ≤ j ∧ j ≤ 60) (k : ∀ p H', Same H H' → gJ G H' p (.whole st) → Q p H') : MK G.W (iR G) E [.ref l] H Q :=
 fun x dx nx nd _ => ⟨x, dx, l, st, rfl, aD, dQ nx nd _ _ hl, l1, l4, hb, fun H' kp e => ⟨rfl, k x H' (kL nx nd kp) e⟩⟩
theorem vF {v u : V} {tv tu : String} {C : Addr} (kv : Kd H v tv) (ku : Kd H u tu) (hb : cY v 0 3 = false ∨ ∃ a : Nat, v = .int a ∧ a ≤ 3 ∧ cY u 0 240 = false) (k : ∀ o H', Same H H' → E (.ref CB) o H') : MK C (jR CB) E [v, u] H Q :=
 fun x dx nx nd _ => ⟨x, v, u, tv, tu, rfl, kv.mono (dQ nx nd), ku.mono (dQ nx nd), hb, fun o H' s' => k o H' ((dQ nx nd).trans s')⟩
theorem aN5 {v : V} {tv : String} {C : Addr} (kv : Kd H v tv) (hb : cY v 0 240 = false) (k : ∀ o H', Same H H' → E (.ref CB) o H') : MK C (kI CB) E [v] H Q :=
 fun x dx nx nd _ => ⟨x, v, tv, rfl, kv.mono (dQ nx nd), hb, fun o H' s' => k o H' ((dQ nx nd).trans s')⟩
theorem wP {v u : V} (hb : tI H v ∨ ∃ (l : Addr) (js : List Int) (t : String), v = .ref l ∧ H l = some (.lst (js.map V.int)) ∧ js.Nodup ∧ 1 ≤ js.length ∧ js.length ≤ 4 ∧ (∀ j ∈ js, 0 ≤ j ∧ j ≤ 3) ∧ Kd H u t ∧ cY u 0 240 = false) (k : ∀ o H', Same H H' → E (.ref CB) o H') : MK G.U (jG G CB) E [v, u] H Q :=
 fun x dx nx nd _ => ⟨x, dx, v, u, rfl, aD, hb.imp (fun b => b.mono (dQ nx nd)) (fun ⟨l, sz, t, e, hl, a, b, c, d, ku, n⟩ => ⟨l, sz, t, e, dQ nx nd _ _ hl, a, b, c, d, ku.mono (dQ nx nd), n⟩), fun o H' kp => k o H' (kL nx nd kp)⟩
theorem vD {v : V} {C : Addr} (hb : tJ H v) (k : ∀ o H', Same H H' → E (.ref CB) o H') : MK C (iB CB) E [v] H Q :=
 fun x dx nx nd _ => ⟨x, v, rfl, hb.mono (dQ nx nd), fun o H' s' => k o H' ((dQ nx nd).trans s')⟩
end
theorem kA : Hz [3, 5] := ⟨by decide, by decide, by decide, by decide⟩
theorem hz3 : Hz [3] := ⟨by decide, by decide, by decide, by decide⟩
theorem aO8 : Hz [60] := ⟨by decide, by decide, by decide, by decide⟩
theorem aO9 : Hz [49, 39] := ⟨by decide, by decide, by decide, by decide⟩
section
variable {P : Program} {w : World} {K : W.Frag} {mg : Str → Option Value} {base : Heap} {CH CS CB CG : Addr} {Z : Cz} {G : Gz} {z : Ez}
def pG (CB : Addr) : Sp := fun vs H _ E => ∃ (d : Int) (v : V), vs = [.int d, v] ∧ ((d = 0 ∧ nG H v) ∨ (d = 1 ∧ ∃ t, Kd H v t ∧ t ≠ "bool")) ∧ ∀ o H', Same H H' → E (.ref CB) o H'
theorem aG0 (F : Fun K "_law_house" "_law_house" gB f fd) (HX : MkX P w K mg base 3 "House" CH ["self", "sizes", "tap"] (jQ CH CB)) : FnOk P w K mg base (CX1 P w) 10 f fd ["_law_door", "_law_bad"] (pG CB) := by
 refine F.okX tK (fun vs H Q E h => ?_) (fun cdv A outer s H vs Q E hr h => ?_)
 · obtain ⟨d, v, rfl, _⟩ := h
   rfl
 · obtain ⟨d, v, rfl, hb, k⟩ := h
   rcases hb with ⟨rfl, hb⟩ | ⟨rfl, t, kd, nt⟩
   · refine ⟨_, aH (aP (xW (aV cT (pv 0) aE (nomark _)) (iH bdX xeX HX (hr.mono (by decide)) (aA (pv 1) (aA cL aB))) rW)), ?_⟩
     exact ⟨_, rfl, rfl, _, rfl, jY rfl ⟨_, rfl, vE (.inl hb) k⟩⟩
   · refine ⟨_, aH (aP (xW (aV cT (pv 0) aE (nomark _)) rW (iH bdX xeX HX (hr.mono (by decide)) (aA (aN (aA aE aB)) (aA (pv 1) aB))))), ?_⟩
     refine ⟨_, rfl, rfl, _, rfl, bO (by decide) ⟨(by exact sz1), fun l nl => ⟨_, rfl, vE (.inr ⟨l, [3], t, rfl, aD, hz3, kd.mono (Same.new nl), nt⟩) fun o H' s' => k o H' ((Same.new nl).trans s')⟩⟩⟩
end
end Jug
namespace Jug
open PySem L2
section
variable {P : Program} {w : World} {K : W.Frag} {mg : Str → Option Value} {base : Heap} {CH CS CB CG : Addr} {Z : Cz} {G : Gz} {z : Ez}
def pE (CS : Addr) : Sp := fun vs H _ E => ∃ (d : Nat) (v : V), vs = [.int d, v] ∧ d < 9 ∧ jZ H [3, 5] v ∧ ∀ o H', Same H H' → E (.ref CS) o H'
theorem aF9 (F : Fun K "_law_with_state" "_law_with_state" cV f fd) (HM : MkB P w K mg base 3 "House" CH ["self", "sizes", "tap"] (dC CH))
   (PM : MkB P w K mg base 4 "Pour" Z.P ["self", "one", "other"] (fX Z)) (FM : MkB P w K mg base 4 "Fill" Z.F ["self", "jug"] (dB Z.F)) (OM : MkB P w K mg base 4 "Holds" G.H ["self", "jug", "many"] (gD G))
   (D : ∀ C, sX Z C → MeX P w K mg base 5 C "done" ["self", "house", "state"] (oC Z CH CS CB)) (DA : FnX P w K mg base 6 "done_all" ["moves", "house", "state"] (jE Z CH CS CB)) (CM : ∀ C, nF G C → MeX P w K mg base 5 C "come" ["self", "house", "state"] (oE G CH CS CG))
   (FW : FnX P w K mg base 9 "fewest" ["house", "state", "goal"] (kY G CH CS CG)) (RX : FnX P w K mg base 9 "reached" ["house", "state"] (jP CH CS)) (MX : FnX P w K mg base 9 "measured" ["house", "state"] (jP CH CS)) (TX : FnX P w K mg base 9 "tied" ["house", "one", "other"] (xP CH CS)) :
   FnOk P w K mg base (CX1 P w) 10 f fd ["_law_door", "_law_bad"] (pE CS) := by
 refine F.okX jT (fun vs H Q E h => ?_) (fun cdv A outer s H vs Q E hr h => ?_)
 · obtain ⟨d, v, rfl, _⟩ := h
   rfl
 · obtain ⟨d, v, rfl, hd, hb, k⟩ := h
   have nd := jT.nd
   have hr4 : Room 4 _ := hr.mono (by decide)
   have hr5 : Room 5 _ := hr.mono (by decide)
   have hr6 : Room 6 _ := hr.mono (by decide)
   match d, hd with
   | 0, _ =>
     refine ⟨_, aC (aM (i := 2) nd rfl (Or.inl rfl) (bE HM hr4 (aA (aN (aA aE (aA aE aB))) (aA cL aB))))
       (aC (aT (aV cT (pv 0) aE (nomark _)) (aH (aP (lB bdX xeX (D Z.P (.inl rfl)) (bE PM hr5 (aA aE (aA aE aB))) hr5 (aA (pv 2) (aA (pv 1) aB))))) aG) aG), ?_⟩
     refine ⟨(by exact sz2), fun l nl => bL (sz := [3, 5]) aD kA fun p H1 s1 hh => ⟨_, rfl, rfl, _, rfl, jY rfl ?_⟩⟩
     refine iT (a := 0) (b := 1) (by decide) (by decide) (by decide) fun q H2 s2 hm => ?_
     obtain ⟨dq, hq⟩ := id hm
     have s3 := (Same.new nl).trans (s1.trans s2)
     exact ⟨q, dq, _, rfl, hq, aC3 _ _ (by decide +kernel) (by decide +kernel), _, rfl, _, rfl, q, p, v, [3, 5], false, .pour 0 1, rfl, hm, hh.mono s2, .inl ⟨hb.mono s3, fun o H' s' => k o H' (s3.trans s')⟩⟩
   | 1, _ =>
     refine ⟨_, aC (aM (i := 2) nd rfl (Or.inl rfl) (bE HM hr4 (aA (aN (aA aE (aA aE aB))) (aA cL aB))))
       (aC (if0 (pv 0)) (aC (aT (aV cT (pv 0) aE (nomark _)) (aH (aP (lB bdX xeX (D Z.F (.inr (.inl rfl))) (bE FM hr5 (aA aE aB)) hr5 (aA (pv 2) (aA (pv 1) aB))))) aG) aG)), ?_⟩
     refine ⟨(by exact sz2), fun l nl => bL (sz := [3, 5]) aD kA fun p H1 s1 hh => ⟨_, rfl, rfl, _, rfl, bO (by decide) ⟨_, rfl, rfl, _, rfl, jY rfl ?_⟩⟩⟩
     refine mK (a := 0) (by decide) fun q H2 s2 hm => ?_
     obtain ⟨dq, hq⟩ := id hm
     have s3 := (Same.new nl).trans (s1.trans s2)
     exact ⟨q, dq, _, rfl, hq, sR _ (by decide +kernel), _, rfl, _, rfl, q, p, v, [3, 5], false, .fill 0, rfl, hm, hh.mono s2, .inl ⟨hb.mono s3, fun o H' s' => k o H' (s3.trans s')⟩⟩
   | 2, _ =>
     refine ⟨_, aC (aM (i := 2) nd rfl (Or.inl rfl) (bE HM hr4 (aA (aN (aA aE (aA aE aB))) (aA cL aB))))
       (aC (if0 (pv 0)) (aC (if0 (pv 0))
       (aC (aT (aV cT (pv 0) aE (nomark _)) (aH (aP (bI bdX xeX DA hr6 (aA (aN (aA (bE PM hr5 (aA aE (aA aE aB))) aB)) (aA (pv 2) (aA (pv 1) aB)))))) aG) aG))), ?_⟩
     refine ⟨(by exact sz2), fun l nl => bL (sz := [3, 5]) aD kA fun p H1 s1 hh => ⟨_, rfl, rfl, _, rfl, bO (by decide) ⟨_, rfl, rfl, _, rfl, bO (by decide) ⟨_, rfl, rfl, _, rfl, jY rfl ?_⟩⟩⟩⟩
     refine iT (a := 2) (b := 3) (by decide) (by decide) (by decide) fun q H2 s2 hm => ⟨(by exact sz1), fun m nm => ?_⟩
     have s3 := (Same.new nl).trans (s1.trans (s2.lay (o := .lst [.ref q]) nm))
     exact ⟨_, rfl, _, rfl, _, p, v, [3, 5], false, rfl, hh.mono (s2.lay nm), .inr ⟨m, _, [.pour 2 3], rfl, aD, .cons ⟨q, rfl, hm.mono (Same.new nm)⟩ .nil, .inl ⟨hb.mono s3, fun o H' s' => k o H' (s3.trans s')⟩⟩⟩
   | 3, _ =>
     refine ⟨_, aC (aM (i := 2) nd rfl (Or.inl rfl) (bE HM hr4 (aA (aN (aA aE (aA aE aB))) (aA cL aB))))
       (aC (if0 (pv 0)) (aC (if0 (pv 0)) (aC (if0 (pv 0))
       (aC (aT (aV cT (pv 0) aE (nomark _)) (aH (aP (lB bdX xeX (CM G.H (.inl rfl)) (bE OM hr5 (aA aE (aA aE aB))) hr5 (aA (pv 2) (aA (pv 1) aB))))) aG) aG)))), ?_⟩
     refine ⟨(by exact sz2), fun l nl => bL (sz := [3, 5]) aD kA fun p H1 s1 hh => ⟨_, rfl, rfl, _, rfl, bO (by decide) ⟨_, rfl, rfl, _, rfl, bO (by decide) ⟨_, rfl, rfl, _, rfl, bO (by decide) ⟨_, rfl, rfl, _, rfl, jY rfl ?_⟩⟩⟩⟩⟩
     refine oR (j := 3) (m := 0) (by decide) (by decide) (by decide) fun q H2 s2 hm => ?_
     obtain ⟨dq, hq⟩ := id hm
     have s3 := (Same.new nl).trans (s1.trans s2)
     exact ⟨q, dq, _, rfl, hq, sS _ _ (by decide +kernel) (by decide +kernel), _, rfl, _, rfl, q, p, v, [3, 5], false, .holds 3 0, rfl, hm, hh.mono s2, .inl ⟨hb.mono s3, fun o H' s' => k o H' (s3.trans s')⟩⟩
   | 4, _ =>
     refine ⟨_, aC (aM (i := 2) nd rfl (Or.inl rfl) (bE HM hr4 (aA (aN (aA aE (aA aE aB))) (aA cL aB))))
       (aC (if0 (pv 0)) (aC (if0 (pv 0)) (aC (if0 (pv 0)) (aC (if0 (pv 0))
       (aC (aT (aV cT (pv 0) aE (nomark _)) (aH (aP (bI bdX xeX FW hr (aA (pv 2) (aA (pv 1) (aA fN aB)))))) aG) aG))))), ?_⟩
     refine ⟨(by exact sz2), fun l nl => bL (sz := [3, 5]) aD kA fun p H1 s1 hh => ⟨_, rfl, rfl, _, rfl, bO (by decide) ⟨_, rfl, rfl, _, rfl, bO (by decide) ⟨_, rfl, rfl, _, rfl, bO (by decide) ⟨_, rfl, rfl, _, rfl, bO (by decide) ⟨_, rfl, rfl, _, rfl, jY rfl ?_⟩⟩⟩⟩⟩⟩
     have s3 := (Same.new nl).trans s1
     exact ⟨_, rfl, _, rfl, p, v, _, [3, 5], false, rfl, hh, .inl ⟨hb.mono s3, fun o H' s' => k o H' (s3.trans s')⟩⟩
   | 5, _ =>
     refine ⟨_, aC (aM (i := 2) nd rfl (Or.inl rfl) (bE HM hr4 (aA (aN (aA aE (aA aE aB))) (aA cL aB))))
       (aC (if0 (pv 0)) (aC (if0 (pv 0)) (aC (if0 (pv 0)) (aC (if0 (pv 0)) (aC (if0 (pv 0))
       (aC (aT (aV cT (pv 0) aE (nomark _)) (aH (aP (bI bdX xeX RX hr (aA (pv 2) (aA (pv 1) aB))))) aG) aG)))))), ?_⟩
     refine ⟨(by exact sz2), fun l nl => bL (sz := [3, 5]) aD kA fun p H1 s1 hh => ⟨_, rfl, rfl, _, rfl, bO (by decide) ⟨_, rfl, rfl, _, rfl, bO (by decide) ⟨_, rfl, rfl, _, rfl, bO (by decide) ⟨_, rfl, rfl, _, rfl, bO (by decide) ⟨_, rfl, rfl, _, rfl, bO (by decide) ⟨_, rfl, rfl, _, rfl, jY rfl ?_⟩⟩⟩⟩⟩⟩⟩
     have s3 := (Same.new nl).trans s1
     exact ⟨_, rfl, _, rfl, p, [3, 5], false, v, rfl, hh, hb.mono s3, fun o H' s' => k o H' (s3.trans s')⟩
   | 6, _ =>
     refine ⟨_, aC (aM (i := 2) nd rfl (Or.inl rfl) (bE HM hr4 (aA (aN (aA aE (aA aE aB))) (aA cL aB))))
       (aC (if0 (pv 0)) (aC (if0 (pv 0)) (aC (if0 (pv 0)) (aC (if0 (pv 0)) (aC (if0 (pv 0)) (aC (if0 (pv 0))
       (aC (aT (aV cT (pv 0) aE (nomark _)) (aH (aP (bI bdX xeX MX hr (aA (pv 2) (aA (pv 1) aB))))) aG) aG))))))), ?_⟩
     refine ⟨(by exact sz2), fun l nl => bL (sz := [3, 5]) aD kA fun p H1 s1 hh => ⟨_, rfl, rfl, _, rfl, bO (by decide) ⟨_, rfl, rfl, _, rfl, bO (by decide) ⟨_, rfl, rfl, _, rfl, bO (by decide) ⟨_, rfl, rfl, _, rfl, bO (by decide) ⟨_, rfl, rfl, _, rfl, bO (by decide) ⟨_, rfl, rfl, _, rfl, bO (by decide) ⟨_, rfl, rfl, _, rfl, jY rfl ?_⟩⟩⟩⟩⟩⟩⟩⟩
     have s3 := (Same.new nl).trans s1
     exact ⟨_, rfl, _, rfl, p, [3, 5], false, v, rfl, hh, hb.mono s3, fun o H' s' => k o H' (s3.trans s')⟩
   | 7, _ =>
     refine ⟨_, aC (aM (i := 2) nd rfl (Or.inl rfl) (bE HM hr4 (aA (aN (aA aE (aA aE aB))) (aA cL aB))))
       (aC (if0 (pv 0)) (aC (if0 (pv 0)) (aC (if0 (pv 0)) (aC (if0 (pv 0)) (aC (if0 (pv 0)) (aC (if0 (pv 0)) (aC (if0 (pv 0))
       (aC (aT (aV cT (pv 0) aE (nomark _)) (aH (aP (bI bdX xeX TX hr (aA (pv 2) (aA (pv 1) (aA (bD (aA aE (aA aE aB))) aB)))))) aG) aG)))))))), ?_⟩
     refine ⟨(by exact sz2), fun l nl => bL (sz := [3, 5]) aD kA fun p H1 s1 hh => ⟨_, rfl, rfl, _, rfl, bO (by decide) ⟨_, rfl, rfl, _, rfl, bO (by decide) ⟨_, rfl, rfl, _, rfl, bO (by decide) ⟨_, rfl, rfl, _, rfl, bO (by decide) ⟨_, rfl, rfl, _, rfl, bO (by decide) ⟨_, rfl, rfl, _, rfl, bO (by decide) ⟨_, rfl, rfl, _, rfl, bO (by decide) ⟨_, rfl, rfl, _, rfl, jY rfl ?_⟩⟩⟩⟩⟩⟩⟩⟩⟩
     refine ⟨_, rfl, _, rfl, (by exact sz2), fun t nt => ?_⟩
     have s3 := (Same.new nl).trans (s1.lay (o := .tup [.int 0, .int 0]) nt)
     exact ⟨p, [3, 5], false, v, _, rfl, hh.mono (Same.new nt), .inl (hb.mono s3), fun o H' s' => k o H' (s3.trans s')⟩
   | 8, _ =>
     refine ⟨_, aC (aM (i := 2) nd rfl (Or.inl rfl) (bE HM hr4 (aA (aN (aA aE (aA aE aB))) (aA cL aB))))
       (aC (if0 (pv 0)) (aC (if0 (pv 0)) (aC (if0 (pv 0)) (aC (if0 (pv 0)) (aC (if0 (pv 0)) (aC (if0 (pv 0)) (aC (if0 (pv 0)) (aC (if0 (pv 0))
       (aH (aP (bI bdX xeX TX hr (aA (pv 2) (aA (bD (aA aE (aA aE aB))) (aA (pv 1) aB)))))))))))))), ?_⟩
     refine ⟨(by exact sz2), fun l nl => bL (sz := [3, 5]) aD kA fun p H1 s1 hh => ⟨_, rfl, rfl, _, rfl, bO (by decide) ⟨_, rfl, rfl, _, rfl, bO (by decide) ⟨_, rfl, rfl, _, rfl, bO (by decide) ⟨_, rfl, rfl, _, rfl, bO (by decide) ⟨_, rfl, rfl, _, rfl, bO (by decide) ⟨_, rfl, rfl, _, rfl, bO (by decide) ⟨_, rfl, rfl, _, rfl, bO (by decide) ⟨_, rfl, rfl, _, rfl, bO (by decide) ?_⟩⟩⟩⟩⟩⟩⟩⟩⟩
     refine ⟨_, rfl, (by exact sz2), fun t nt => ⟨_, rfl, ?_⟩⟩
     have s3 := (Same.new nl).trans (s1.lay (o := .tup [.int 0, .int 0]) nt)
     exact ⟨p, [3, 5], false, _, v, rfl, hh.mono (Same.new nt), .inr ⟨t, [0, 0], rfl, aD, ⟨rfl, by decide⟩, hb.mono s3⟩, fun o H' s' => k o H' (s3.trans s')⟩
end
end Jug
namespace Jug
open PySem L2
section
variable {P : Program} {w : World} {K : W.Frag} {mg : Str → Option Value} {base : Heap} {CH CS CB CG : Addr} {Z : Cz} {G : Gz} {z : Ez}
theorem aQ9 {H : Hp} {q l : Addr} {v : V} {t : String} {m : J.Mv} (hm : iX Z H q m) (kv : Kd H v t) (e : H l = some (.lst [.ref q, v])) : kN Z H (.ref l) := by
 refine .inr ⟨l, _, rfl, e, fun x hx => ?_, v, by simp, t, kv⟩
 rcases List.mem_cons.mp hx with rfl | hx
 · exact .inr ⟨m, q, rfl, hm⟩
 · rcases List.mem_cons.mp hx with rfl | hx
   · exact .inl ⟨t, kv⟩
   · cases hx
theorem aE4 {H : Hp} {l : Addr} {v : V} {t : String} (kv : Kd H v t) (e : H l = some (.lst [v])) : kN Z H (.ref l) := by
 refine .inr ⟨l, _, rfl, e, fun x hx => ?_, v, by simp, t, kv⟩
 rcases List.mem_cons.mp hx with rfl | hx
 · exact .inl ⟨t, kv⟩
 · cases hx
def rG (Z : Cz) (CB : Addr) : Sp := fun vs H _ E => ∃ (d : Nat) (v : V) (t : String), vs = [.int d, v] ∧ d < 7 ∧ Kd H v t ∧ (d = 0 → cY v 0 3 = false ∨ v = .int 1) ∧ (d = 1 → cY v 0 3 = false ∨ v = .int 0) ∧ (2 ≤ d → cY v 0 3 = false) ∧ (d = 5 → kN Z H v) ∧ ∀ o H', Same H H' → E (.ref CB) o H'
theorem aM4 (F : Fun K "_law_with_move" "_law_with_move" dD f fd) (HM : MkB P w K mg base 3 "House" CH ["self", "sizes", "tap"] (dC CH)) (PM : MkB P w K mg base 4 "Pour" Z.P ["self", "one", "other"] (fX Z))
   (PX : MkX P w K mg base 4 "Pour" Z.P ["self", "one", "other"] (kJ CB)) (FX : MkX P w K mg base 4 "Fill" Z.F ["self", "jug"] (iA CB)) (EX : MkX P w K mg base 4 "Empty" Z.E ["self", "jug"] (iA CB))
   (DA : FnX P w K mg base 6 "done_all" ["moves", "house", "state"] (jE Z CH CS CB)) (RT : FnX P w K mg base 2 "routine_text" ["moves"] (fV Z CB)) :
   FnOk P w K mg base (CX1 P w) 10 f fd ["_law_door", "_law_bad"] (rG Z CB) := by
 refine F.okX kE (fun vs H Q E h => ?_) (fun cdv A outer s H vs Q E hr h => ?_)
 · obtain ⟨d, v, t, rfl, _⟩ := h
   rfl
 · obtain ⟨d, v, t, rfl, hd, kv, h0, h1, h2, h5, k⟩ := h
   have nd := kE.nd
   have hr2 : Room 2 _ := hr.mono (by decide)
   have hr4 : Room 4 _ := hr.mono (by decide)
   have hr5 : Room 5 _ := hr.mono (by decide)
   have hr6 : Room 6 _ := hr.mono (by decide)
   match d, hd with
   | 0, _ =>
     refine ⟨_, aC (aM (i := 2) nd rfl (Or.inl rfl) (bE HM hr4 (aA (aN (aA aE (aA aE aB))) (aA cL aB)))) (aC (aT (aV cT (pv 0) aE (nomark _)) (aH (aP (iH bdX xeX PX hr5 (aA (pv 1) (aA aE aB))))) aG) aG), ?_⟩
     refine ⟨(by exact sz2), fun l nl => bL (sz := [3, 5]) aD kA fun p H1 s1 hh => ?_⟩
     have s3 := (Same.new (o := .lst ([3, 5].map V.int)) nl).trans s1
     refine ⟨_, rfl, rfl, _, rfl, jY rfl ?_⟩
     exact ⟨_, rfl, yP (kv.mono s3) (.int 1) ((h0 rfl).imp id fun e => ⟨1, e, by decide, .inr rfl⟩) fun o H' s' => k o H' (s3.trans s')⟩
   | 1, _ =>
     refine ⟨_, aC (aM (i := 2) nd rfl (Or.inl rfl) (bE HM hr4 (aA (aN (aA aE (aA aE aB))) (aA cL aB)))) (aC (if0 (pv 0)) (aC (aT (aV cT (pv 0) aE (nomark _)) (aH (aP (iH bdX xeX PX hr5 (aA aE (aA (pv 1) aB))))) aG) aG)), ?_⟩
     refine ⟨(by exact sz2), fun l nl => bL (sz := [3, 5]) aD kA fun p H1 s1 hh => ?_⟩
     have s3 := (Same.new (o := .lst ([3, 5].map V.int)) nl).trans s1
     refine ⟨_, rfl, rfl, _, rfl, bO (by decide) ⟨_, rfl, rfl, _, rfl, jY rfl ?_⟩⟩
     exact ⟨_, rfl, yP (.int 0) (kv.mono s3) (.inr ⟨0, rfl, by decide, h1 rfl⟩) fun o H' s' => k o H' (s3.trans s')⟩
   | 2, _ =>
     refine ⟨_, aC (aM (i := 2) nd rfl (Or.inl rfl) (bE HM hr4 (aA (aN (aA aE (aA aE aB))) (aA cL aB)))) (aC (if0 (pv 0)) (aC (if0 (pv 0)) (aC (aT (aV cT (pv 0) aE (nomark _)) (aH (aP (iH bdX xeX FX hr5 (aA (pv 1) aB)))) aG) aG))), ?_⟩
     refine ⟨(by exact sz2), fun l nl => bL (sz := [3, 5]) aD kA fun p H1 s1 hh => ?_⟩
     have s3 := (Same.new (o := .lst ([3, 5].map V.int)) nl).trans s1
     refine ⟨_, rfl, rfl, _, rfl, bO (by decide) ⟨_, rfl, rfl, _, rfl, bO (by decide) ⟨_, rfl, rfl, _, rfl, jY rfl ?_⟩⟩⟩
     exact ⟨_, rfl, aC7 (kv.mono s3) (h2 (by decide)) fun o H' s' => k o H' (s3.trans s')⟩
   | 3, _ =>
     refine ⟨_, aC (aM (i := 2) nd rfl (Or.inl rfl) (bE HM hr4 (aA (aN (aA aE (aA aE aB))) (aA cL aB)))) (aC (if0 (pv 0)) (aC (if0 (pv 0)) (aC (if0 (pv 0)) (aC (aT (aV cT (pv 0) aE (nomark _)) (aH (aP (iH bdX xeX EX hr5 (aA (pv 1) aB)))) aG) aG)))), ?_⟩
     refine ⟨(by exact sz2), fun l nl => bL (sz := [3, 5]) aD kA fun p H1 s1 hh => ?_⟩
     have s3 := (Same.new (o := .lst ([3, 5].map V.int)) nl).trans s1
     refine ⟨_, rfl, rfl, _, rfl, bO (by decide) ⟨_, rfl, rfl, _, rfl, bO (by decide) ⟨_, rfl, rfl, _, rfl, bO (by decide) ⟨_, rfl, rfl, _, rfl, jY rfl ?_⟩⟩⟩⟩
     exact ⟨_, rfl, aC7 (kv.mono s3) (h2 (by decide)) fun o H' s' => k o H' (s3.trans s')⟩
   | 4, _ =>
     refine ⟨_, aC (aM (i := 2) nd rfl (Or.inl rfl) (bE HM hr4 (aA (aN (aA aE (aA aE aB))) (aA cL aB)))) (aC (if0 (pv 0)) (aC (if0 (pv 0)) (aC (if0 (pv 0)) (aC (if0 (pv 0)) (aC (aT (aV cT (pv 0) aE (nomark _)) (aH (aP (bI bdX xeX DA hr6 (aA (aN (aA (bE PM hr5 (aA aE (aA aE aB))) (aA (pv 1) aB))) (aA (pv 2) (aA fN aB)))))) aG) aG))))), ?_⟩
     refine ⟨(by exact sz2), fun l nl => bL (sz := [3, 5]) aD kA fun p H1 s1 hh => ?_⟩
     have s3 := (Same.new (o := .lst ([3, 5].map V.int)) nl).trans s1
     refine ⟨_, rfl, rfl, _, rfl, bO (by decide) ⟨_, rfl, rfl, _, rfl, bO (by decide) ⟨_, rfl, rfl, _, rfl, bO (by decide) ⟨_, rfl, rfl, _, rfl, bO (by decide) ⟨_, rfl, rfl, _, rfl, jY rfl ?_⟩⟩⟩⟩⟩
     refine iT (a := 0) (b := 1) (by decide) (by decide) (by decide) fun q H2 s2 hm => ⟨_, rfl, (by exact sz2), fun m nm => ⟨_, rfl, ?_⟩⟩
     have s4 := s3.trans (s2.lay (o := .lst [.ref q, v]) nm)
     exact ⟨_, p, _, [3, 5], false, rfl, hh.mono (s2.lay nm), .inl ⟨aQ9 (hm.mono (Same.new nm)) (kv.mono s4) aD, fun o H' s' => k o H' (s4.trans s')⟩⟩
   | 5, _ =>
     refine ⟨_, aC (aM (i := 2) nd rfl (Or.inl rfl) (bE HM hr4 (aA (aN (aA aE (aA aE aB))) (aA cL aB)))) (aC (if0 (pv 0)) (aC (if0 (pv 0)) (aC (if0 (pv 0)) (aC (if0 (pv 0)) (aC (if0 (pv 0)) (aC (aT (aV cT (pv 0) aE (nomark _)) (aH (aP (bI bdX xeX DA hr6 (aA (pv 1) (aA (pv 2) (aA fN aB)))))) aG) aG)))))), ?_⟩
     refine ⟨(by exact sz2), fun l nl => bL (sz := [3, 5]) aD kA fun p H1 s1 hh => ?_⟩
     have s3 := (Same.new (o := .lst ([3, 5].map V.int)) nl).trans s1
     refine ⟨_, rfl, rfl, _, rfl, bO (by decide) ⟨_, rfl, rfl, _, rfl, bO (by decide) ⟨_, rfl, rfl, _, rfl, bO (by decide) ⟨_, rfl, rfl, _, rfl, bO (by decide) ⟨_, rfl, rfl, _, rfl, bO (by decide) ⟨_, rfl, rfl, _, rfl, jY rfl ?_⟩⟩⟩⟩⟩⟩
     exact ⟨_, rfl, _, rfl, v, p, _, [3, 5], false, rfl, hh, .inl ⟨(h5 rfl).mono s3, fun o H' s' => k o H' (s3.trans s')⟩⟩
   | 6, _ =>
     refine ⟨_, aC (aM (i := 2) nd rfl (Or.inl rfl) (bE HM hr4 (aA (aN (aA aE (aA aE aB))) (aA cL aB)))) (aC (if0 (pv 0)) (aC (if0 (pv 0)) (aC (if0 (pv 0)) (aC (if0 (pv 0)) (aC (if0 (pv 0)) (aC (if0 (pv 0)) (aH (aP (bI bdX xeX RT hr2 (aA (aN (aA (pv 1) aB)) aB)))))))))), ?_⟩
     refine ⟨(by exact sz2), fun l nl => bL (sz := [3, 5]) aD kA fun p H1 s1 hh => ?_⟩
     have s3 := (Same.new (o := .lst ([3, 5].map V.int)) nl).trans s1
     refine ⟨_, rfl, rfl, _, rfl, bO (by decide) ⟨_, rfl, rfl, _, rfl, bO (by decide) ⟨_, rfl, rfl, _, rfl, bO (by decide) ⟨_, rfl, rfl, _, rfl, bO (by decide) ⟨_, rfl, rfl, _, rfl, bO (by decide) ⟨_, rfl, rfl, _, rfl, bO (by decide) ?_⟩⟩⟩⟩⟩⟩
     refine ⟨_, rfl, (by exact sz1), fun m nm => ?_⟩
     have s4 := s3.lay (o := .lst [v]) nm
     exact ⟨_, rfl, aE4 (kv.mono s4) aD, fun o H' s' => k o H' (s4.trans s')⟩
def rH (CG : Addr) : Sp := fun vs H _ E => ∃ (d : Nat) (v : V) (t : String), vs = [.int d, v] ∧ d < 7 ∧ Kd H v t ∧ (d = 0 ∨ d = 4 → cY v 0 3 = false) ∧ (1 ≤ d ∧ d ≤ 3 → cY v 0 240 = false) ∧ (d = 5 → cY v 0 60 = false) ∧ ∀ o H', Same H H' → E (.ref CG) o H'
theorem aM6 (F : Fun K "_law_with_goal" "_law_with_goal" dE f fd) (HM : MkB P w K mg base 3 "House" CH ["self", "sizes", "tap"] (dC CH))
   (OX : MkX P w K mg base 4 "Holds" G.H ["self", "jug", "many"] (jR CG)) (SX : MkX P w K mg base 3 "Some" G.S ["self", "many"] (kI CG)) (UX : MkX P w K mg base 5 "Sum" G.U ["self", "jugs", "many"] (jG G CG)) (WX : MkX P w K mg base 3 "Whole" G.W ["self", "state"] (iB CG))
   (FW : FnX P w K mg base 9 "fewest" ["house", "state", "goal"] (kY G CH CS CG)) : FnOk P w K mg base (CX1 P w) 10 f fd ["_law_door", "_law_bad"] (rH CG) := by
 refine F.okX oI (fun vs H Q E h => ?_) (fun cdv A outer s H vs Q E hr h => ?_)
 · obtain ⟨d, v, t, rfl, _⟩ := h
   rfl
 · obtain ⟨d, v, t, rfl, hd, kv, h0, h1, h5, k⟩ := h
   have hr4 : Room 4 _ := hr.mono (by decide)
   have hr5 : Room 5 _ := hr.mono (by decide)
   have hr6 : Room 6 _ := hr.mono (by decide)
   match d, hd with
   | 0, _ =>
     refine ⟨_, (aC (aT (aV cT (pv 0) aE (nomark _)) (aH (aP (iH bdX xeX OX hr5 (aA (pv 1) (aA aE aB))))) aG) aG), ?_⟩
     refine ⟨_, rfl, rfl, _, rfl, jY rfl ?_⟩
     exact ⟨_, rfl, vF kv (.int 1) (.inl (h0 (.inl rfl))) k⟩
   | 1, _ =>
     refine ⟨_, (aC (if0 (pv 0)) (aC (aT (aV cT (pv 0) aE (nomark _)) (aH (aP (iH bdX xeX OX hr5 (aA aE (aA (pv 1) aB))))) aG) aG)), ?_⟩
     refine ⟨_, rfl, rfl, _, rfl, bO (by decide) ⟨_, rfl, rfl, _, rfl, jY rfl ?_⟩⟩
     exact ⟨_, rfl, vF (.int 1) kv (.inr ⟨1, rfl, by decide, h1 (by decide)⟩) k⟩
   | 2, _ =>
     refine ⟨_, (aC (if0 (pv 0)) (aC (if0 (pv 0)) (aC (aT (aV cT (pv 0) aE (nomark _)) (aH (aP (iH bdX xeX SX hr4 (aA (pv 1) aB)))) aG) aG))), ?_⟩
     refine ⟨_, rfl, rfl, _, rfl, bO (by decide) ⟨_, rfl, rfl, _, rfl, bO (by decide) ⟨_, rfl, rfl, _, rfl, jY rfl ?_⟩⟩⟩
     exact ⟨_, rfl, aN5 kv (h1 (by decide)) k⟩
   | 3, _ =>
     refine ⟨_, (aC (if0 (pv 0)) (aC (if0 (pv 0)) (aC (if0 (pv 0)) (aC (aT (aV cT (pv 0) aE (nomark _)) (aH (aP (iH bdX xeX UX hr6 (aA (aN (aA aE aB)) (aA (pv 1) aB))))) aG) aG)))), ?_⟩
     refine ⟨_, rfl, rfl, _, rfl, bO (by decide) ⟨_, rfl, rfl, _, rfl, bO (by decide) ⟨_, rfl, rfl, _, rfl, bO (by decide) ⟨_, rfl, rfl, _, rfl, jY rfl ?_⟩⟩⟩⟩
     refine ⟨(by exact sz1), fun m nm => ⟨_, rfl, wP (.inr ⟨m, [0], t, rfl, aD, by decide, by decide, by decide, by decide, kv.mono (Same.new nm), h1 (by decide)⟩) fun o H' s' => k o H' ((Same.new nm).trans s')⟩⟩
   | 4, _ =>
     refine ⟨_, (aC (if0 (pv 0)) (aC (if0 (pv 0)) (aC (if0 (pv 0)) (aC (if0 (pv 0)) (aC (aT (aV cT (pv 0) aE (nomark _)) (aH (aP (iH bdX xeX UX hr6 (aA (aN (aA (pv 1) aB)) (aA aE aB))))) aG) aG))))), ?_⟩
     refine ⟨_, rfl, rfl, _, rfl, bO (by decide) ⟨_, rfl, rfl, _, rfl, bO (by decide) ⟨_, rfl, rfl, _, rfl, bO (by decide) ⟨_, rfl, rfl, _, rfl, bO (by decide) ⟨_, rfl, rfl, _, rfl, jY rfl ?_⟩⟩⟩⟩⟩
     refine ⟨_, rfl, (by exact sz1), fun m nm => wP (.inl (.inr ⟨m, [v], rfl, aD, fun x hx => ?_, .inl ⟨v, by simp, h0 (.inr rfl)⟩⟩)) fun o H' s' => k o H' ((Same.new nm).trans s')⟩
     rcases List.mem_cons.mp hx with rfl | hx
     · exact ⟨t, kv.mono (Same.new nm)⟩
     · cases hx
   | 5, _ =>
     refine ⟨_, (aC (if0 (pv 0)) (aC (if0 (pv 0)) (aC (if0 (pv 0)) (aC (if0 (pv 0)) (aC (if0 (pv 0)) (aC (aT (aV cT (pv 0) aE (nomark _)) (aH (aP (iH bdX xeX WX hr4 (aA (bD (aA aE (aA (pv 1) aB))) aB)))) aG) aG)))))), ?_⟩
     refine ⟨_, rfl, rfl, _, rfl, bO (by decide) ⟨_, rfl, rfl, _, rfl, bO (by decide) ⟨_, rfl, rfl, _, rfl, bO (by decide) ⟨_, rfl, rfl, _, rfl, bO (by decide) ⟨_, rfl, rfl, _, rfl, bO (by decide) ⟨_, rfl, rfl, _, rfl, jY rfl ?_⟩⟩⟩⟩⟩⟩
     refine ⟨_, rfl, (by exact sz2), fun m nm => vD (.inr ⟨m, [.int 1, v], rfl, aD, fun x hx => ?_, .inr (.inr ⟨v, by simp, h5 rfl⟩)⟩) fun o H' s' => k o H' ((Same.new nm).trans s')⟩
     rcases List.mem_cons.mp hx with rfl | hx
     · exact ⟨_, .int 1⟩
     · rcases List.mem_cons.mp hx with rfl | hx
       · exact ⟨t, kv.mono (Same.new nm)⟩
       · cases hx
   | 6, _ =>
     refine ⟨_, (aC (if0 (pv 0)) (aC (if0 (pv 0)) (aC (if0 (pv 0)) (aC (if0 (pv 0)) (aC (if0 (pv 0)) (aC (if0 (pv 0)) (aH (aP (bI bdX xeX FW hr (aA (bE HM hr4 (aA (aN (aA aE (aA aE aB))) (aA cL aB))) (aA (bD (aA aE (aA aE aB))) (aA (pv 1) aB)))))))))))), ?_⟩
     refine ⟨_, rfl, rfl, _, rfl, bO (by decide) ⟨_, rfl, rfl, _, rfl, bO (by decide) ⟨_, rfl, rfl, _, rfl, bO (by decide) ⟨_, rfl, rfl, _, rfl, bO (by decide) ⟨_, rfl, rfl, _, rfl, bO (by decide) ⟨_, rfl, rfl, _, rfl, bO (by decide) ?_⟩⟩⟩⟩⟩⟩
     refine ⟨(by exact sz2), fun l nl => bL (sz := [3, 5]) aD kA fun p H1 s1 hh => ⟨(by exact sz2), fun m nm => ⟨_, rfl, ?_⟩⟩⟩
     have s3 := (Same.new (o := .lst ([3, 5].map V.int)) nl).trans (s1.lay (o := .tup [.int 0, .int 0]) nm)
     exact ⟨p, _, v, [3, 5], true, rfl, hh.mono (Same.new nm), .inr ⟨m, [0, 0], rfl, aD, ⟨rfl, by decide⟩, .inl ⟨t, kv.mono s3, fun o H' s' => k o H' (s3.trans s')⟩⟩⟩
end
end Jug
namespace Jug
open PySem L2
def mvW : Nat → J.Mv
 | 0 => .fill 0
 | 1 => .emp 1
 | 2 => .pour 0 2
 | 3 => .pour 3 1
 | 4 => .fill 2
 | 5 => .emp 3
 | _ => .pour 2 0
theorem aW1 : ∀ (n : Nat), n < 7 → unfit 2 (decide ((3 : Int) < (n : Int))) (mvW n)
 | 0, _ => .inr (by decide)
 | 1, _ => .inr (by decide)
 | 2, _ => .inr (by decide)
 | 3, _ => .inl (by decide)
 | 4, _ => .inl (by decide)
 | 5, _ => .inl (by decide)
 | 6, _ => .inl (by decide)
def goW : Nat → Go
 | 0 => .holds 2 0
 | 1 => .sum [0, 3] 1
 | 2 => .whole [0]
 | 3 => .whole [0, 0, 0]
 | 4 => .whole [4, 0]
 | _ => .whole [0, 6]
theorem aT9 : ∀ (n : Nat), n < 6 → (goW n).unfit [3, 5]
 | 0, _ => (by decide : 2 ≤ 2)
 | 1, _ => ⟨by decide, 3, by decide, by decide⟩
 | 2, _ => (by decide : uH ([0].map V.int) [3, 5] = false)
 | 3, _ => (by decide : uH ([0, 0, 0].map V.int) [3, 5] = false)
 | 4, _ => (by decide : uH ([4, 0].map V.int) [3, 5] = false)
 | 5, _ => (by decide : uH ([0, 6].map V.int) [3, 5] = false)
section
variable {P : Program} {w : World} {K : W.Frag} {mg : Str → Option Value} {base : Heap} {CH CS CB CG : Addr} {Z : Cz} {G : Gz} {z : Ez}
theorem aU8 {H : Hp} {p0 p1 p2 p3 p4 p5 p6 : Addr} (m0 : iX Z H p0 (.fill 0)) (m1 : iX Z H p1 (.emp 1)) (m2 : iX Z H p2 (.pour 0 2)) (m3 : iX Z H p3 (.pour 3 1)) (m4 : iX Z H p4 (.fill 2)) (m5 : iX Z H p5 (.emp 3)) (m6 : iX Z H p6 (.pour 2 0)) :
   ∀ (n : Nat), n < 7 → ∃ p, [V.ref p0, .ref p1, .ref p2, .ref p3, .ref p4, .ref p5, .ref p6][n]? = some (.ref p) ∧ iX Z H p (mvW n)
 | 0, _ => ⟨_, rfl, m0⟩
 | 1, _ => ⟨_, rfl, m1⟩
 | 2, _ => ⟨_, rfl, m2⟩
 | 3, _ => ⟨_, rfl, m3⟩
 | 4, _ => ⟨_, rfl, m4⟩
 | 5, _ => ⟨_, rfl, m5⟩
 | 6, _ => ⟨_, rfl, m6⟩
theorem aU9 {H : Hp} {p0 p1 p2 p3 p4 p5 : Addr} (m0 : gJ G H p0 (.holds 2 0)) (m1 : gJ G H p1 (.sum [0, 3] 1)) (m2 : gJ G H p2 (.whole [0])) (m3 : gJ G H p3 (.whole [0, 0, 0])) (m4 : gJ G H p4 (.whole [4, 0])) (m5 : gJ G H p5 (.whole [0, 6])) :
   ∀ (n : Nat), n < 6 → ∃ p, [V.ref p0, .ref p1, .ref p2, .ref p3, .ref p4, .ref p5][n]? = some (.ref p) ∧ gJ G H p (goW n)
 | 0, _ => ⟨_, rfl, m0⟩
 | 1, _ => ⟨_, rfl, m1⟩
 | 2, _ => ⟨_, rfl, m2⟩
 | 3, _ => ⟨_, rfl, m3⟩
 | 4, _ => ⟨_, rfl, m4⟩
 | 5, _ => ⟨_, rfl, m5⟩
def pC (CB : Addr) : Sp := fun vs H _ E => ∃ (d n : Nat), vs = [.int d, .int n] ∧ d < 2 ∧ n < 7 ∧ ∀ o H', Same H H' → E (.ref CB) o H'
theorem aF8 (F : Fun K "_law_unfit" "_law_unfit" fZ f fd) (HM : MkB P w K mg base 3 "House" CH ["self", "sizes", "tap"] (dC CH)) (PM : MkB P w K mg base 4 "Pour" Z.P ["self", "one", "other"] (fX Z))
   (FM : MkB P w K mg base 4 "Fill" Z.F ["self", "jug"] (dB Z.F)) (EM : MkB P w K mg base 4 "Empty" Z.E ["self", "jug"] (dB Z.E)) (D : ∀ C, sX Z C → MeX P w K mg base 5 C "done" ["self", "house", "state"] (oC Z CH CS CB)) (DA : FnX P w K mg base 6 "done_all" ["moves", "house", "state"] (jE Z CH CS CB)) :
   FnOk P w K mg base (CX1 P w) 10 f fd ["_law_door", "_law_way"] (pC CB) := by
 refine F.okX mT (fun vs H Q E h => ?_) (fun cdv A outer s H vs Q E hr h => ?_)
 · obtain ⟨d, n, rfl, _⟩ := h
   rfl
 · obtain ⟨d, n, rfl, hd, hn, k⟩ := h
   have nd := mT.nd
   have hr4 : Room 4 _ := hr.mono (by decide)
   have hr5 : Room 5 _ := hr.mono (by decide)
   have hr6 : Room 6 _ := hr.mono (by decide)
   have hu := aW1 n hn
   have hst : J.IsSt [3, 5] [3, 0] := ⟨rfl, by decide⟩
   have hs0 : ∀ i, i < [3, 5].length → 0 ≤ J.at0 [3, 5] i := by decide
   match d, hd with
   | 0, _ =>
     refine ⟨_, aC (aM (i := 2) nd rfl (Or.inl rfl) (bE HM hr4 (aA (aN (aA aE (aA aE aB))) (aA (gO aC4 (pv 1) aE (nomark _)) aB))))
       (aC (aM (i := 3) nd rfl (Or.inl rfl) (fO wV (bD (aA (bE FM hr5 (aA aE aB)) (aA (bE EM hr5 (aA aE aB)) (aA (bE PM hr5 (aA aE (aA aE aB))) (aA (bE PM hr5 (aA aE (aA aE aB)))
         (aA (bE FM hr5 (aA aE aB)) (aA (bE EM hr5 (aA aE aB)) (aA (bE PM hr5 (aA aE (aA aE aB))) aB)))))))) (pv 1) (fun _ _ => rfl)))
       (aC (aT (aV cT (pv 0) aE (nomark _)) (aH (aP (qT bdX xeX D (pv 3) hr5 (aA (pv 2) (aA (bD (aA aE (aA aE aB))) aB))))) aG) aG)), ?_⟩
     refine ⟨(by exact sz2), fun l nl => ⟨_, rfl, _, _, rfl, rfl, bL (sz := [3, 5]) aD kA fun p H1 s1 hh => ?_⟩⟩
     refine mK (a := 0) (by decide) fun p0 H2 s2 m0 => wQ (a := 1) (by decide) fun p1 H3 s3 m1 => iT (a := 0) (b := 2) (by decide) (by decide) (by decide) fun p2 H4 s4 m2 => iT (a := 3) (b := 1) (by decide) (by decide) (by decide) fun p3 H5 s5 m3 =>
       mK (a := 2) (by decide) fun p4 H6 s6 m4 => wQ (a := 3) (by decide) fun p5 H7 s7 m5 => iT (a := 2) (b := 0) (by decide) (by decide) (by decide) fun p6 H8 s8 m6 => ⟨(by exact sz7), fun t nt => ?_⟩
     have s9 : Same H8 (upd H8 t (.tup [.ref p0, .ref p1, .ref p2, .ref p3, .ref p4, .ref p5, .ref p6])) := Same.new nt
     have s89 := s8.trans s9
     have s79 := s7.trans s89
     have s69 := s6.trans s79
     have s59 := s5.trans s69
     have s49 := s4.trans s59
     have s39 := s3.trans s49
     have s29 := s2.trans s39
     have s19 := (Same.new (o := .lst ([3, 5].map V.int)) nl).trans (s1.trans s29)
     obtain ⟨p', ep, mp⟩ := aU8 (m0.mono s39) (m1.mono s49) (m2.mono s59) (m3.mono s69) (m4.mono s79) (m5.mono s89) (m6.mono s9) n hn
     obtain ⟨dp, hp⟩ := id mp
     refine ⟨_, rfl, t, _, _, _, rfl, rfl, SqT.of aD, eZ ep, ?_⟩
     refine ⟨_, rfl, rfl, _, rfl, jY rfl ⟨_, rfl, Z.cl (mvW n), p', dp, _, sW Z _, rfl, hp, wZ _ (by decide +kernel) (by decide +kernel) (by decide +kernel), _, rfl, (by exact sz2), fun u nu => ?_⟩⟩
     exact ⟨p', p, _, [3, 5], _, mvW n, rfl, mp.mono (Same.new nu), hh.mono (s29.lay nu), .inr ⟨u, [3, 0], rfl, aD, hst, hu, fun o H' s' => k o H' ((s19.lay nu).trans s')⟩⟩
   | 1, _ =>
     refine ⟨_, aC (aM (i := 2) nd rfl (Or.inl rfl) (bE HM hr4 (aA (aN (aA aE (aA aE aB))) (aA (gO aC4 (pv 1) aE (nomark _)) aB))))
       (aC (aM (i := 3) nd rfl (Or.inl rfl) (fO wV (bD (aA (bE FM hr5 (aA aE aB)) (aA (bE EM hr5 (aA aE aB)) (aA (bE PM hr5 (aA aE (aA aE aB))) (aA (bE PM hr5 (aA aE (aA aE aB)))
         (aA (bE FM hr5 (aA aE aB)) (aA (bE EM hr5 (aA aE aB)) (aA (bE PM hr5 (aA aE (aA aE aB))) aB)))))))) (pv 1) (fun _ _ => rfl)))
       (aC (if0 (pv 0)) (aH (aP (bI bdX xeX DA hr6 (aA (aN (aA (bE PM hr5 (aA aE (aA aE aB))) (aA (pv 3) aB))) (aA (pv 2) (aA (bD (aA aE (aA aE aB))) aB)))))))), ?_⟩
     refine ⟨(by exact sz2), fun l nl => ⟨_, rfl, _, _, rfl, rfl, bL (sz := [3, 5]) aD kA fun p H1 s1 hh => ?_⟩⟩
     refine mK (a := 0) (by decide) fun p0 H2 s2 m0 => wQ (a := 1) (by decide) fun p1 H3 s3 m1 => iT (a := 0) (b := 2) (by decide) (by decide) (by decide) fun p2 H4 s4 m2 => iT (a := 3) (b := 1) (by decide) (by decide) (by decide) fun p3 H5 s5 m3 =>
       mK (a := 2) (by decide) fun p4 H6 s6 m4 => wQ (a := 3) (by decide) fun p5 H7 s7 m5 => iT (a := 2) (b := 0) (by decide) (by decide) (by decide) fun p6 H8 s8 m6 => ⟨(by exact sz7), fun t nt => ?_⟩
     have s9 : Same H8 (upd H8 t (.tup [.ref p0, .ref p1, .ref p2, .ref p3, .ref p4, .ref p5, .ref p6])) := Same.new nt
     have s89 := s8.trans s9
     have s79 := s7.trans s89
     have s69 := s6.trans s79
     have s59 := s5.trans s69
     have s49 := s4.trans s59
     have s39 := s3.trans s49
     have s29 := s2.trans s39
     have s19 := (Same.new (o := .lst ([3, 5].map V.int)) nl).trans (s1.trans s29)
     obtain ⟨p', ep, mp⟩ := aU8 (m0.mono s39) (m1.mono s49) (m2.mono s59) (m3.mono s69) (m4.mono s79) (m5.mono s89) (m6.mono s9) n hn
     obtain ⟨dp, hp⟩ := id mp
     refine ⟨_, rfl, t, _, _, _, rfl, rfl, SqT.of aD, eZ ep, ?_⟩
     refine ⟨_, rfl, rfl, _, rfl, bO (by decide) (iT (a := 0) (b := 1) (by decide) (by decide) (by decide) fun q Ha sa mq => ⟨_, rfl, (by exact sz2), fun x nx => ⟨_, rfl, (by exact sz2), fun u nu => ?_⟩⟩)⟩
     have sb : Same (upd H8 t (.tup [.ref p0, .ref p1, .ref p2, .ref p3, .ref p4, .ref p5, .ref p6])) (upd (upd Ha x (.lst [.ref q, .ref p'])) u (.tup [.int 3, .int 0])) := (sa.lay nx).lay nu
     exact ⟨_, p, _, [3, 5], _, rfl, hh.mono (s29.trans sb), .inr ⟨x, _, [.pour 0 1, mvW n], rfl, (Same.new nu) _ _ aD, .cons ⟨q, rfl, (mq.mono (Same.new nx)).mono (Same.new nu)⟩ (.cons ⟨p', rfl, mp.mono sb⟩ .nil),
       .inr ⟨u, [3, 0], [.pour 0 1], mvW n, [], rfl, aD, hst, hs0, rfl, fun y hy => by rw [List.mem_singleton.mp hy]; exact ⟨by decide, by decide, by decide⟩, hu, fun o H' s' => k o H' ((s19.trans sb).trans s')⟩⟩⟩
def nI (CG : Addr) : Sp := fun vs H _ E => ∃ (d n : Nat), vs = [.int d, .int n] ∧ d < 2 ∧ n < 6 ∧ ∀ o H', Same H H' → E (.ref CG) o H'
theorem zP (F : Fun K "_law_goal_unfit" "_law_goal_unfit" cW f fd) (HM : MkB P w K mg base 3 "House" CH ["self", "sizes", "tap"] (dC CH)) (OM : MkB P w K mg base 4 "Holds" G.H ["self", "jug", "many"] (gD G))
   (UM : MkB P w K mg base 5 "Sum" G.U ["self", "jugs", "many"] (lZ G)) (WM : MkB P w K mg base 3 "Whole" G.W ["self", "state"] (iR G)) (CM : ∀ C, nF G C → MeX P w K mg base 5 C "come" ["self", "house", "state"] (oE G CH CS CG)) (FW : FnX P w K mg base 9 "fewest" ["house", "state", "goal"] (kY G CH CS CG)) :
   FnOk P w K mg base (CX1 P w) 10 f fd ["_law_door", "_law_way"] (nI CG) := by
 refine F.okX jU (fun vs H Q E h => ?_) (fun cdv A outer s H vs Q E hr h => ?_)
 · obtain ⟨d, n, rfl, _⟩ := h
   rfl
 · obtain ⟨d, n, rfl, hd, hn, k⟩ := h
   have nd := jU.nd
   have hr4 : Room 4 _ := hr.mono (by decide)
   have hr5 : Room 5 _ := hr.mono (by decide)
   have hr6 : Room 6 _ := hr.mono (by decide)
   have hu := aT9 n hn
   match d, hd with
   | 0, _ =>
     refine ⟨_, aC (aM (i := 2) nd rfl (Or.inl rfl) (fO wV (bD (aA (bE OM hr5 (aA aE (aA aE aB))) (aA (bE UM hr6 (aA (aN (aA aE (aA aE aB))) (aA aE aB)))
         (aA (bE WM hr4 (aA (bD (aA aE aB)) aB)) (aA (bE WM hr4 (aA (bD (aA aE (aA aE (aA aE aB)))) aB)) (aA (bE WM hr4 (aA (bD (aA aE (aA aE aB))) aB)) (aA (bE WM hr4 (aA (bD (aA aE (aA aE aB))) aB)) aB))))))) (pv 1) (fun _ _ => rfl)))
       (aC (aT (aV cT (pv 0) aE (nomark _)) (aH (aP (qT bdX xeX CM (pv 2) hr5 (aA (bE HM hr4 (aA (aN (aA aE (aA aE aB))) (aA cL aB))) (aA (bD (aA aE (aA aE aB))) aB))))) aG) aG), ?_⟩
     refine oR (j := 2) (m := 0) (by decide) (by decide) (by decide) fun p0 H1 s1 m0 => ⟨(by exact sz2), fun a1 n1 => ?_⟩
     refine aN4 (js := [0, 3]) (m := 1) aD (by decide) (by decide) (by decide) (by decide) (by decide) (by decide) fun p1 H2 s2 m1 => ⟨(by exact sz1), fun a2 n2 => ?_⟩
     refine iJ (st := [0]) aD (by decide) (by decide) (by decide) fun p2 H3 s3 m2 => ⟨(by exact sz3), fun a3 n3 => ?_⟩
     refine iJ (st := [0, 0, 0]) aD (by decide) (by decide) (by decide) fun p3 H4 s4 m3 => ⟨(by exact sz2), fun a4 n4 => ?_⟩
     refine iJ (st := [4, 0]) aD (by decide) (by decide) (by decide) fun p4 H5 s5 m4 => ⟨(by exact sz2), fun a5 n5 => ?_⟩
     refine iJ (st := [0, 6]) aD (by decide) (by decide) (by decide) fun p5 H6 s6 m5 => ⟨(by exact sz6), fun t nt => ?_⟩
     have s7 : Same H6 (upd H6 t (.tup [.ref p0, .ref p1, .ref p2, .ref p3, .ref p4, .ref p5])) := Same.new nt
     have s67 := ((Same.new (o := .tup ([0, 6].map V.int)) n5).trans s6).trans s7
     have s57 := ((Same.new (o := .tup ([4, 0].map V.int)) n4).trans s5).trans s67
     have s47 := ((Same.new (o := .tup ([0, 0, 0].map V.int)) n3).trans s4).trans s57
     have s37 := ((Same.new (o := .tup ([0].map V.int)) n2).trans s3).trans s47
     have s27 := ((Same.new (o := .lst ([0, 3].map V.int)) n1).trans s2).trans s37
     have s17 := s1.trans s27
     obtain ⟨p', ep, mp⟩ := aU9 (m0.mono s27) (m1.mono s37) (m2.mono s47) (m3.mono s57) (m4.mono s67) (m5.mono s7) n hn
     obtain ⟨dp, fs, hp, hno⟩ := mp.no
     refine ⟨_, rfl, t, _, _, _, rfl, rfl, SqT.of aD, eZ ep, ?_⟩
     refine ⟨_, rfl, rfl, _, rfl, jY rfl ⟨_, rfl, G.cl (goW n), p', dp, fs, nF.of G _, rfl, hp, hno, (by exact sz2), fun l nl => bL (sz := [3, 5]) aD kA fun h H8 s8 hh => ⟨(by exact sz2), fun u nu => ?_⟩⟩⟩
     have s9 : Same (upd H6 t (.tup [.ref p0, .ref p1, .ref p2, .ref p3, .ref p4, .ref p5])) (upd H8 u (.tup ([0, 0].map V.int))) := ((Same.new nl).trans s8).lay nu
     exact ⟨p', h, _, [3, 5], true, goW n, rfl, mp.mono s9, hh.mono (Same.new nu), .inr ⟨u, [0, 0], rfl, aD, ⟨rfl, by decide⟩, hu, fun o H' s' => k o H' ((s17.trans s9).trans s')⟩⟩
   | 1, _ =>
     refine ⟨_, aC (aM (i := 2) nd rfl (Or.inl rfl) (fO wV (bD (aA (bE OM hr5 (aA aE (aA aE aB))) (aA (bE UM hr6 (aA (aN (aA aE (aA aE aB))) (aA aE aB)))
         (aA (bE WM hr4 (aA (bD (aA aE aB)) aB)) (aA (bE WM hr4 (aA (bD (aA aE (aA aE (aA aE aB)))) aB)) (aA (bE WM hr4 (aA (bD (aA aE (aA aE aB))) aB)) (aA (bE WM hr4 (aA (bD (aA aE (aA aE aB))) aB)) aB))))))) (pv 1) (fun _ _ => rfl)))
       (aC (if0 (pv 0)) (aH (aP (bI bdX xeX FW hr (aA (bE HM hr4 (aA (aN (aA aE (aA aE aB))) (aA cL aB))) (aA (bD (aA aE (aA aE aB))) (aA (pv 2) aB))))))), ?_⟩
     refine oR (j := 2) (m := 0) (by decide) (by decide) (by decide) fun p0 H1 s1 m0 => ⟨(by exact sz2), fun a1 n1 => ?_⟩
     refine aN4 (js := [0, 3]) (m := 1) aD (by decide) (by decide) (by decide) (by decide) (by decide) (by decide) fun p1 H2 s2 m1 => ⟨(by exact sz1), fun a2 n2 => ?_⟩
     refine iJ (st := [0]) aD (by decide) (by decide) (by decide) fun p2 H3 s3 m2 => ⟨(by exact sz3), fun a3 n3 => ?_⟩
     refine iJ (st := [0, 0, 0]) aD (by decide) (by decide) (by decide) fun p3 H4 s4 m3 => ⟨(by exact sz2), fun a4 n4 => ?_⟩
     refine iJ (st := [4, 0]) aD (by decide) (by decide) (by decide) fun p4 H5 s5 m4 => ⟨(by exact sz2), fun a5 n5 => ?_⟩
     refine iJ (st := [0, 6]) aD (by decide) (by decide) (by decide) fun p5 H6 s6 m5 => ⟨(by exact sz6), fun t nt => ?_⟩
     have s7 : Same H6 (upd H6 t (.tup [.ref p0, .ref p1, .ref p2, .ref p3, .ref p4, .ref p5])) := Same.new nt
     have s67 := ((Same.new (o := .tup ([0, 6].map V.int)) n5).trans s6).trans s7
     have s57 := ((Same.new (o := .tup ([4, 0].map V.int)) n4).trans s5).trans s67
     have s47 := ((Same.new (o := .tup ([0, 0, 0].map V.int)) n3).trans s4).trans s57
     have s37 := ((Same.new (o := .tup ([0].map V.int)) n2).trans s3).trans s47
     have s27 := ((Same.new (o := .lst ([0, 3].map V.int)) n1).trans s2).trans s37
     have s17 := s1.trans s27
     obtain ⟨p', ep, mp⟩ := aU9 (m0.mono s27) (m1.mono s37) (m2.mono s47) (m3.mono s57) (m4.mono s67) (m5.mono s7) n hn
     obtain ⟨dp, fs, hp, hno⟩ := mp.no
     refine ⟨_, rfl, t, _, _, _, rfl, rfl, SqT.of aD, eZ ep, ?_⟩
     refine ⟨_, rfl, rfl, _, rfl, bO (by decide) ⟨(by exact sz2), fun l nl => bL (sz := [3, 5]) aD kA fun h H8 s8 hh => ⟨(by exact sz2), fun u nu => ⟨_, rfl, ?_⟩⟩⟩⟩
     have s9 : Same (upd H6 t (.tup [.ref p0, .ref p1, .ref p2, .ref p3, .ref p4, .ref p5])) (upd H8 u (.tup ([3, 5].map V.int))) := ((Same.new nl).trans s8).lay nu
     exact ⟨h, _, _, [3, 5], false, rfl, hh.mono (Same.new nu), .inr ⟨u, [3, 5], rfl, aD, ⟨rfl, by decide⟩, .inr ⟨p', goW n, rfl, kA, mp.mono s9, hu, fun o H' s' => k o H' ((s17.trans s9).trans s')⟩⟩⟩
end
end Jug
namespace Jug
open PySem L2
section
variable {X : Cx}
theorem vC : OpR X (compareOp .IsNot) (fun x y H Q => ∃ b c, x = .bl b ∧ y = .bl c ∧ Q (.bl (b != c)) H) := by
 intro pins s σ H x y v u Q I rx ry h
 obtain ⟨b, c, rfl, rfl, q⟩ := h
 cases rx
 cases ry
 exact PyProof.Rows.isnot_bool (cC I q rfl)
end
theorem bC7 {b : Bool} {A B : Prop} (hb : b = false) (h : B) : if b = true then A else B := by subst hb; exact cB h
theorem aY1 : J.moves 1 false = [] := by decide
theorem bA7 : wst [60] false [7] = [[7]] := by decide +kernel
theorem aT7 : (J.states [49, 39]).length = 2000 := by
 have := J.sN (sz := [49, 39]) (by decide)
 have e : J.uX [49, 39] = 2000 := by decide
 omega
section
variable {P : Program} {w : World} {K : W.Frag} {mg : Str → Option Value} {base : Heap} {CH CS CB CG : Addr} {Z : Cz} {G : Gz} {z : Ez}
def xQ : Sp := fun vs H Q _ => vs = [] ∧ ∀ H', Same H H' → Q (.bl true) H'
theorem aM5 (F : Fun K "_law_good" "_law_good" hV f fd) (B : Bt mg) (HM : MkB P w K mg base 3 "House" CH ["self", "sizes", "tap"] (dC CH)) (MO : MeB P w K mg base 7 CH "moves" ["self"] (rF Z CH)) (ST : MeB P w K mg base 2 CH "states" ["self"] (uS CH))
   (SM : MkB P w K mg base 3 "Some" G.S ["self", "many"] (kZ G)) (OM : MkB P w K mg base 4 "Holds" G.H ["self", "jug", "many"] (gD G)) (WM : MkB P w K mg base 3 "Whole" G.W ["self", "state"] (iR G)) (CM : ∀ C, nF G C → MeB P w K mg base 5 C "come" ["self", "house", "state"] (aB4 G CH))
   (RE : FnB P w K mg base 9 "reached" ["house", "state"] (rE CH)) : FnOk P w K mg base CX0 10 f fd [] xQ := by
 refine F.ok vU (fun vs H Q E h => ?_) (fun cdv A outer s H vs Q E hr h => ?_)
 · obtain ⟨rfl, _⟩ := h
   rfl
 · obtain ⟨rfl, k⟩ := h
   have hr2 : Room 2 _ := hr.mono (by decide)
   have hr4 : Room 4 _ := hr.mono (by decide)
   have hr5 : Room 5 _ := hr.mono (by decide)
   have hr7 : Room 7 _ := hr.mono (by decide)
   have hu := hr.u20
   refine ⟨_, aC (aT (PW.pt (aK8 (aV (nR hu) (jW MO (bE HM hr4 (aA (aN (aA aE aB)) (aA cL aB))) hr7) (aN aB) (nomark _))
       (zK (aV vB (aQ bC (by rfl) B.len PySem.boot_len (aA (jW ST (bE HM hr4 (aA (aN (aA aE (aA aE aB))) (aA cL aB))) hr2) aB)) aE (nomark _))))) aG aL)
     (aC (aT (PW.pt (aK8 (aV vC (nE (CM G.S (.inr (.inl rfl))) (bE SM hr4 (aA aE aB)) hr5 (aA (bE HM hr4 (aA (aN (aA aE aB)) (aA cL aB))) (aA (bD (aA aE aB)) aB))) cL (nomark _))
       (zK (aV vC (nE (CM G.H (.inl rfl)) (bE OM hr5 (aA aE (aA aE aB))) hr5 (aA (bE HM hr4 (aA (aN (aA aE aB)) (aA cL aB))) (aA (bD (aA aE aB)) aB))) cL (nomark _))))) aG aL)
     (aH (aP (pP (gO (aL9 hu) (aU RE hr (aA (bE HM hr4 (aA (aN (aA aE aB)) (aA cL aB))) (aA (bD (aA aE aB)) aB))) (aN (aA (bD (aA aE aB)) aB)) (nomark _))
       (vZ (gO aX9 (nE (CM G.W (.inr (.inr (.inr rfl)))) (bE WM hr4 (aA (bD (aA aE aB)) aB)) hr5 (aA (bE HM hr4 (aA (aN (aA aE aB)) (aA cL aB))) (aA (bD (aA aE aB)) aB))) cL (nomark _))))))), ?_⟩
   refine ⟨(by exact sz1), fun l nl => bL (sz := [60]) aD aO8 fun p H1 s1 hh => ?_⟩
   have t1 := (Same.new (o := .lst ([60].map V.int)) nl).trans s1
   obtain ⟨dx, t, hp, ht⟩ := id hh
   refine ⟨p, dx, _, rfl, hp, mE _ _ (by decide +kernel) (by decide +kernel), p, [60], false, rfl, hh, aO8, fun r H2 ys s2 nr er pr => ?_⟩
   have pr : Paired (isM Z H2) ys [] := aY1 ▸ pr
   cases pr
   refine ⟨(by exact sz0), fun e ne => ?_⟩
   refine ⟨_, rcL (s := []) (t := []) ((Same.new ne) _ _ er) aD, _, rfl, cB ?_⟩
   have t2 := t1.trans (s2.lay (o := .lst []) ne)
   refine ⟨(by exact sz2), fun l2 nl2 => bL (sz := [49, 39]) aD aO9 fun p2 H3 s3 hh2 => ?_⟩
   have t3 := t2.trans ((Same.new (o := .lst ([49, 39].map V.int)) nl2).trans s3)
   obtain ⟨dx2, tt2, hp2, ht2⟩ := id hh2
   refine ⟨p2, dx2, _, rfl, hp2, mE _ _ (by decide +kernel) (by decide +kernel), p2, [49, 39], true, rfl, hh2, aO9, fun r2 H4 ys2 s4 nr2 er2 pr2 => ?_⟩
   have t4 := t3.trans s4
   have ly : ys2.length = 2000 := by rw [pr2.length]; exact aT7
   refine ⟨r2, _, rfl, .inl (SqL.of er2), rfl, _, rfl, aD2 (by rw [ly]; rfl) ?_⟩
   refine aT5 (m := 240) (by decide) (by decide) fun q H5 s5 mq => ?_
   obtain ⟨dq, hq⟩ := id mq
   refine ⟨q, dq, _, rfl, hq, zG _ (by decide +kernel), (by exact sz1), fun l3 nl3 => bL (sz := [3]) aD hz3 fun h3 H6 s6 hh3 => ⟨(by exact sz1), fun u3 nu3 => ?_⟩⟩
   have s56 := ((Same.new (o := .lst ([3].map V.int)) nl3).trans s6).lay (o := .tup ([0].map V.int)) nu3
   refine ⟨q, h3, u3, [3], true, [0], .som 240, rfl, mq.mono s56, hh3.mono (Same.new nu3), aD, ⟨rfl, by decide⟩, trivial, fun H7 s7 => ⟨_, _, rfl, rfl, _, rfl, bC7 (by decide) ?_⟩⟩
   have t7 := t4.trans (s5.trans (s56.trans s7))
   refine oR (j := 0) (m := 240) (by decide) (by decide) (by decide) fun q2 H8 s8 mq2 => ?_
   obtain ⟨dq2, hq2⟩ := id mq2
   refine ⟨q2, dq2, _, rfl, hq2, sS _ _ (by decide +kernel) (by decide +kernel), (by exact sz1), fun l4 nl4 => bL (sz := [3]) aD hz3 fun h4 H9 s9 hh4 => ⟨(by exact sz1), fun u4 nu4 => ?_⟩⟩
   have s89 := ((Same.new (o := .lst ([3].map V.int)) nl4).trans s9).lay (o := .tup ([3].map V.int)) nu4
   refine ⟨q2, h4, u4, [3], false, [3], .holds 0 240, rfl, mq2.mono s89, hh4.mono (Same.new nu4), aD, ⟨rfl, by decide⟩, (by decide : 0 < 1), fun Ha sa => ⟨_, _, rfl, rfl, _, rfl, bC7 (by decide) ?_⟩⟩
   have ta := t7.trans (s8.trans (s89.trans sa))
   refine ⟨(by exact sz1), fun l5 nl5 => bL (sz := [60]) aD aO8 fun h5 Hb sb hh5 => ⟨(by exact sz1), fun u5 nu5 => ?_⟩⟩
   refine ⟨h5, u5, [60], false, [7], rfl, hh5.mono (Same.new nu5), aO8, aD, ⟨rfl, by decide⟩, (by rw [bA7]; decide), fun r5 Hc ys5 sc nr5 er5 pr5 => ⟨(by exact sz1), fun v5 nv5 => ⟨(by exact sz1), fun w5 nw5 => ?_⟩⟩⟩
   rw [bA7] at pr5
   have sd : Same Hc (upd (upd Hc v5 (.tup ([7].map V.int))) w5 (.lst [.ref v5])) := (Same.new nv5).lay nw5
   refine ⟨_, bE3 (s := [[7]]) (t := [[7]]) (sd _ _ er5) (rS pr5 (Fix.of sd)) aD (.cons ⟨v5, rfl, (Same.new nw5) _ _ aD⟩ .nil), _, rfl, dR ?_⟩
   have td := ta.trans ((((Same.new (o := .lst ([60].map V.int)) nl5).trans sb).lay (o := .tup ([7].map V.int)) nu5).trans (sc.trans sd))
   refine ⟨(by exact sz1), fun a6 na6 => iJ (st := [60]) aD (by decide) (by decide) (by decide) fun q6 He se mq6 => ?_⟩
   obtain ⟨dq6, tq6, hq6, htq6⟩ := id mq6
   refine ⟨q6, dq6, _, rfl, hq6, vQ _ (by decide +kernel), (by exact sz1), fun l6 nl6 => bL (sz := [60]) aD aO8 fun h6 Hf sf hh6 => ⟨(by exact sz1), fun u6 nu6 => ?_⟩⟩
   have sg := ((Same.new (o := .lst ([60].map V.int)) nl6).trans sf).lay (o := .tup ([60].map V.int)) nu6
   refine ⟨q6, h6, u6, [60], true, [60], .whole [60], rfl, mq6.mono sg, hh6.mono (Same.new nu6), aD, ⟨rfl, by decide⟩, ⟨rfl, by decide⟩, fun Hh sh => ⟨_, _, rfl, rfl, ?_⟩⟩
   exact k Hh (td.trans (((Same.new (o := .tup ([60].map V.int)) na6).trans se).trans (sg.trans sh)))
end
end Jug
namespace Jug
open PySem L2
theorem oW : bootBuiltins "range" = some (.type "range") := by decide +kernel
structure FunC (K : W.Frag) (x qual : Str) (st : Stmt) (f : Addr) (fd : FuncData) (c : Addr) : Prop where
 ex : ∃ (oc : Value) (od : Option Addr) (kV doc pm : Value) (an : Option Addr) (ct : Value) (osl : Array (Option Value)),
   fd = W.fnOf x qual (aO st) (aK st) (aF st) .none kV doc pm an (.ref c) ct ∧ K.lookup f = some ⟨oc, od, .func fd, osl⟩ ∧ W.codeIn K (.ref c) qual = true
 kp : W.keepIn K (.ref f) = true
section
variable {P : Program} {w : World} {K : W.Frag} {mg : Str → Option Value} {base : Heap}
theorem FunC.ok {x qual : Str} {st : Stmt} {f c : Addr} {fd : FuncData} {N ps : List Str} {k : Nat} {sp : Sp} (F : FunC K x qual st f fd c) (S : FnScope N ps (aF st)) (len : ∀ vs H Q E, sp vs H Q E → vs.length = ps.length)
   (hbody : ∀ (A : Around) (outer : List Env) (s : Shared) (H : Hp) (vs : List V) (Q : VK) (E : XK), Room k (A.deeper (PyProof.Rows.envOfC qual (aF st) s.heap.objs.size f (.ref c))) → sp vs H Q E →
     ∃ t, PSs (oV CX0 P w K mg base N qual (aF st) f (.ref c) A outer s H E).nox (aK st) t ∧ t { nx := fun _ H' => Q .non H', rt := Q } (start N vs) H) : FnOk P w K mg base CX0 (k + 1) f fd ps sp := by
 obtain ⟨oc, od, kV, doc, pm, an, ct, osl, rfl, lk, hcd⟩ := F.ex
 refine aP8 lk hcd S len fun A outer s H vs Q E hr hsp => ?_
 obtain ⟨t, h, q⟩ := hbody A outer s H vs Q E hr hsp
 exact ⟨t, h.nox, q⟩
end
theorem iI {i lo hi : Int} (h : i < lo ∨ hi < i) : cY (.int i) lo hi = false := by
 show (decide (lo ≤ i) && decide (i ≤ hi)) = false
 rcases h with h | h
 · rw [decide_eq_false (by omega), Bool.false_and]
 · rw [decide_eq_false (show ¬ i ≤ hi by omega), Bool.and_false]
theorem six {n far hi : Int} {x : Str} (hf : 0 ≤ far) (hn : hi < n) : ∀ u ∈ [V.int n, .int (n + far), .int (-1 - far), .bl true, .non, .str x], ∃ t, (∀ H, Kd H u t) ∧ cY u 0 hi = false := by
 intro u hu
 simp only [List.mem_cons, List.not_mem_nil, or_false] at hu
 rcases hu with rfl | rfl | rfl | rfl | rfl | rfl
 · exact ⟨_, fun _ => .int _, iI (.inr hn)⟩
 · exact ⟨_, fun _ => .int _, iI (.inr (by omega))⟩
 · exact ⟨_, fun _ => .int _, iI (.inl (by omega))⟩
 · exact ⟨_, fun _ => .bl _, rfl⟩
 · exact ⟨_, fun _ => .non, rfl⟩
 · exact ⟨_, fun _ => .str _, rfl⟩
section
variable {P : Program} {w : World} {K : W.Frag} {mg : Str → Option Value} {base : Heap} {CH CS CB CG : Addr} {Z : Cz} {G : Gz} {z : Ez}
theorem lF {H : Hp} {f : Addr} {fd : FuncData} {d : Nat} {v : V} {t : String} (F : FnOk P w K mg base (CX1 P w) 10 f fd ["_law_door", "_law_bad"] (rH z.G)) (hk : W.keepIn K (.ref f) = true) (hb : Binds K fd ["_law_door", "_law_bad"] [])
   (hd : d < 7) (kv : Kd H v t) (h0 : d = 0 ∨ d = 4 → cY v 0 3 = false) (h1 : 1 ≤ d ∧ d ≤ 3 → cY v 0 240 = false) (h5 : d = 5 → cY v 0 60 = false) : Asks P w K mg base 10 z 3 H f (.int d) v :=
 Asks.of F hk hb fun H1 s1 Q E hE => ⟨d, v, t, rfl, hd, kv.mono s1, h0, h1, h5, hE⟩
theorem aD5 {H : Hp} {f : Addr} {fd : FuncData} {d n : Nat} (F : FnOk P w K mg base (CX1 P w) 10 f fd ["_law_door", "_law_way"] (nI z.G)) (hk : W.keepIn K (.ref f) = true) (hb : Binds K fd ["_law_door", "_law_way"] [])
   (hd : d < 2) (hn : n < 6) : Asks P w K mg base 10 z 3 H f (.int d) (.int n) :=
 Asks.of F hk hb fun H1 s1 Q E hE => ⟨d, n, rfl, hd, hn, hE⟩
theorem iE {H H' : Hp} {d : Addr} (s : Same H H') : kW d H H' := fun b c e _ => s b c e
theorem kW.trans {H H1 H2 : Hp} {d : Addr} (a : kW d H H1) (b : kW d H1 H2) : kW d H H2 := fun c o e n => b c o (a c o e n) n
theorem nZ {a b : Int} {t u : Nat} {c : Value} : ∀ (l : List Value), TriplesOk l → TriplesOk (l ++ [.int a t, .int b u, c])
 | [], _ => trivial
 | .int _ _ :: .int _ _ :: _ :: rest, h => nZ rest h
def aE6 (H : Hp) (P2 : Addr) (pos : Pos) (qual : Str) (p0 : Array Value) : Prop := H P2 = some (.tbl p0) ∨ ∃ c', H P2 = some (.tbl (p0 ++ #[rawInt pos.line, rawInt pos.col, .ref c'])) ∧ H c' = some (aB0 c' qual)
def zZ (d : Addr) (H : Hp) : Hp := fun b => if b = d then none else H b
theorem jI {d a : Addr} {H : Hp} {o : HO} (h : H a = some o) (n : a ≠ d) : zZ d H a = some o := by unfold zZ; rw [if_neg n]; exact h
theorem rO {d : Addr} {H H' : Hp} (s : kW d H H') : Same (zZ d H) H' := fun b o e => by
 unfold zZ at e
 by_cases n : b = d
 · rw [if_pos n] at e; cases e
 · rw [if_neg n] at e; exact s b o e n
theorem wS {H : Hp} {P2 : Addr} {pos : Pos} {qual : Str} {p0 : Array Value} {ar : Arguments} {body : Expr} {sc : Scope} {Q : VK} (ht : aE6 H P2 pos qual p0) (tri : TriplesOk p0.toList) (hn : codeAmong pos p0.toList = none)
   (k : ∀ f c' H', kW P2 H H' → H' f = some (aA6 f qual ar body sc c') → H' c' = some (aB0 c' qual) → H' P2 = some (.tbl (p0 ++ #[rawInt pos.line, rawInt pos.col, .ref c'])) → Q (.ref f) H') : TLam P2 qual ar body sc pos H Q := by
 rcases ht with hP | ⟨c', hP, hc⟩
 · refine ⟨⟨p0, hP, tri, .inl ⟨hn, fun c' f nc nf fc fP cP => k f c' _ (fun b o e n => ?_) aD ?_ ?_⟩⟩⟩
   · rw [aI (aJ e nf), aI (aJ e nc), aI n]; exact e
   · rw [aI (Ne.symm fc), aD]
   · rw [aI (Ne.symm fP), aI (Ne.symm cP), aD]
 · have e : (p0 ++ #[rawInt pos.line, rawInt pos.col, .ref c']).toList = p0.toList ++ [rawInt pos.line, rawInt pos.col, .ref c'] := by simp
   refine ⟨⟨_, hP, ?_, .inr ⟨c', ?_, fun f nf => k f c' _ (fun b o e n => by rw [aI (aJ e nf)]; exact e) aD (by rw [aI (aJ hc nf)]; exact hc) (by rw [aI (aJ hP nf)]; exact hP)⟩⟩⟩
   · rw [e]; exact nZ _ tri
   · rw [e]; exact codeAmong_snoc _ tri hn
def uU (P2 : Addr) : Sp := fun vs H Q _ => ∃ (far : Int) (e : Addr), vs = [.int far, .ref e] ∧ 0 ≤ far ∧ H e = some (.lst ((lK 3).map V.bl)) ∧ H P2 = some (.tbl #[]) ∧ ∀ H', kW P2 H H' → Q (.bl true) H'
theorem aG2 {f c2 P2 : Addr} {fd : FuncData} (F : FunC K "_law_goals_right" "_law_goals_right" cI f fd c2) (B : Bt mg) (hC : W.CodeHd base c2 P2) (bm : BMain mg base)
   (AL : FnB P w K mg base 12 "_law_all" ["_law_ask", "_law_doors", "_law_things", "_law_due"] (zF P w K mg base 10 z)) (T : FnB P w K mg base 11 "_law_told" ["_law_ask", "_law_one", "_law_other"] (qP P w K mg base 10 z))
   (GX : FnX P w K mg base 10 "_law_with_goal" ["_law_door", "_law_bad"] (rH z.G)) (UX : FnX P w K mg base 10 "_law_goal_unfit" ["_law_door", "_law_way"] (nI z.G))
   (SX : MkX P w K mg base 5 "Sum" G.U ["self", "jugs", "many"] (jG G z.G)) (WX : MkX P w K mg base 3 "Whole" G.W ["self", "state"] (iB z.G)) : FnOk P w K mg base CX0 13 f fd ["_law_far", "_law_due"] (uU P2) := by
 obtain ⟨fG, fdG, FG, mG, kG, bG⟩ := GX
 obtain ⟨fU, fdU, FU, mU, kU, bU⟩ := UX
 refine F.ok jB (fun vs H Q E h => ?_) (fun A outer s H vs Q E hr h => ?_)
 · obtain ⟨far, e, rfl, _⟩ := h
   rfl
 · obtain ⟨far, e, rfl, hf, he, hP, k⟩ := h
   have nd := jB.nd
   have hu := hr.u20
   have hr11 : Room 11 _ := hr.mono (by decide)
   refine ⟨_, (@aC _ _ _ _ _ (@aT _ _ _ _ _ _ _ _ (@bJ _ _ _ _ (@bK _ _ _ (@aU _ _ _ _ _ _ _ _ _ _ AL hr (@aA _ _ _ _ _ (bB (v := .ref fG) (by rfl) mG rfl) (@aA _ _ _ _ _ (@aN _ _ _ _ (@aA _ _ _ _ _ (@aE _ _ _ _) (@aA _ _ _ _ _ (@aE _ _ _ _) (@aB _) rfl) rfl)) (@aA _ _ _ _ _ (@aN _ _ _ _ (@aA _ _ _ _ _ (@aE _ _ _ _) (@aA _ _ _ _ _ (@eD _ _ _ _ _ _ _ _ lC (@aE _ _ _ _) (pv 0)) (@aA _ _ _ _ _ (@eD _ _ _ _ _ _ _ _ kK (@uY _ _ _ _ _ _ pA (@aE _ _ _ _)) (pv 0)) (@aA _ _ _ _ _ (@cL _ _ _ _) (@aA _ _ _ _ _ (@fN _ _ _) (@aA _ _ _ _ _ (@iG _ _ _ _) (@aB _) rfl) rfl) rfl) rfl) rfl) rfl)) (@aA _ _ _ _ _ (pv 1) (@aB _) rfl) rfl) rfl) rfl) rfl (by decide) rfl rfl) (fun _ => rfl))) (@aG _ _) (@aL _)) (@aC _ _ _ _ _ (@aT _ _ _ _ _ _ _ _ (@bJ _ _ _ _ (@bK _ _ _ (@aU _ _ _ _ _ _ _ _ _ _ AL hr (@aA _ _ _ _ _ (bB (v := .ref fG) (by rfl) mG rfl) (@aA _ _ _ _ _ (@aN _ _ _ _ (@aA _ _ _ _ _ (@aE _ _ _ _) (@aA _ _ _ _ _ (@aE _ _ _ _) (@aA _ _ _ _ _ (@aE _ _ _ _) (@aB _) rfl) rfl) rfl)) (@aA _ _ _ _ _ (@aN _ _ _ _ (@aA _ _ _ _ _ (@aE _ _ _ _) (@aA _ _ _ _ _ (@eD _ _ _ _ _ _ _ _ lC (@aE _ _ _ _) (pv 0)) (@aA _ _ _ _ _ (@eD _ _ _ _ _ _ _ _ kK (@uY _ _ _ _ _ _ pA (@aE _ _ _ _)) (pv 0)) (@aA _ _ _ _ _ (@cL _ _ _ _) (@aA _ _ _ _ _ (@fN _ _ _) (@aA _ _ _ _ _ (@iG _ _ _ _) (@aB _) rfl) rfl) rfl) rfl) rfl) rfl)) (@aA _ _ _ _ _ (pv 1) (@aB _) rfl) rfl) rfl) rfl) rfl (by decide) rfl rfl) (fun _ => rfl))) (@aG _ _) (@aL _)) (@aC _ _ _ _ _ (@aT _ _ _ _ _ _ _ _ (@bJ _ _ _ _ (@bK _ _ _ (@aU _ _ _ _ _ _ _ _ _ _ AL hr (@aA _ _ _ _ _ (bB (v := .ref fG) (by rfl) mG rfl) (@aA _ _ _ _ _ (@aN _ _ _ _ (@aA _ _ _ _ _ (@aE _ _ _ _) (@aB _) rfl)) (@aA _ _ _ _ _ (@aN _ _ _ _ (@aA _ _ _ _ _ (@aE _ _ _ _) (@aA _ _ _ _ _ (@eD _ _ _ _ _ _ _ _ lC (@aE _ _ _ _) (pv 0)) (@aA _ _ _ _ _ (@eD _ _ _ _ _ _ _ _ kK (@uY _ _ _ _ _ _ pA (@aE _ _ _ _)) (pv 0)) (@aA _ _ _ _ _ (@cL _ _ _ _) (@aA _ _ _ _ _ (@fN _ _ _) (@aA _ _ _ _ _ (@iG _ _ _ _) (@aB _) rfl) rfl) rfl) rfl) rfl) rfl)) (@aA _ _ _ _ _ (pv 1) (@aB _) rfl) rfl) rfl) rfl) rfl (by decide) rfl rfl) (fun _ => rfl))) (@aG _ _) (@aL _)) (@aC _ _ _ _ _ (@aT _ _ _ _ _ _ _ _ (@bJ _ _ _ _ (@bK _ _ _ (@aU _ _ _ _ _ _ _ _ _ _ AL hr (@aA _ _ _ _ _ (bB (v := .ref fG) (by rfl) mG rfl) (@aA _ _ _ _ _ (@aN _ _ _ _ (@aA _ _ _ _ _ (@aE _ _ _ _) (@aB _) rfl)) (@aA _ _ _ _ _ (@aN _ _ _ _ (@aA _ _ _ _ _ (@fN _ _ _) (@aA _ _ _ _ _ (@aE _ _ _ _) (@aA _ _ _ _ _ (@bD _ _ _ _ _ (@aA _ _ _ _ _ (@aE _ _ _ _) (@aA _ _ _ _ _ (@aE _ _ _ _) (@aB _) rfl) rfl)) (@aA _ _ _ _ _ (@iG _ _ _ _) (@aB _) rfl) rfl) rfl) rfl)) (@aA _ _ _ _ _ (pv 1) (@aB _) rfl) rfl) rfl) rfl) rfl (by decide) rfl rfl) (fun _ => rfl))) (@aG _ _) (@aL _)) (@aC _ _ _ _ _ (@cN _ _ _ _ _ _ _ _ PassesOwn.never rfl (@dI _ _ _ _ (@aN _ _ _ _ (@aA _ _ _ _ _ (@fN _ _ _) (@aA _ _ _ _ _ (@aN _ _ _ _ (@aB _)) (@aA _ _ _ _ _ (@bD _ _ _ _ _ (@aA _ _ _ _ _ (@aE _ _ _ _) (@aA _ _ _ _ _ (@aE _ _ _ _) (@aB _) rfl) rfl)) (@aA _ _ _ _ _ (@aN _ _ _ _ (@aA _ _ _ _ _ (@aE _ _ _ _) (@aA _ _ _ _ _ (@aE _ _ _ _) (@aB _) rfl) rfl)) (@aA _ _ _ _ _ (@aN _ _ _ _ (@aA _ _ _ _ _ (@aE _ _ _ _) (@aA _ _ _ _ _ (@aE _ _ _ _) (@aA _ _ _ _ _ (@aE _ _ _ _) (@aB _) rfl) rfl) rfl)) (@aA _ _ _ _ _ (@iG _ _ _ _) (@aB _) rfl) rfl) rfl) rfl) rfl) rfl))) (bT (i := 2) nd rfl (Or.inl rfl)) (@aH _ _ _ (@aT _ _ _ _ _ _ _ _ (@aV _ _ _ _ _ _ _ _ (nR hu) (@aU _ _ _ _ _ _ _ _ _ _ T hr11 (@aA _ _ _ _ _ (zM rfl hC rfl rfl rfl rfl bm) (@aA _ _ _ _ _ (pv 2) (@aA _ _ _ _ _ (@aE _ _ _ _) (@aB _) rfl) rfl) rfl) rfl (by decide) rfl rfl) (pv 1) (nomark _)) (@aG _ _) (@aL _))) (fun _ => rfl)) (@aC _ _ _ _ _ (@cN _ _ _ _ _ _ _ _ PassesOwn.never rfl (@dI _ _ _ _ (@aN _ _ _ _ (@aA _ _ _ _ _ (@fN _ _ _) (@aA _ _ _ _ _ (@aN _ _ _ _ (@aA _ _ _ _ _ (@aE _ _ _ _) (@aA _ _ _ _ _ (@aE _ _ _ _) (@aB _) rfl) rfl)) (@aA _ _ _ _ _ (@iG _ _ _ _) (@aA _ _ _ _ _ (@bD _ _ _ _ _ (@aA _ _ _ _ _ (@aE _ _ _ _) (@aA _ _ _ _ _ (@aE _ _ _ _) (@aA _ _ _ _ _ (@aE _ _ _ _) (@aA _ _ _ _ _ (@aE _ _ _ _) (@aA _ _ _ _ _ (@aE _ _ _ _) (@aB _) rfl) rfl) rfl) rfl) rfl)) (@aA _ _ _ _ _ (@aE _ _ _ _) (@aA _ _ _ _ _ (@bD _ _ _ _ _ (@aB _)) (@aB _) rfl) rfl) rfl) rfl) rfl) rfl))) (bT (i := 3) nd rfl (Or.inl rfl)) (@aH _ _ _ (@aT _ _ _ _ _ _ _ _ (@aV _ _ _ _ _ _ _ _ (nR hu) (@aU _ _ _ _ _ _ _ _ _ _ T hr11 (@aA _ _ _ _ _ (zM rfl hC rfl rfl rfl rfl bm) (@aA _ _ _ _ _ (pv 3) (@aA _ _ _ _ _ (@aE _ _ _ _) (@aB _) rfl) rfl) rfl) rfl (by decide) rfl rfl) (pv 1) (nomark _)) (@aG _ _) (@aL _))) (fun _ => rfl)) (@aH _ _ _ (@aP _ _ _ _ (@aU _ _ _ _ _ _ _ _ _ _ AL hr (@aA _ _ _ _ _ (bB (v := .ref fU) (by rfl) mU rfl) (@aA _ _ _ _ _ (@aN _ _ _ _ (@aA _ _ _ _ _ (@aE _ _ _ _) (@aA _ _ _ _ _ (@aE _ _ _ _) (@aB _) rfl) rfl)) (@aA _ _ _ _ _ (@aR _ _ _ _ _ _ _ _ _ (iV rfl) (by rfl) B.list cQ (@aA _ _ _ _ _ (@aR _ _ _ _ _ _ _ _ _ kF (by rfl) B.range oW (@aA _ _ _ _ _ (@aE _ _ _ _) (@aB _) rfl) (by decide) (by decide) rfl rfl) (@aB _) rfl) (by decide) (by decide) rfl rfl) (@aA _ _ _ _ _ (pv 1) (@aB _) rfl) rfl) rfl) rfl) rfl (by decide) rfl rfl))))))))), ?_⟩
   refine ⟨(by exact sz2), fun d1 n1 => ⟨_, rfl, _, _, rfl, rfl, _, rfl, _, rfl, _, _, rfl, rfl, (by exact sz6), fun t1 m1 => ⟨_, rfl, fG, d1, t1, e, 3, _, _, rfl, by decide, (Same.new m1) _ _ aD, aD, ((Same.new n1).lay m1) _ _ he, fun v hv u hu => ?_, fun H1 s1 => ⟨_, rfl, cB ?_⟩⟩⟩⟩
   · obtain ⟨t, kt, hb⟩ := six (hi := 3) hf (by decide) u hu
     simp only [List.mem_cons, List.not_mem_nil, or_false] at hv
     rcases hv with rfl | rfl
     · exact lF (d := 0) FG kG bG (by decide) (kt _) (fun _ => hb) (fun h => absurd h (by decide)) (fun h => absurd h (by decide))
     · exact lF (d := 4) FG kG bG (by decide) (kt _) (fun _ => hb) (fun h => absurd h (by decide)) (fun h => absurd h (by decide))
   have q1 := ((Same.new (o := .lst [.int 0, .int 4]) n1).lay m1).trans s1
   have e1 := q1 _ _ he
   refine ⟨(by exact sz3), fun d2 n2 => ⟨_, rfl, _, _, rfl, rfl, _, rfl, _, rfl, _, _, rfl, rfl, (by exact sz6), fun t2 m2 => ⟨_, rfl, fG, d2, t2, e, 3, _, _, rfl, by decide, (Same.new m2) _ _ aD, aD, ((Same.new n2).lay m2) _ _ e1, fun v hv u hu => ?_, fun H2 s2 => ⟨_, rfl, cB ?_⟩⟩⟩⟩
   · obtain ⟨t, kt, hb⟩ := six (hi := 240) hf (by decide) u hu
     simp only [List.mem_cons, List.not_mem_nil, or_false] at hv
     rcases hv with rfl | rfl | rfl
     · exact lF (d := 1) FG kG bG (by decide) (kt _) (fun h => absurd h (by decide)) (fun _ => hb) (fun h => absurd h (by decide))
     · exact lF (d := 2) FG kG bG (by decide) (kt _) (fun h => absurd h (by decide)) (fun _ => hb) (fun h => absurd h (by decide))
     · exact lF (d := 3) FG kG bG (by decide) (kt _) (fun h => absurd h (by decide)) (fun _ => hb) (fun h => absurd h (by decide))
   have q2 := q1.trans (((Same.new (o := .lst [.int 1, .int 2, .int 3]) n2).lay m2).trans s2)
   have e2 := q2 _ _ he
   refine ⟨(by exact sz1), fun d3 n3 => ⟨_, rfl, _, _, rfl, rfl, _, rfl, _, rfl, _, _, rfl, rfl, (by exact sz6), fun t3 m3 => ⟨_, rfl, fG, d3, t3, e, 3, _, _, rfl, by decide, (Same.new m3) _ _ aD, aD, ((Same.new n3).lay m3) _ _ e2, fun v hv u hu => ?_, fun H3 s3 => ⟨_, rfl, cB ?_⟩⟩⟩⟩
   · obtain ⟨t, kt, hb⟩ := six (hi := 60) hf (by decide) u hu
     simp only [List.mem_cons, List.not_mem_nil, or_false] at hv
     subst hv
     exact lF (d := 5) FG kG bG (by decide) (kt _) (fun h => absurd h (by decide)) (fun h => absurd h (by decide)) (fun _ => hb)
   have q3 := q2.trans (((Same.new (o := .lst [.int 5]) n3).lay m3).trans s3)
   have e3 := q3 _ _ he
   refine ⟨(by exact sz1), fun d4 n4 => ⟨(by exact sz2), fun p4 o4 => ⟨(by exact sz4), fun t4 m4 => ⟨_, rfl, fG, d4, t4, e, 3, _, _, rfl, by decide, ((Same.new o4).lay m4) _ _ aD, aD, (((Same.new n4).lay o4).lay m4) _ _ e3, fun v hv u hu => ?_, fun H4 s4 => ⟨_, rfl, cB ?_⟩⟩⟩⟩⟩
   · have hb : ∃ t, Kd (upd (upd (upd H3 d4 (.lst [.int 6])) p4 (.tup [.int 0, .int 0])) t4 (.lst [.non, .int 0, .ref p4, .str "some 1"])) u t := by
       simp only [List.mem_cons, List.not_mem_nil, or_false] at hu
       rcases hu with rfl | rfl | rfl | rfl
       · exact ⟨_, .non⟩
       · exact ⟨_, .int _⟩
       · exact ⟨_, .tup ((Same.new m4) _ _ aD)⟩
       · exact ⟨_, .str _⟩
     obtain ⟨t, kt⟩ := hb
     simp only [List.mem_cons, List.not_mem_nil, or_false] at hv
     subst hv
     exact lF (d := 6) FG kG bG (by decide) kt (fun h => absurd h (by decide)) (fun h => absurd h (by decide)) (fun h => absurd h (by decide))
   have q4 := q3.trans ((((Same.new (o := .lst [.int 6]) n4).lay (o := .tup [.int 0, .int 0]) o4).lay m4).trans s4)
   have hP4 := q4 _ _ hP
   refine ⟨(by exact sz0), fun a1 na1 => ⟨(by exact sz2), fun a2 na2 => ⟨(by exact sz2), fun a3 na3 => ⟨(by exact sz3), fun a4 na4 => ⟨(by exact sz6), fun L nL => ?_⟩⟩⟩⟩⟩
   have sL : Same H4 (upd (upd (upd (upd (upd H4 a1 (.lst [])) a2 (.tup [.int 0, .int 1])) a3 (.lst [.int 1, .int 1])) a4 (.lst [.int 0, .int 1, .int 0])) L (.lst [.non, .ref a1, .ref a2, .ref a3, .ref a4, .str "01"])) := ((((Same.new na1).lay na2).lay na3).lay na4).lay nL
   have g4 := (Same.new (o := .lst [.non, .ref a1, .ref a2, .ref a3, .ref a4, .str "01"]) nL) _ _ (aD (o := .lst [.int 0, .int 1, .int 0]))
   have g3 := ((Same.new (o := .lst [.int 0, .int 1, .int 0]) na4).lay (o := .lst [.non, .ref a1, .ref a2, .ref a3, .ref a4, .str "01"]) nL) _ _ (aD (o := .lst [.int 1, .int 1]))
   have g2 := (((Same.new (o := .lst [.int 1, .int 1]) na3).lay (o := .lst [.int 0, .int 1, .int 0]) na4).lay (o := .lst [.non, .ref a1, .ref a2, .ref a3, .ref a4, .str "01"]) nL) _ _ (aD (o := .tup [.int 0, .int 1]))
   have g1 := ((((Same.new (o := .tup [.int 0, .int 1]) na2).lay (o := .lst [.int 1, .int 1]) na3).lay (o := .lst [.int 0, .int 1, .int 0]) na4).lay (o := .lst [.non, .ref a1, .ref a2, .ref a3, .ref a4, .str "01"]) nL) _ _ (aD (o := .lst []))
   have gL : (upd (upd (upd (upd (upd H4 a1 (.lst [])) a2 (.tup [.int 0, .int 1])) a3 (.lst [.int 1, .int 1])) a4 (.lst [.int 0, .int 1, .int 0])) L (.lst [.non, .ref a1, .ref a2, .ref a3, .ref a4, .str "01"])) L = some (.lst [.non, .ref a1, .ref a2, .ref a3, .ref a4, .str "01"]) := aD
   generalize hHL : (upd (upd (upd (upd (upd H4 a1 (.lst [])) a2 (.tup [.int 0, .int 1])) a3 (.lst [.int 1, .int 1])) a4 (.lst [.int 0, .int 1, .int 0])) L (.lst [.non, .ref a1, .ref a2, .ref a3, .ref a4, .str "01"])) = HL at *
   have hPL := sL _ _ hP4
   have heL := sL _ _ (q4 _ _ he)
   have nP : ∀ {b : Addr} {o : HO}, HL b = some o → o ≠ .tbl #[] → b ≠ P2 := fun {b o} e n z => by rw [z, hPL] at e; cases e; exact n rfl
   have hall : ∀ v ∈ [V.non, .ref a1, .ref a2, .ref a3, .ref a4, .str "01"], tI (zZ P2 HL) v := by
     intro v hv
     simp only [List.mem_cons, List.not_mem_nil, or_false] at hv
     rcases hv with rfl | rfl | rfl | rfl | rfl | rfl
     · exact .inl ⟨_, .non, by decide⟩
     · exact .inr ⟨_, _, rfl, jI g1 (nP g1 (by intro z; cases z)), fun x hx => (by cases hx), .inr ⟨[], rfl, by decide, .inl rfl⟩⟩
     · exact .inl ⟨_, .tup (jI g2 (nP g2 (by intro z; cases z))), by decide⟩
     · exact .inr ⟨_, _, rfl, jI g3 (nP g3 (by intro z; cases z)), fun x hx => by simp only [List.mem_cons, List.not_mem_nil, or_false] at hx; rcases hx with rfl | rfl <;> exact ⟨_, .int _⟩, .inr ⟨[1, 1], rfl, by decide, .inr (by decide)⟩⟩
     · exact .inr ⟨_, _, rfl, jI g4 (nP g4 (by intro z; cases z)), fun x hx => by simp only [List.mem_cons, List.not_mem_nil, or_false] at hx; rcases hx with rfl | rfl | rfl <;> exact ⟨_, .int _⟩, .inr ⟨[0, 1, 0], rfl, by decide, .inr (by decide)⟩⟩
     · exact .inl ⟨_, .str _, by decide⟩
   refine ⟨L, rfl, ⟨_, SqL.of gL⟩, cU (K := K) (a := L) (xs := [V.non, .ref a1, .ref a2, .ref a3, .ref a4, .str "01"]) (fun i σ H' => (∃ v2 v3, σ = [some (.int far), some (.ref e), v2, v3]) ∧ kW P2 HL H' ∧ aE6 H' P2 ⟨419, 21, 419, 66⟩ ((("_law_goals_right" : Str) ++ ".<locals>.") ++ "<lambda>") #[])
     ⟨⟨none, none, rfl⟩, iE (Same.refl _), .inl hPL⟩ (fun i σ H' _ ⟨_, sB, _⟩ => SqL.of (sB _ _ gL (nP gL (by intro z; cases z)))) ?_ ?_⟩
   · rintro i v σ H5 hv ⟨⟨v2, v3, rfl⟩, sB, hT⟩
     refine wS hT trivial rfl fun fl c' H6 s6 hfl hc' hP6 => ⟨_, rfl, ?_⟩
     have sB6 := sB.trans s6
     have bad := (hall v (List.mem_of_getElem? hv)).mono (rO sB6)
     refine ⟨fl, 3, v, .int 0, rfl, by decide, fun H7 s7 => ⟨sQ (s7 _ _ hfl), fun Q' E' hE => aA5 (k := 9) (N := ["_law_one", "_law_other"]) (ps := ["_law_one", "_law_other"]) fS7 (s7 _ _ hfl) (s7 _ _ hc') rfl (fun pm ctv us hl => match us, hl with | [_, _], _ => rfl) fun A' o' s' hr' => ?_⟩, fun l H8 s8 e8 => ?_⟩
     · exact ⟨_, iH bdX xeX SX (hr'.mono (by decide)) (aA (pv 0) (aA aE aB)), ⟨_, rfl, wP (.inl (bad.mono s7)) hE⟩⟩
     · have sB8 := sB6.trans (iE s8)
       refine ⟨_, rfl, _, rcB e8 (sB8 _ _ heL (nP heL (by intro z; cases z))), _, rfl, ?_⟩
       rw [decide_eq_true rfl]
       exact cB ⟨⟨_, _, rfl⟩, sB8, .inr ⟨c', s8 _ _ hP6, s8 _ _ hc'⟩⟩
   · rintro σ H5 ⟨⟨v2, v3, rfl⟩, sB5, hT5⟩
     obtain ⟨p0, hp0, tri0, hn0⟩ : ∃ p0, H5 P2 = some (.tbl p0) ∧ TriplesOk p0.toList ∧ codeAmong ⟨422, 21, 422, 65⟩ p0.toList = none := by
       rcases hT5 with h | ⟨c', h, _⟩
       · exact ⟨_, h, trivial, rfl⟩
       · exact ⟨_, h, trivial, rfl⟩
     have he5 := sB5 _ _ heL (nP heL (by intro z; cases z))
     refine ⟨(by exact sz2), fun b1 nb1 => ⟨(by exact sz5), fun b2 nb2 => ⟨(by exact sz0), fun b3 nb3 => ⟨(by exact sz6), fun M nM => ?_⟩⟩⟩⟩
     have sM : Same H5 (upd (upd (upd (upd H5 b1 (.lst [.int 0, .int 0])) b2 (.tup [.int 0, .int 0, .int 0, .int 0, .int 0])) b3 (.tup [])) M (.lst [.non, .ref b1, .str "00", .ref b2, .int 3, .ref b3])) := (((Same.new nb1).lay nb2).lay nb3).lay nM
     have k3 := (Same.new (o := .lst [.non, .ref b1, .str "00", .ref b2, .int 3, .ref b3]) nM) _ _ (aD (o := .tup []))
     have k2 := ((Same.new (o := .tup []) nb3).lay (o := .lst [.non, .ref b1, .str "00", .ref b2, .int 3, .ref b3]) nM) _ _ (aD (o := .tup [.int 0, .int 0, .int 0, .int 0, .int 0]))
     have k1 := (((Same.new (o := .tup [.int 0, .int 0, .int 0, .int 0, .int 0]) nb2).lay (o := .tup []) nb3).lay (o := .lst [.non, .ref b1, .str "00", .ref b2, .int 3, .ref b3]) nM) _ _ (aD (o := .lst [.int 0, .int 0]))
     have kM : (upd (upd (upd (upd H5 b1 (.lst [.int 0, .int 0])) b2 (.tup [.int 0, .int 0, .int 0, .int 0, .int 0])) b3 (.tup [])) M (.lst [.non, .ref b1, .str "00", .ref b2, .int 3, .ref b3])) M = some (.lst [.non, .ref b1, .str "00", .ref b2, .int 3, .ref b3]) := aD
     generalize hHM : (upd (upd (upd (upd H5 b1 (.lst [.int 0, .int 0])) b2 (.tup [.int 0, .int 0, .int 0, .int 0, .int 0])) b3 (.tup [])) M (.lst [.non, .ref b1, .str "00", .ref b2, .int 3, .ref b3])) = HM at *
     have hPM := sM _ _ hp0
     have heM := sM _ _ he5
     have nQ : ∀ {b : Addr} {o : HO}, HM b = some o → (∀ ps, o ≠ .tbl ps) → b ≠ P2 := fun {b o} e n z => by rw [z, hPM] at e; cases e; exact n _ rfl
     have hall2 : ∀ v ∈ [V.non, .ref b1, .str "00", .ref b2, .int 3, .ref b3], tJ (zZ P2 HM) v := by
       intro v hv
       simp only [List.mem_cons, List.not_mem_nil, or_false] at hv
       rcases hv with rfl | rfl | rfl | rfl | rfl | rfl
       · exact .inl ⟨_, .non, by decide⟩
       · exact .inl ⟨_, .lst (jI k1 (nQ k1 (by intro _ z; cases z))), by decide⟩
       · exact .inl ⟨_, .str _, by decide⟩
       · exact .inr ⟨_, _, rfl, jI k2 (nQ k2 (by intro _ z; cases z)), fun x hx => by simp only [List.mem_cons, List.not_mem_nil, or_false] at hx; rcases hx with rfl | rfl | rfl | rfl | rfl <;> exact ⟨_, .int _⟩, .inr (.inl (by decide))⟩
       · exact .inl ⟨_, .int _, by decide⟩
       · exact .inr ⟨_, _, rfl, jI k3 (nQ k3 (by intro _ z; cases z)), fun x hx => (by cases hx), .inl rfl⟩
     refine ⟨M, rfl, ⟨_, SqL.of kM⟩, cU (K := K) (a := M) (xs := [V.non, .ref b1, .str "00", .ref b2, .int 3, .ref b3]) (fun i σ H' => (∃ v2 v3, σ = [some (.int far), some (.ref e), v2, v3]) ∧ kW P2 HM H' ∧ aE6 H' P2 ⟨422, 21, 422, 65⟩ ((("_law_goals_right" : Str) ++ ".<locals>.") ++ "<lambda>") p0)
       ⟨⟨_, _, rfl⟩, iE (Same.refl _), .inl hPM⟩ (fun i σ H' _ ⟨_, sB, _⟩ => SqL.of (sB _ _ kM (nQ kM (by intro _ z; cases z)))) ?_ ?_⟩
     · rintro i v σ H6 hv ⟨⟨v2, v3, rfl⟩, sB, hT⟩
       refine wS hT tri0 hn0 fun fl c' H7 s7 hfl hc' hP7 => ⟨_, rfl, ?_⟩
       have sB7 := sB.trans s7
       have bad := (hall2 v (List.mem_of_getElem? hv)).mono (rO sB7)
       refine ⟨fl, 3, v, .int 0, rfl, by decide, fun H8 s8 => ⟨sQ (s8 _ _ hfl), fun Q' E' hE => aA5 (k := 9) (N := ["_law_one", "_law_other"]) (ps := ["_law_one", "_law_other"]) fS7 (s8 _ _ hfl) (s8 _ _ hc') rfl (fun pm ctv us hl => match us, hl with | [_, _], _ => rfl) fun A' o' s' hr' => ?_⟩, fun l H9 s9 e9 => ?_⟩
       · exact ⟨_, iH bdX xeX WX (hr'.mono (by decide)) (aA (pv 0) aB), ⟨_, rfl, vD (bad.mono s8) hE⟩⟩
       · have sB9 := sB7.trans (iE s9)
         refine ⟨_, rfl, _, rcB e9 (sB9 _ _ heM (nQ heM (by intro _ z; cases z))), _, rfl, ?_⟩
         rw [decide_eq_true rfl]
         exact cB ⟨⟨_, _, rfl⟩, sB9, .inr ⟨c', s9 _ _ hP7, s9 _ _ hc'⟩⟩
     · rintro σ H6 ⟨⟨v2, v3, rfl⟩, sB6, _⟩
       have he6 := sB6 _ _ heM (nQ heM (by intro _ z; cases z))
       refine ⟨(by exact sz2), fun d5 n5 => ⟨6, rfl, fun r5 nr5 => ⟨r5, 6, rfl, aD, by decide, by decide, fun l5 nl5 => ⟨_, rfl, fU, d5, l5, e, 3, _, _, rfl, by decide, ((Same.new nr5).lay nl5) _ _ aD, aD, (((Same.new n5).lay nr5).lay nl5) _ _ he6, fun v hv u hu => ?_, fun H7 s7 => ?_⟩⟩⟩⟩
       · obtain ⟨n, hn, rfl⟩ := List.mem_map.mp hu
         have hn := List.mem_range.mp hn
         have hn : n < 6 := hn
         simp only [List.mem_cons, List.not_mem_nil, or_false] at hv
         rcases hv with rfl | rfl
         · exact aD5 (d := 0) FU kU bU (by decide) hn
         · exact aD5 (d := 1) FU kU bU (by decide) hn
       · exact k H7 ((iE (q4.trans sL)).trans (sB5.trans ((iE sM).trans (sB6.trans (iE ((((Same.new n5).lay nr5).lay nl5).trans s7))))))
end
end Jug
namespace Jug
open PySem L2
section
variable {P : Program} {w : World} {K : W.Frag} {mg : Str → Option Value} {base : Heap} {CH : Addr}
def rJ (K : W.Frag) : Sp := fun vs H Q _ => ∃ (a : Addr) (ns : List Int) (k : Int), vs = [.ref a, .int k] ∧ SqL K H a (ns.map V.int) ∧ 0 ≤ k ∧ ∀ c : Int, Q (.int c) H
theorem zV (F : Fun K "_law_cell_at" "_law_cell_at" dX f fd) (B : Bt mg) : FnOk P w K mg base CX0 1 f fd ["_law_script", "_law_k"] (rJ K) := by
 refine F.ok qI (fun vs H Q E h => ?_) (fun cdv A outer s H vs Q E hr h => ?_)
 · obtain ⟨a, ns, k, rfl, _⟩ := h
   rfl
 · obtain ⟨a, ns, k, rfl, ha, hk, q⟩ := h
   refine ⟨_, aC (aT (aV aV1 (pv 1) (aQ bC (by rfl) B.len PySem.boot_len (aA (pv 0) aB)) (nomark _)) (aH (aP (fO dA (pv 0) (pv 1) (fun _ _ => rfl)))) aL) (aH (aP aE)), ?_⟩
   refine ⟨_, rfl, _, rfl, a, _, rfl, .inl ha, _, _, rfl, rfl, _, rfl, bF4 (fun hlt => ?_) (fun _ => q 0)⟩
   have hlt : k < ((ns.map V.int).length : Int) := of_decide_eq_true hlt
   rw [List.length_map] at hlt
   refine ⟨_, rfl, _, rfl, a, _, _, .int (J.at0 ns k.toNat), rfl, rfl, ha, ?_, q _⟩
   have e : ((k.toNat : Nat) : Int) = k := Int.toNat_of_nonneg hk
   rw [← e]
   exact eZ (jK (by omega))
end
section
variable {P : Program} {w : World} {K : W.Frag} {mg : Str → Option Value} {base : Heap} {CH CS CB CG : Addr} {Z : Cz} {G : Gz} {z : Ez}
theorem aC9 {H : Hp} {f : Addr} {fd : FuncData} {d : Int} {v : V} (F : FnOk P w K mg base (CX1 P w) 10 f fd ["_law_door", "_law_bad"] (pG z.B)) (hk : W.keepIn K (.ref f) = true) (hb : Binds K fd ["_law_door", "_law_bad"] [])
   (h : (d = 0 ∧ nG H v) ∨ (d = 1 ∧ ∃ t, Kd H v t ∧ t ≠ "bool")) : Asks P w K mg base 10 z 0 H f (.int d) v :=
 Asks.of F hk hb fun H1 s1 Q E hE => ⟨d, v, rfl, h.imp (fun ⟨a, b⟩ => ⟨a, b.mono s1⟩) (fun ⟨a, t, k, n⟩ => ⟨a, t, k.mono s1, n⟩), hE⟩
theorem aT6 {H : Hp} {f : Addr} {fd : FuncData} {d : Nat} {v : V} (F : FnOk P w K mg base (CX1 P w) 10 f fd ["_law_door", "_law_bad"] (pE z.S)) (hk : W.keepIn K (.ref f) = true) (hb : Binds K fd ["_law_door", "_law_bad"] [])
   (hd : d < 9) (h : jZ H [3, 5] v) : Asks P w K mg base 10 z 1 H f (.int d) v :=
 Asks.of F hk hb fun H1 s1 Q E hE => ⟨d, v, rfl, hd, h.mono s1, hE⟩
theorem jJ {H : Hp} {f : Addr} {fd : FuncData} {d : Nat} {v : V} {t : String} (F : FnOk P w K mg base (CX1 P w) 10 f fd ["_law_door", "_law_bad"] (rG Z z.M)) (hk : W.keepIn K (.ref f) = true) (hb : Binds K fd ["_law_door", "_law_bad"] [])
   (hd : d < 7) (kv : Kd H v t) (h0 : d = 0 → cY v 0 3 = false ∨ v = .int 1) (h1 : d = 1 → cY v 0 3 = false ∨ v = .int 0) (h2 : 2 ≤ d → cY v 0 3 = false) (h5 : d = 5 → kN Z H v) : Asks P w K mg base 10 z 2 H f (.int d) v :=
 Asks.of F hk hb fun H1 s1 Q E hE => ⟨d, v, t, rfl, hd, kv.mono s1, h0, h1, h2, fun e => (h5 e).mono s1, hE⟩
theorem aC8 {H : Hp} {f : Addr} {fd : FuncData} {d n : Nat} (F : FnOk P w K mg base (CX1 P w) 10 f fd ["_law_door", "_law_way"] (pC z.M)) (hk : W.keepIn K (.ref f) = true) (hb : Binds K fd ["_law_door", "_law_way"] [])
   (hd : d < 2) (hn : n < 7) : Asks P w K mg base 10 z 2 H f (.int d) (.int n) :=
 Asks.of F hk hb fun H1 s1 Q E hE => ⟨d, n, rfl, hd, hn, hE⟩
theorem bG0 : ∀ (i : Nat), i < 4 → [V.bl (decide (V.int (i : Int) = V.int 0)), .bl (decide (V.int (i : Int) = V.int 1)), .bl (decide (V.int (i : Int) = V.int 2)), .bl (decide (V.int (i : Int) = V.int 3)), .bl false, .bl true] = (lK i).map V.bl
 | 0, _ => rfl
 | 1, _ => rfl
 | 2, _ => rfl
 | 3, _ => rfl
theorem bF {H : Hp} {b c : Addr} {o u : HO} (h : H b = some o) (n : H c = none) : (upd H c u) b = some o := by rw [aI (aJ h n)]; exact h
theorem aT_ {p : Prop} (h : p := by repeat (first | exact aD | assumption | (refine bF ?_ (by assumption)))) : p := h
def imB : V → Bool
 | .non => true
 | .bl _ => true
 | .int _ => true
 | .str _ => true
 | _ => false
theorem aZ6 {v : V} (h : imB v = true) : Im v := by
 cases v with
 | non => exact .non
 | bl b => exact .bl b
 | int i => exact .int i
 | str x => exact .str x
 | byt b => cases h
 | flt b => cases h
 | ref a => cases h
 | ty n => cases h
theorem bst {H : Hp} {a : Addr} {xs : List V} (e : H a = some (.tup xs)) (hi : xs.all imB = true) (n : uH xs [3, 5] = false) : jZ H [3, 5] (.ref a) :=
 .inr ⟨a, xs, rfl, e, fun x hx => aZ6 (List.all_eq_true.mp hi x hx), n⟩
theorem bz1 {H : Hp} {l : Addr} {x : V} (e : H l = some (.lst [x])) (i : Im x) (n : cY x 1 60 = false) : nG H (.ref l) :=
 .inr ⟨l, _, rfl, e, fun y hy => (List.mem_singleton.mp hy) ▸ i, .inr (.inr (.inl ⟨x, by simp, n⟩))⟩
theorem bzP {H : Hp} {l : Addr} {sz : List Int} (e : H l = some (.lst (sz.map V.int))) (h : ∀ s ∈ sz, 1 ≤ s ∧ s ≤ 60) (n : 2000 < J.uX sz) : nG H (.ref l) :=
 .inr ⟨l, _, rfl, e, fun y hy => let ⟨_, _, q⟩ := List.mem_map.mp hy; q ▸ .int _, .inr (.inr (.inr ⟨sz, rfl, h, n⟩))⟩
def aB3 (K : W.Frag) (P1 P2 : Addr) : Sp := fun vs H Q _ => ∃ (a : Addr) (ns : List Int), vs = [.ref a] ∧ SqL K H a (ns.map V.int) ∧ H P1 = some (.tbl #[]) ∧ H P2 = some (.tbl #[]) ∧ ∀ H', Q (.bl true) H'
theorem aT0 {f c1 P1 P2 : Addr} {fd : FuncData} (F : FunC K "law" "law" nA f fd c1) (B : Bt mg) (h12 : P1 ≠ P2) (hC : W.CodeHd base c1 P1) (bm : BMain mg base) (CA : FnB P w K mg base 1 "_law_cell_at" ["_law_script", "_law_k"] (rJ K))
   (AL : FnB P w K mg base 12 "_law_all" ["_law_ask", "_law_doors", "_law_things", "_law_due"] (zF P w K mg base 10 z)) (T : FnB P w K mg base 11 "_law_told" ["_law_ask", "_law_one", "_law_other"] (qP P w K mg base 10 z))
   (HX : FnX P w K mg base 10 "_law_house" ["_law_door", "_law_bad"] (pG z.B)) (SX : FnX P w K mg base 10 "_law_with_state" ["_law_door", "_law_bad"] (pE z.S)) (MX : FnX P w K mg base 10 "_law_with_move" ["_law_door", "_law_bad"] (rG Z z.M)) (UX : FnX P w K mg base 10 "_law_unfit" ["_law_door", "_law_way"] (pC z.M))
   (RT : FnX P w K mg base 2 "routine_text" ["moves"] (fV Z z.M)) (FM : MkB P w K mg base 4 "Fill" Z.F ["self", "jug"] (dB Z.F)) (GR : FnB P w K mg base 13 "_law_goals_right" ["_law_far", "_law_due"] (uU P2)) (GO : FnB P w K mg base 10 "_law_good" [] xQ) :
   FnOk P w K mg base CX0 14 f fd ["_law_script"] (aB3 K P1 P2) := by
 obtain ⟨fH, fdH, FH, mH, kH, bH⟩ := HX
 obtain ⟨fS, fdS, FS, mS, kS, bS⟩ := SX
 obtain ⟨fM, fdM, FMv, mM, kM, bM⟩ := MX
 obtain ⟨fU, fdU, FU, mU, kU, bU⟩ := UX
 refine F.ok aJ9 (fun vs H Q E h => ?_) (fun A outer s H vs Q E hr h => ?_)
 · obtain ⟨a, ns, rfl, _⟩ := h
   rfl
 · obtain ⟨a, ns, rfl, hS, hP1, hP2, kk⟩ := h
   have nd := aJ9.nd
   have hu := hr.u20
   have hr1 : Room 1 _ := hr.mono (by decide)
   have hr5 : Room 5 _ := hr.mono (by decide)
   have hr10 : Room 10 _ := hr.mono (by decide)
   have hr11 : Room 11 _ := hr.mono (by decide)
   have hr12 : Room 12 _ := hr.mono (by decide)
   refine ⟨_, (@aC _ _ _ _ _ (@aM _ _ 1 _ _ _ _ nd rfl (Or.inl rfl) (@eD _ _ _ _ _ _ _ _ aX8 (@aU _ _ _ _ _ _ _ _ _ _ CA hr1 (@aA _ _ _ _ _ (pv 0) (@aA _ _ _ _ _ (@aE _ _ _ _) (@aB _) rfl) rfl) rfl (by decide) rfl rfl) (@eD _ _ _ _ _ _ _ _ aX6 (@aE _ _ _ _) (@aE _ _ _ _))) rfl (Or.inl rfl)) (@aC _ _ _ _ _ (@aM _ _ 2 _ _ _ _ nd rfl (Or.inl rfl) (@aN _ _ _ _ (@aB _)) rfl (Or.inl rfl)) (@aC _ _ _ _ _ (@cN _ _ _ _ _ _ _ _ PassesOwn.never rfl (@jN _ _ _ _ _ _ (by rfl) B.range (@aA _ _ _ _ _ (@aE _ _ _ _) (@aB _) rfl) rfl) (bT (i := 3) nd rfl (Or.inl rfl)) (@aH _ _ _ (@aW _ _ _ _ (@mJ _ _ _ _ _ _ _ (pv 2) (@aN _ _ _ _ (@aA _ _ _ _ _ (@gO _ _ _ _ _ _ _ _ cT (pv 3) (@aE _ _ _ _) (nomark _)) (@aA _ _ _ _ _ (@gO _ _ _ _ _ _ _ _ cT (pv 3) (@aE _ _ _ _) (nomark _)) (@aA _ _ _ _ _ (@gO _ _ _ _ _ _ _ _ cT (pv 3) (@aE _ _ _ _) (nomark _)) (@aA _ _ _ _ _ (@gO _ _ _ _ _ _ _ _ cT (pv 3) (@aE _ _ _ _) (nomark _)) (@aA _ _ _ _ _ (@cL _ _ _ _) (@aA _ _ _ _ _ (@cL _ _ _ _) (@aB _) rfl) rfl) rfl) rfl) rfl) rfl)) rfl rfl rfl rfl rfl) rfl)) (fun _ => rfl)) (@aC _ _ _ _ _ (@aM _ _ 4 _ _ _ _ nd rfl (Or.inl rfl) (@aN _ _ _ _ (@aA _ _ _ _ _ (@fN _ _ _) (@aA _ _ _ _ _ (@aN _ _ _ _ (@aB _)) (@aA _ _ _ _ _ (@bD _ _ _ _ _ (@aA _ _ _ _ _ (@aE _ _ _ _) (@aA _ _ _ _ _ (@aE _ _ _ _) (@aB _) rfl) rfl)) (@aA _ _ _ _ _ (@iG _ _ _ _) (@aA _ _ _ _ _ (@aN _ _ _ _ (@aA _ _ _ _ _ (@aE _ _ _ _) (@aB _) rfl)) (@aA _ _ _ _ _ (@aN _ _ _ _ (@aA _ _ _ _ _ (@aE _ _ _ _) (@aB _) rfl)) (@aA _ _ _ _ _ (@aN _ _ _ _ (@aA _ _ _ _ _ (@eD _ _ _ _ _ _ _ _ lC (@aE _ _ _ _) (pv 1)) (@aB _) rfl)) (@aA _ _ _ _ _ (@aN _ _ _ _ (@aA _ _ _ _ _ (@eD _ _ _ _ _ _ _ _ kK (@uY _ _ _ _ _ _ pA (@aE _ _ _ _)) (pv 1)) (@aB _) rfl)) (@aA _ _ _ _ _ (@aN _ _ _ _ (@aA _ _ _ _ _ (@cL _ _ _ _) (@aB _) rfl)) (@aA _ _ _ _ _ (@aN _ _ _ _ (@aA _ _ _ _ _ (@iG _ _ _ _) (@aB _) rfl)) (@aA _ _ _ _ _ (@aN _ _ _ _ (@aA _ _ _ _ _ (@fN _ _ _) (@aB _) rfl)) (@aA _ _ _ _ _ (@aN _ _ _ _ (@aA _ _ _ _ _ (@aE _ _ _ _) (@aA _ _ _ _ _ (@aE _ _ _ _) (@aA _ _ _ _ _ (@aE _ _ _ _) (@aA _ _ _ _ _ (@aE _ _ _ _) (@aA _ _ _ _ _ (@aE _ _ _ _) (@aB _) rfl) rfl) rfl) rfl) rfl)) (@aB _) rfl) rfl) rfl) rfl) rfl) rfl) rfl) rfl) rfl) rfl) rfl) rfl)) rfl (Or.inl rfl)) (@aC _ _ _ _ _ (@aT _ _ _ _ _ _ _ _ (@bJ _ _ _ _ (@bK _ _ _ (@aU _ _ _ _ _ _ _ _ _ _ AL hr12 (@aA _ _ _ _ _ (bB (v := .ref fH) (by rfl) mH rfl) (@aA _ _ _ _ _ (@aN _ _ _ _ (@aA _ _ _ _ _ (@aE _ _ _ _) (@aB _) rfl)) (@aA _ _ _ _ _ (@eD _ _ _ _ _ _ _ _ zN (pv 4) (@aN _ _ _ _ (@aA _ _ _ _ _ (@aN _ _ _ _ (@aA _ _ _ _ _ (@aE _ _ _ _) (@aA _ _ _ _ _ (@aE _ _ _ _) (@aB _) rfl) rfl)) (@aA _ _ _ _ _ (@aN _ _ _ _ (@aA _ _ _ _ _ (@aE _ _ _ _) (@aA _ _ _ _ _ (@aE _ _ _ _) (@aB _) rfl) rfl)) (@aA _ _ _ _ _ (@aN _ _ _ _ (@aA _ _ _ _ _ (@aE _ _ _ _) (@aA _ _ _ _ _ (@aE _ _ _ _) (@aB _) rfl) rfl)) (@aA _ _ _ _ _ (@aN _ _ _ _ (@aA _ _ _ _ _ (@aE _ _ _ _) (@aA _ _ _ _ _ (@aE _ _ _ _) (@aA _ _ _ _ _ (@aE _ _ _ _) (@aB _) rfl) rfl) rfl)) (@aB _) rfl) rfl) rfl) rfl))) (@aA _ _ _ _ _ (@fO _ _ _ _ _ _ _ dA (pv 2) (@aE _ _ _ _) (fun _ _ => rfl)) (@aB _) rfl) rfl) rfl) rfl) rfl (by decide) rfl rfl) (fun _ => rfl))) (@aG _ _) (@aL _)) (@aC _ _ _ _ _ (@aT _ _ _ _ _ _ _ _ (@bJ _ _ _ _ (@bK _ _ _ (@aU _ _ _ _ _ _ _ _ _ _ AL hr12 (@aA _ _ _ _ _ (bB (v := .ref fH) (by rfl) mH rfl) (@aA _ _ _ _ _ (@aN _ _ _ _ (@aA _ _ _ _ _ (@aE _ _ _ _) (@aB _) rfl)) (@aA _ _ _ _ _ (@aN _ _ _ _ (@aA _ _ _ _ _ (@aE _ _ _ _) (@aA _ _ _ _ _ (@aE _ _ _ _) (@aA _ _ _ _ _ (@fN _ _ _) (@aA _ _ _ _ _ (@iG _ _ _ _) (@aA _ _ _ _ _ (@aN _ _ _ _ (@aA _ _ _ _ _ (@cL _ _ _ _) (@aB _) rfl)) (@aB _) rfl) rfl) rfl) rfl) rfl)) (@aA _ _ _ _ _ (@fO _ _ _ _ _ _ _ dA (pv 2) (@aE _ _ _ _) (fun _ _ => rfl)) (@aB _) rfl) rfl) rfl) rfl) rfl (by decide) rfl rfl) (fun _ => rfl))) (@aG _ _) (@aL _)) (@aC _ _ _ _ _ (@aM _ _ 5 _ _ _ _ nd rfl (Or.inl rfl) (@aN _ _ _ _ (@aA _ _ _ _ _ (@fN _ _ _) (@aA _ _ _ _ _ (@bD _ _ _ _ _ (@aB _)) (@aA _ _ _ _ _ (@aN _ _ _ _ (@aA _ _ _ _ _ (@aE _ _ _ _) (@aA _ _ _ _ _ (@aE _ _ _ _) (@aB _) rfl) rfl)) (@aA _ _ _ _ _ (@bD _ _ _ _ _ (@aA _ _ _ _ _ (@aE _ _ _ _) (@aB _) rfl)) (@aA _ _ _ _ _ (@bD _ _ _ _ _ (@aA _ _ _ _ _ (@aE _ _ _ _) (@aA _ _ _ _ _ (@aE _ _ _ _) (@aA _ _ _ _ _ (@aE _ _ _ _) (@aB _) rfl) rfl) rfl)) (@aA _ _ _ _ _ (@bD _ _ _ _ _ (@aA _ _ _ _ _ (@aE _ _ _ _) (@aA _ _ _ _ _ (@aE _ _ _ _) (@aB _) rfl) rfl)) (@aA _ _ _ _ _ (@bD _ _ _ _ _ (@aA _ _ _ _ _ (@aE _ _ _ _) (@aA _ _ _ _ _ (@aE _ _ _ _) (@aB _) rfl) rfl)) (@aA _ _ _ _ _ (@bD _ _ _ _ _ (@aA _ _ _ _ _ (@aE _ _ _ _) (@aA _ _ _ _ _ (@eD _ _ _ _ _ _ _ _ kK (@uY _ _ _ _ _ _ pA (@aE _ _ _ _)) (pv 1)) (@aB _) rfl) rfl)) (@aA _ _ _ _ _ (@bD _ _ _ _ _ (@aA _ _ _ _ _ (@eD _ _ _ _ _ _ _ _ lC (@aE _ _ _ _) (pv 1)) (@aA _ _ _ _ _ (@aE _ _ _ _) (@aB _) rfl) rfl)) (@aA _ _ _ _ _ (@bD _ _ _ _ _ (@aA _ _ _ _ _ (@cL _ _ _ _) (@aA _ _ _ _ _ (@aE _ _ _ _) (@aB _) rfl) rfl)) (@aA _ _ _ _ _ (@iG _ _ _ _) (@aB _) rfl) rfl) rfl) rfl) rfl) rfl) rfl) rfl) rfl) rfl) rfl)) rfl (Or.inl rfl)) (@aC _ _ _ _ _ (@aT _ _ _ _ _ _ _ _ (@bJ _ _ _ _ (@bK _ _ _ (@aU _ _ _ _ _ _ _ _ _ _ AL hr12 (@aA _ _ _ _ _ (bB (v := .ref fS) (by rfl) mS rfl) (@aA _ _ _ _ _ (@aR _ _ _ _ _ _ _ _ _ (iV rfl) (by rfl) B.list cQ (@aA _ _ _ _ _ (@aR _ _ _ _ _ _ _ _ _ kF (by rfl) B.range oW (@aA _ _ _ _ _ (@aE _ _ _ _) (@aB _) rfl) (by decide) (by decide) rfl rfl) (@aB _) rfl) (by decide) (by decide) rfl rfl) (@aA _ _ _ _ _ (@eD _ _ _ _ _ _ _ _ zN (pv 5) (@aN _ _ _ _ (@aA _ _ _ _ _ (@bD _ _ _ _ _ (@aA _ _ _ _ _ (@iG _ _ _ _) (@aA _ _ _ _ _ (@aE _ _ _ _) (@aB _) rfl) rfl)) (@aA _ _ _ _ _ (@bD _ _ _ _ _ (@aA _ _ _ _ _ (@aE _ _ _ _) (@aA _ _ _ _ _ (@fN _ _ _) (@aB _) rfl) rfl)) (@aB _) rfl) rfl))) (@aA _ _ _ _ _ (@fO _ _ _ _ _ _ _ dA (pv 2) (@aE _ _ _ _) (fun _ _ => rfl)) (@aB _) rfl) rfl) rfl) rfl) rfl (by decide) rfl rfl) (fun _ => rfl))) (@aG _ _) (@aL _)) (@aC _ _ _ _ _ (@aM _ _ 6 _ _ _ _ nd rfl (Or.inl rfl) (@aN _ _ _ _ (@aA _ _ _ _ _ (@aE _ _ _ _) (@aA _ _ _ _ _ (@eD _ _ _ _ _ _ _ _ lC (@aE _ _ _ _) (pv 1)) (@aA _ _ _ _ _ (@eD _ _ _ _ _ _ _ _ kK (@uY _ _ _ _ _ _ pA (@aE _ _ _ _)) (pv 1)) (@aA _ _ _ _ _ (@cL _ _ _ _) (@aA _ _ _ _ _ (@fN _ _ _) (@aA _ _ _ _ _ (@iG _ _ _ _) (@aA _ _ _ _ _ (@aN _ _ _ _ (@aA _ _ _ _ _ (@aE _ _ _ _) (@aB _) rfl)) (@aB _) rfl) rfl) rfl) rfl) rfl) rfl) rfl)) rfl (Or.inl rfl)) (@aC _ _ _ _ _ (@aT _ _ _ _ _ _ _ _ (@bJ _ _ _ _ (@bK _ _ _ (@aU _ _ _ _ _ _ _ _ _ _ AL hr12 (@aA _ _ _ _ _ (bB (v := .ref fM) (by rfl) mM rfl) (@aA _ _ _ _ _ (@aR _ _ _ _ _ _ _ _ _ (iV rfl) (by rfl) B.list cQ (@aA _ _ _ _ _ (@aR _ _ _ _ _ _ _ _ _ kF (by rfl) B.range oW (@aA _ _ _ _ _ (@aE _ _ _ _) (@aB _) rfl) (by decide) (by decide) rfl rfl) (@aB _) rfl) (by decide) (by decide) rfl rfl) (@aA _ _ _ _ _ (pv 6) (@aA _ _ _ _ _ (@fO _ _ _ _ _ _ _ dA (pv 2) (@aE _ _ _ _) (fun _ _ => rfl)) (@aB _) rfl) rfl) rfl) rfl) rfl (by decide) rfl rfl) (fun _ => rfl))) (@aG _ _) (@aL _)) (@aC _ _ _ _ _ (@aT _ _ _ _ _ _ _ _ (@PW.pt _ _ _ (@aK8 _ _ _ _ _ _ _ (@aV _ _ _ _ _ _ _ _ (nR hu) (@aU _ _ _ _ _ _ _ _ _ _ T hr11 (@aA _ _ _ _ _ (bB (v := .ref fM) (by rfl) mM rfl) (@aA _ _ _ _ _ (@aE _ _ _ _) (@aA _ _ _ _ _ (@aE _ _ _ _) (@aB _) rfl) rfl) rfl) rfl (by decide) rfl rfl) (@fO _ _ _ _ _ _ _ dA (pv 2) (@aE _ _ _ _) (fun _ _ => rfl)) (nomark _)) (@zK _ _ _ _ (@aV _ _ _ _ _ _ _ _ (nR hu) (@aU _ _ _ _ _ _ _ _ _ _ T hr11 (@aA _ _ _ _ _ (bB (v := .ref fM) (by rfl) mM rfl) (@aA _ _ _ _ _ (@aE _ _ _ _) (@aA _ _ _ _ _ (@aE _ _ _ _) (@aB _) rfl) rfl) rfl) rfl (by decide) rfl rfl) (@fO _ _ _ _ _ _ _ dA (pv 2) (@aE _ _ _ _) (fun _ _ => rfl)) (nomark _))))) (@aG _ _) (@aL _)) (@aC _ _ _ _ _ (@cN _ _ _ _ _ _ _ _ PassesOwn.never rfl (@dI _ _ _ _ (@aN _ _ _ _ (@aA _ _ _ _ _ (@fN _ _ _) (@aA _ _ _ _ _ (@bD _ _ _ _ _ (@aB _)) (@aA _ _ _ _ _ (@iG _ _ _ _) (@aA _ _ _ _ _ (@bD _ _ _ _ _ (@aA _ _ _ _ _ (@bE _ _ _ _ _ _ _ _ _ _ _ FM hr5 (@aA _ _ _ _ _ (@aE _ _ _ _) (@aB _) rfl) rfl (by decide) rfl rfl) (@aB _) rfl)) (@aA _ _ _ _ _ (@aE _ _ _ _) (@aB _) rfl) rfl) rfl) rfl) rfl))) (bT (i := 7) nd rfl (Or.inl rfl)) (@aH _ _ _ (@aT _ _ _ _ _ _ _ _ (@aV _ _ _ _ _ _ _ _ (nR hu) (@aU _ _ _ _ _ _ _ _ _ _ T hr11 (@aA _ _ _ _ _ (zM rfl hC rfl rfl rfl rfl bm) (@aA _ _ _ _ _ (pv 7) (@aA _ _ _ _ _ (@aE _ _ _ _) (@aB _) rfl) rfl) rfl) rfl (by decide) rfl rfl) (@fO _ _ _ _ _ _ _ dA (pv 2) (@aE _ _ _ _) (fun _ _ => rfl)) (nomark _)) (@aG _ _) (@aL _))) (fun _ => rfl)) (@aC _ _ _ _ _ (@aT _ _ _ _ _ _ _ _ (@bJ _ _ _ _ (@bK _ _ _ (@aU _ _ _ _ _ _ _ _ _ _ AL hr12 (@aA _ _ _ _ _ (bB (v := .ref fU) (by rfl) mU rfl) (@aA _ _ _ _ _ (@aN _ _ _ _ (@aA _ _ _ _ _ (@aE _ _ _ _) (@aA _ _ _ _ _ (@aE _ _ _ _) (@aB _) rfl) rfl)) (@aA _ _ _ _ _ (@aR _ _ _ _ _ _ _ _ _ (iV rfl) (by rfl) B.list cQ (@aA _ _ _ _ _ (@aR _ _ _ _ _ _ _ _ _ kF (by rfl) B.range oW (@aA _ _ _ _ _ (@aE _ _ _ _) (@aB _) rfl) (by decide) (by decide) rfl rfl) (@aB _) rfl) (by decide) (by decide) rfl rfl) (@aA _ _ _ _ _ (@fO _ _ _ _ _ _ _ dA (pv 2) (@aE _ _ _ _) (fun _ _ => rfl)) (@aB _) rfl) rfl) rfl) rfl) rfl (by decide) rfl rfl) (fun _ => rfl))) (@aG _ _) (@aL _)) (@aH _ _ _ (@aP _ _ _ _ (pP (@aU _ _ _ _ _ _ _ _ _ _ GR hr (@aA _ _ _ _ _ (pv 1) (@aA _ _ _ _ _ (@fO _ _ _ _ _ _ _ dA (pv 2) (@aE _ _ _ _) (fun _ _ => rfl)) (@aB _) rfl) rfl) rfl (by decide) rfl rfl) (vZ (aX5 GO hr10)))))))))))))))))), ?_⟩
   refine ⟨_, rfl, a, ns, 0, rfl, hS, by decide, fun c => ⟨_, _, rfl, rfl, ⟨by decide, by decide, by decide⟩, _, _, rfl, rfl, (show (0 : Int) < 10 ^ (6 : Int).toNat by decide), ?_⟩⟩
   have hf : 0 ≤ c % 10 ^ (6 : Int).toNat := Int.emod_nonneg _ (by decide)
   refine ⟨(by exact sz0), fun r nr => ⟨4, rfl, by decide, by decide, lJ (n := 4) (fun i σ H' => ∃ (es : List Addr) (v3 : Option V), σ = [some (.ref a), some (.int (c % 10 ^ (6 : Int).toNat)), some (.ref r), v3, none, none, none, none] ∧ Same H H' ∧ H' r = some (.lst (es.map V.ref)) ∧ es.length = i ∧ ∀ (j : Nat) x, es[j]? = some x → x ≠ r ∧ H' x = some (.lst ((lK j).map V.bl)))
     ⟨[], none, rfl, Same.new nr, aD, rfl, fun j x h => (by cases h)⟩ ?_ ?_⟩⟩
   · rintro i σ H1 hi ⟨es, v3, rfl, s1, er, le, hes⟩
     refine ⟨_, rfl, .inl ⟨rfl, _, SqL.of er⟩, _, rfl, rfl, _, rfl, rfl, _, rfl, rfl, _, rfl, rfl, (by exact sz6), fun l nl => ⟨r, _, _, rfl, rfl, (Same.new nl) _ _ er, gZ (by simp; omega), ?_⟩⟩
     have lr : l ≠ r := fun z => by rw [z, er] at nl; cases nl
     refine ⟨es ++ [l], _, rfl, (s1.lay nl).put nr, ?_, by simp [le], fun j x hj => ?_⟩
     · rw [aD]; simp
     · by_cases hlt : j < es.length
       · rw [List.getElem?_append_left hlt] at hj
         obtain ⟨h1, h2⟩ := hes j x hj
         exact ⟨h1, by rw [aI h1]; exact (Same.new nl) _ _ h2⟩
       · have hj' := (List.getElem?_eq_some_iff.mp hj).1
         rw [List.length_append, List.length_singleton] at hj'
         have hji : j = es.length := by omega
         subst hji
         rw [List.getElem?_append_right (Nat.le_refl _)] at hj
         simp at hj
         subst hj
         refine ⟨lr, ?_⟩
         rw [aI lr, aD, le, ← bG0 i hi]
   rintro σ H1 ⟨es, v3, rfl, s1, er, le, hes⟩
   obtain ⟨e0, e1, e2, e3, rfl⟩ : ∃ e0 e1 e2 e3, es = [e0, e1, e2, e3] := by
     match es, le with
     | [e0, e1, e2, e3], _ => exact ⟨e0, e1, e2, e3, rfl⟩
   have h0 := (hes 0 e0 rfl).2
   have h1 := (hes 1 e1 rfl).2
   have h2 := (hes 2 e2 rfl).2
   have h3 := (hes 3 e3 rfl).2
   have p1 := s1 _ _ hP1
   have p2 := s1 _ _ hP2
   clear hes le s1
   generalize c % 10 ^ (6 : Int).toNat = far at *
   refine ⟨(by exact sz0), fun b1 n1 => ⟨(by exact sz2), fun b2 n2 => ⟨(by exact sz1), fun b3 n3 => ⟨(by exact sz1), fun b4 n4 => ⟨_, rfl, _, _, rfl, rfl, (by exact sz1), fun b5 n5 => ⟨_, rfl, _, rfl, _, _, rfl, rfl, (by exact sz1), fun b6 n6 => ⟨(by exact sz1), fun b7 n7 => ⟨(by exact sz1), fun b8 n8 => ⟨(by exact sz1), fun b9 n9 => ⟨(by exact sz5), fun b10 n10 => ⟨(by show 12 ≤ sizeLine; decide), fun L nL => ?_⟩⟩⟩⟩⟩⟩⟩⟩⟩⟩⟩
   refine ⟨(by exact sz1), fun d nd => ⟨_, rfl, (by exact sz2), fun c1 m1 => ⟨(by exact sz2), fun c2 m2 => ⟨(by exact sz2), fun c3 m3 => ⟨(by exact sz3), fun c4 m4 => ⟨(by exact sz4), fun M nM => ⟨L, M, _, _, rfl, rfl, aT_, aD, (by show 16 ≤ sizeLine; decide), fun C nC => ⟨_, rfl, r, _, _, _, rfl, rfl, SqL.of aT_, rfl, fH, d, C, e0, 0, _, _, rfl, by decide, aT_, aD, aT_, ?_, fun H2 s2 => ⟨_, rfl, cB ?_⟩⟩⟩⟩⟩⟩⟩⟩⟩
   · intro v hv u hu
     simp only [List.mem_cons, List.not_mem_nil, or_false] at hv
     subst hv
     refine aC9 (d := 0) FH kH bH (.inl ⟨rfl, ?_⟩)
     simp only [List.mem_append, List.mem_cons, List.not_mem_nil, or_false] at hu
     rcases hu with (rfl | rfl | rfl | rfl | rfl | rfl | rfl | rfl | rfl | rfl | rfl | rfl) | (rfl | rfl | rfl | rfl)
     · exact .inl ⟨_, .non, by decide⟩
     · exact .inr ⟨_, [], rfl, aT_, fun x hx => (by cases hx), .inl rfl⟩
     · exact .inl ⟨_, .tup (xs := [.int 3, .int 5]) aT_, by decide⟩
     · exact .inl ⟨_, .str _, by decide⟩
     · exact bz1 (x := .int 0) aT_ (.int _) rfl
     · exact bz1 (x := .int 61) aT_ (.int _) rfl
     · exact bz1 (x := .int (61 + far)) aT_ (.int _) (iI (.inr (by omega)))
     · exact bz1 (x := .int (-1 - far)) aT_ (.int _) (iI (.inl (by omega)))
     · exact bz1 (x := .bl true) aT_ (.bl _) rfl
     · exact bz1 (x := .str "3") aT_ (.str _) rfl
     · exact bz1 (x := .non) aT_ .non rfl
     · exact .inr ⟨_, [.int 1, .int 1, .int 1, .int 1, .int 1], rfl, aT_, fun x hx => (by simp at hx; subst hx; exact .int _), .inr (.inl (by decide))⟩
     · exact bzP (sz := [60, 60]) aT_ (by decide) (by decide)
     · exact bzP (sz := [44, 44]) aT_ (by decide) (by decide)
     · exact bzP (sz := [60, 32]) aT_ (by decide) (by decide)
     · exact bzP (sz := [2, 22, 28]) aT_ (by decide) (by decide)
   have er2 : H2 r = some (.lst ([e0, e1, e2, e3].map V.ref)) := s2 _ _ aT_
   have f0 : H2 e0 = some (.lst ((lK 0).map V.bl)) := s2 _ _ aT_
   have f1 : H2 e1 = some (.lst ((lK 1).map V.bl)) := s2 _ _ aT_
   have f2 : H2 e2 = some (.lst ((lK 2).map V.bl)) := s2 _ _ aT_
   have f3 : H2 e3 = some (.lst ((lK 3).map V.bl)) := s2 _ _ aT_
   have fp1 : H2 P1 = some (.tbl #[]) := s2 _ _ aT_
   have fp2 : H2 P2 = some (.tbl #[]) := s2 _ _ aT_
   clear s2 nC nM m1 m2 m3 m4 nd nL n1 n2 n3 n4 n5 n6 n7 n8 n9 n10 er h0 h1 h2 h3 p1 p2 hP1 hP2
   refine ⟨(by exact sz1), fun d nd => ⟨(by exact sz1), fun t1 mt1 => ⟨(by exact sz5), fun T5 nT => ⟨_, rfl, r, _, _, _, rfl, rfl, SqL.of aT_, rfl, fH, d, T5, e0, 0, _, _, rfl, by decide, aT_, aD, aT_, ?_, fun H3 s3 => ⟨_, rfl, cB ?_⟩⟩⟩⟩⟩
   · intro v hv u hu
     simp only [List.mem_cons, List.not_mem_nil, or_false] at hv
     subst hv
     refine aC9 (d := 1) FH kH bH (.inr ⟨rfl, ?_⟩)
     simp only [List.mem_cons, List.not_mem_nil, or_false] at hu
     rcases hu with rfl | rfl | rfl | rfl | rfl
     · exact ⟨_, .int _, by decide⟩
     · exact ⟨_, .int _, by decide⟩
     · exact ⟨_, .non, by decide⟩
     · exact ⟨_, .str _, by decide⟩
     · exact ⟨_, .lst (xs := [.bl true]) aT_, by decide⟩
   have er3 : H3 r = some (.lst ([e0, e1, e2, e3].map V.ref)) := s3 _ _ aT_
   have g1 : H3 e1 = some (.lst ((lK 1).map V.bl)) := s3 _ _ aT_
   have g2 : H3 e2 = some (.lst ((lK 2).map V.bl)) := s3 _ _ aT_
   have g3 : H3 e3 = some (.lst ((lK 3).map V.bl)) := s3 _ _ aT_
   have gp1 : H3 P1 = some (.tbl #[]) := s3 _ _ aT_
   have gp2 : H3 P2 = some (.tbl #[]) := s3 _ _ aT_
   clear s3 nT mt1 nd er2 f0 f1 f2 f3 fp1 fp2
   refine ⟨(by exact sz0), fun b1 n1 => ⟨(by exact sz2), fun b2 n2 => ⟨(by exact sz1), fun b3 n3 => ⟨(by exact sz3), fun b4 n4 => ⟨(by exact sz2), fun b5 n5 => ⟨(by exact sz2), fun b6 n6 => ⟨_, rfl, _, rfl, _, _, rfl, rfl, (by exact sz2), fun b7 n7 => ⟨_, rfl, _, _, rfl, rfl, (by exact sz2), fun b8 n8 => ⟨(by exact sz2), fun b9 n9 => ⟨(by show 11 ≤ sizeLine; decide), fun L2 nL2 => ?_⟩⟩⟩⟩⟩⟩⟩⟩⟩⟩
   refine ⟨9, rfl, fun r9 nr9 => ⟨r9, 9, rfl, aD, by decide, by decide, fun l9 nl9 => ⟨_, rfl, (by exact sz2), fun c1 m1 => ⟨(by exact sz2), fun c2 m2 => ⟨(by exact sz2), fun M nM => ⟨L2, M, _, _, rfl, rfl, aT_, aD, (by show 13 ≤ sizeLine; decide), fun C nC => ⟨_, rfl, r, _, _, _, rfl, rfl, SqL.of aT_, rfl, fS, l9, C, e1, 1, _, _, rfl, by decide, aT_, aD, aT_, ?_, fun H4 s4 => ⟨_, rfl, cB ?_⟩⟩⟩⟩⟩⟩⟩⟩
   · intro v hv u hu
     obtain ⟨n, hn, rfl⟩ := List.mem_map.mp hv
     have hn : n < 9 := List.mem_range.mp hn
     refine aT6 FS kS bS hn ?_
     simp only [List.mem_append, List.mem_cons, List.not_mem_nil, or_false] at hu
     rcases hu with (rfl | rfl | rfl | rfl | rfl | rfl | rfl | rfl | rfl | rfl | rfl) | (rfl | rfl)
     · exact .inl ⟨_, .non, by decide⟩
     · exact bst (xs := []) aT_ rfl rfl
     · exact .inl ⟨_, .lst (xs := [.int 0, .int 0]) aT_, by decide⟩
     · exact bst (xs := [.int 0]) aT_ rfl rfl
     · exact bst (xs := [.int 0, .int 0, .int 0]) aT_ rfl rfl
     · exact bst (xs := [.int 4, .int 0]) aT_ rfl rfl
     · exact bst (xs := [.int 0, .int 6]) aT_ rfl rfl
     · exact bst (xs := [.int 0, .int (-1 - far)]) aT_ rfl (by show (_ && (cY _ 0 5 && _)) = false; rw [iI (i := -1 - far) (.inl (by omega))]; rfl)
     · exact bst (xs := [.int (6 + far), .int 0]) aT_ rfl (by show (cY _ 0 3 && _) = false; rw [iI (i := 6 + far) (.inr (by omega))]; rfl)
     · exact bst (xs := [.bl true, .int 0]) aT_ rfl rfl
     · exact .inl ⟨_, .str _, by decide⟩
     · exact bst (xs := [.str "0", .int 0]) aT_ rfl rfl
     · exact bst (xs := [.int 0, .non]) aT_ rfl rfl
   have er4 : H4 r = some (.lst ([e0, e1, e2, e3].map V.ref)) := s4 _ _ aT_
   have h2 : H4 e2 = some (.lst ((lK 2).map V.bl)) := s4 _ _ aT_
   have h3 : H4 e3 = some (.lst ((lK 3).map V.bl)) := s4 _ _ aT_
   have hp1 : H4 P1 = some (.tbl #[]) := s4 _ _ aT_
   have hp2 : H4 P2 = some (.tbl #[]) := s4 _ _ aT_
   clear s4 nC nM m1 m2 nl9 nr9 nL2 n1 n2 n3 n4 n5 n6 n7 n8 n9 er3 g1 g2 g3 gp1 gp2
   refine ⟨_, rfl, _, _, rfl, rfl, _, rfl, _, rfl, _, _, rfl, rfl, (by exact sz1), fun gl ngl => ⟨(by exact sz7), fun Lb nLb => ?_⟩⟩
   refine ⟨7, rfl, fun r7 nr7 => ⟨r7, 7, rfl, aD, by decide, by decide, fun l7 nl7 => ⟨_, rfl, _, rfl, r, _, _, _, rfl, rfl, SqL.of aT_, rfl, fM, l7, Lb, e2, 2, _, _, rfl, by decide, aT_, aT_, aT_, ?_, fun H5 s5 => ⟨_, rfl, cB ?_⟩⟩⟩⟩
   · intro v hv u hu
     obtain ⟨n, hn, rfl⟩ := List.mem_map.mp hv
     have hn : n < 7 := List.mem_range.mp hn
     simp only [List.mem_cons, List.not_mem_nil, or_false] at hu
     rcases hu with rfl | rfl | rfl | rfl | rfl | rfl | rfl
     · exact jJ FMv kM bM hn (.int _) (fun _ => .inl rfl) (fun _ => .inl rfl) (fun _ => rfl) fun _ => .inl ⟨_, .int _, by decide⟩
     · have q : cY (.int (4 + far)) 0 3 = false := iI (.inr (by omega))
       exact jJ FMv kM bM hn (.int _) (fun _ => .inl q) (fun _ => .inl q) (fun _ => q) fun _ => .inl ⟨_, .int _, by decide⟩
     · have q : cY (.int (-1 - far)) 0 3 = false := iI (.inl (by omega))
       exact jJ FMv kM bM hn (.int _) (fun _ => .inl q) (fun _ => .inl q) (fun _ => q) fun _ => .inl ⟨_, .int _, by decide⟩
     · exact jJ FMv kM bM hn (.bl _) (fun _ => .inl rfl) (fun _ => .inl rfl) (fun _ => rfl) fun _ => .inl ⟨_, .bl _, by decide⟩
     · exact jJ FMv kM bM hn .non (fun _ => .inl rfl) (fun _ => .inl rfl) (fun _ => rfl) fun _ => .inl ⟨_, .non, by decide⟩
     · exact jJ FMv kM bM hn (.str _) (fun _ => .inl rfl) (fun _ => .inl rfl) (fun _ => rfl) fun _ => .inl ⟨_, .str _, by decide⟩
     · exact jJ FMv kM bM hn (.lst (xs := [.int 0]) aT_) (fun _ => .inl rfl) (fun _ => .inl rfl) (fun _ => rfl) fun _ => aE4 (.int 0) aT_
   have er5 : H5 r = some (.lst ([e0, e1, e2, e3].map V.ref)) := s5 _ _ aT_
   have j2 : H5 e2 = some (.lst ((lK 2).map V.bl)) := s5 _ _ aT_
   have j3 : H5 e3 = some (.lst ((lK 3).map V.bl)) := s5 _ _ aT_
   have jp1 : H5 P1 = some (.tbl #[]) := s5 _ _ aT_
   have jp2 : H5 P2 = some (.tbl #[]) := s5 _ _ aT_
   clear s5 nl7 nr7 nLb ngl er4 h2 h3 hp1 hp2
   refine ⟨fM, 2, .int 0, .int 1, rfl, by decide, jJ (d := 0) FMv kM bM (by decide) (.int _) (fun _ => .inr rfl) (fun h => absurd h (by decide)) (fun h => absurd h (by decide)) (fun h => absurd h (by decide)), fun l6 H6 s6 x6 => ⟨_, rfl, r, _, _, _, rfl, rfl, SqL.of (s6 _ _ er5), rfl, _, rcB x6 (s6 _ _ j2), _, rfl, ?_⟩⟩
   rw [decide_eq_true rfl]
   refine cB ?_
   refine ⟨fM, 2, .int 1, .int 0, rfl, by decide, jJ (d := 1) FMv kM bM (by decide) (.int _) (fun h => absurd h (by decide)) (fun _ => .inr rfl) (fun h => absurd h (by decide)) (fun h => absurd h (by decide)), fun l7 H7 s7 x7 => ⟨_, rfl, r, _, _, _, rfl, rfl, SqL.of (s7 _ _ (s6 _ _ er5)), rfl, _, rcB x7 (s7 _ _ (s6 _ _ j2)), _, rfl, ?_⟩⟩
   rw [decide_eq_true rfl]
   refine cB ?_
   have s67 := s6.trans s7
   have er7 := s67 _ _ er5
   have k2 := s67 _ _ j2
   have k3 := s67 _ _ j3
   have kp1 := s67 _ _ jp1
   have kp2 := s67 _ _ jp2
   clear s6 s7 s67 er5 j2 j3 jp1 jp2 x6 x7
   refine ⟨(by exact sz0), fun b1 n1 => mK (a := 0) (by decide) fun q8 H8 s8 m8 => ⟨(by exact sz1), fun b2 n2 => ⟨(by exact sz5), fun L nL => ?_⟩⟩⟩
   have er8 : (upd (upd H8 b2 (.tup [.ref q8])) L (.lst [.non, .ref b1, .str "fill 0", .ref b2, .int 5])) r = some (.lst ([e0, e1, e2, e3].map V.ref)) := bF (bF (s8 _ _ aT_) n2) nL
   have u2 : (upd (upd H8 b2 (.tup [.ref q8])) L (.lst [.non, .ref b1, .str "fill 0", .ref b2, .int 5])) e2 = some (.lst ((lK 2).map V.bl)) := bF (bF (s8 _ _ aT_) n2) nL
   have u3 : (upd (upd H8 b2 (.tup [.ref q8])) L (.lst [.non, .ref b1, .str "fill 0", .ref b2, .int 5])) e3 = some (.lst ((lK 3).map V.bl)) := bF (bF (s8 _ _ aT_) n2) nL
   have up1 : (upd (upd H8 b2 (.tup [.ref q8])) L (.lst [.non, .ref b1, .str "fill 0", .ref b2, .int 5])) P1 = some (.tbl #[]) := bF (bF (s8 _ _ aT_) n2) nL
   have up2 : (upd (upd H8 b2 (.tup [.ref q8])) L (.lst [.non, .ref b1, .str "fill 0", .ref b2, .int 5])) P2 = some (.tbl #[]) := bF (bF (s8 _ _ aT_) n2) nL
   have v1 : (upd (upd H8 b2 (.tup [.ref q8])) L (.lst [.non, .ref b1, .str "fill 0", .ref b2, .int 5])) b1 = some (.tup []) := bF (bF (s8 _ _ aD) n2) nL
   have v2 : (upd (upd H8 b2 (.tup [.ref q8])) L (.lst [.non, .ref b1, .str "fill 0", .ref b2, .int 5])) b2 = some (.tup [.ref q8]) := bF aD nL
   have vL : (upd (upd H8 b2 (.tup [.ref q8])) L (.lst [.non, .ref b1, .str "fill 0", .ref b2, .int 5])) L = some (.lst [.non, .ref b1, .str "fill 0", .ref b2, .int 5]) := aD
   generalize hHL : (upd (upd H8 b2 (.tup [.ref q8])) L (.lst [.non, .ref b1, .str "fill 0", .ref b2, .int 5])) = HL at *
   have nP : ∀ {b : Addr} {o : HO}, HL b = some o → o ≠ .tbl #[] → b ≠ P1 := fun {b o} e n z => by rw [z, up1] at e; cases e; exact n rfl
   have hall : ∀ v ∈ [V.non, .ref b1, .str "fill 0", .ref b2, .int 5], kN Z (zZ P1 HL) v := by
     intro v hv
     simp only [List.mem_cons, List.not_mem_nil, or_false] at hv
     rcases hv with rfl | rfl | rfl | rfl | rfl
     · exact .inl ⟨_, .non, by decide⟩
     · exact .inl ⟨_, .tup (jI v1 (nP v1 (by intro z; cases z))), by decide⟩
     · exact .inl ⟨_, .str _, by decide⟩
     · exact .inl ⟨_, .tup (jI v2 (nP v2 (by intro z; cases z))), by decide⟩
     · exact .inl ⟨_, .int _, by decide⟩
   refine ⟨L, rfl, ⟨_, SqL.of vL⟩, cU (K := K) (a := L) (xs := [V.non, .ref b1, .str "fill 0", .ref b2, .int 5]) (fun i σ H' => (∃ v3 v4 v5 v6 v7, σ = [some (.ref a), some (.int far), some (.ref r), v3, v4, v5, v6, v7]) ∧ kW P1 HL H' ∧ aE6 H' P1 ⟨450, 21, 450, 72⟩ ((("law" : Str) ++ ".<locals>.") ++ "<lambda>") #[])
     ⟨⟨_, _, _, _, _, rfl⟩, iE (Same.refl _), .inl up1⟩ (fun i σ H' _ ⟨_, sB, _⟩ => SqL.of (sB _ _ vL (nP vL (by intro z; cases z)))) ?_ ?_⟩
   · rintro i v σ H5 hv ⟨⟨v3, v4, v5, v6, v7, rfl⟩, sB, hT⟩
     refine wS hT trivial rfl fun fl c' H6 s6 hfl hc' hP6 => ⟨_, rfl, ?_⟩
     have sB6 := sB.trans s6
     have bad := (hall v (List.mem_of_getElem? hv)).mono (rO sB6)
     refine ⟨fl, 2, v, .int 0, rfl, by decide, fun H7 s7 => ⟨sQ (s7 _ _ hfl), fun Q' E' hE => aA5 (k := 9) (N := ["_law_one", "_law_other"]) (ps := ["_law_one", "_law_other"]) fS7 (s7 _ _ hfl) (s7 _ _ hc') rfl (fun pm ctv us hl => match us, hl with | [_, _], _ => rfl) fun A' o' s' hr' => ?_⟩, fun l H8 s8 e8 => ?_⟩
     · exact ⟨_, bI bdX xeX RT (hr'.mono (by decide)) (aA (pv 0) aB), ⟨_, rfl, v, rfl, bad.mono s7, hE⟩⟩
     · have sB8 := sB6.trans (iE s8)
       refine ⟨_, rfl, r, _, _, _, rfl, rfl, SqL.of (sB8 _ _ er8 (nP er8 (by intro z; cases z))), rfl, _, rcB e8 (sB8 _ _ u2 (nP u2 (by intro z; cases z))), _, rfl, ?_⟩
       rw [decide_eq_true rfl]
       exact cB ⟨⟨_, _, _, _, _, rfl⟩, sB8, .inr ⟨c', s8 _ _ hP6, s8 _ _ hc'⟩⟩
   · rintro σ H5 ⟨⟨v3, v4, v5, v6, v7, rfl⟩, sB5, _⟩
     have er9 := sB5 _ _ er8 (nP er8 (by intro z; cases z))
     have w2 := sB5 _ _ u2 (nP u2 (by intro z; cases z))
     have w3 := sB5 _ _ u3 (nP u3 (by intro z; cases z))
     have wp2 := sB5 _ _ up2 (Ne.symm h12)
     refine ⟨(by exact sz2), fun d nd => ⟨7, rfl, fun r7 nr7 => ⟨r7, 7, rfl, aD, by decide, by decide, fun l7 nl7 => ⟨_, rfl, r, _, _, _, rfl, rfl, SqL.of (bF (bF (bF er9 nd) nr7) nl7), rfl, fU, d, l7, e2, 2, _, _, rfl, by decide, bF (bF aD nr7) nl7, aD, bF (bF (bF w2 nd) nr7) nl7, ?_, fun H6 s6 => ⟨_, rfl, cB ?_⟩⟩⟩⟩⟩
     · intro v hv u hu
       obtain ⟨n, hn, rfl⟩ := List.mem_map.mp hu
       have hn : n < 7 := List.mem_range.mp hn
       simp only [List.mem_cons, List.not_mem_nil, or_false] at hv
       rcases hv with rfl | rfl
       · exact aC8 (d := 0) FU kU bU (by decide) hn
       · exact aC8 (d := 1) FU kU bU (by decide) hn
     · have x1 := s6 _ _ (bF (bF (bF er9 nd) nr7) nl7)
       have x3 := s6 _ _ (bF (bF (bF w3 nd) nr7) nl7)
       have xp := s6 _ _ (bF (bF (bF wp2 nd) nr7) nl7)
       refine ⟨_, rfl, _, rfl, r, _, _, _, rfl, rfl, SqL.of x1, rfl, far, e3, rfl, hf, x3, xp, fun H7 s7 => ⟨_, rfl, dR ⟨rfl, fun H8 s8 => kk H8⟩⟩⟩
end
end Jug
namespace Jug
open PySem L2
theorem bF2 {us : List Value} (h : us.length = 1) : ∃ a0, us = [a0] := match us, h with | [a0], _ => ⟨a0, rfl⟩
theorem bF1 {us : List Value} (h : us.length = 2) : ∃ a0 a1, us = [a0, a1] := match us, h with | [a0, a1], _ => ⟨a0, a1, rfl⟩
theorem bF0 {us : List Value} (h : us.length = 3) : ∃ a0 a1 a2, us = [a0, a1, a2] := match us, h with | [a0, a1, a2], _ => ⟨a0, a1, a2, rfl⟩
theorem bE9 {us : List Value} (h : us.length = 4) : ∃ a0 a1 a2 a3, us = [a0, a1, a2, a3] := match us, h with | [a0, a1, a2, a3], _ => ⟨a0, a1, a2, a3, rfl⟩
theorem bA {K : W.Frag} {x q : Str} {st : Stmt} {f : Addr} {fd : FuncData} {ps : List Str} (F : Fun K x q st f fd) (h : ∀ (kV doc pm : Value) (an : Option Addr) (cdv ct : Value) (us : List Value), us.length = ps.length → bindArgs (W.fnOf x q (aO st) (aK st) (aF st) .none kV doc pm an cdv ct) ⟨us, []⟩ = pure (ps.zip us) := by intro _ _ _ _ _ _ us hl; first | (obtain ⟨_, rfl⟩ := bF2 hl; rfl) | (obtain ⟨_, _, rfl⟩ := bF1 hl; rfl) | (obtain ⟨_, _, _, rfl⟩ := bF0 hl; rfl) | (obtain ⟨_, _, _, _, rfl⟩ := bE9 hl; rfl)) : Binds K fd ps [] := F.binds h
theorem bG2 {P : Program} {w : World} {K : W.Frag} {mg : Str → Option Value} {base : Heap} {k : Nat} {Z : Cz} {m : Str} {ps : List Str} {sp : Sp} (h0 : MeB P w K mg base k Z.P m ps sp) (h1 : MeB P w K mg base k Z.F m ps sp) (h2 : MeB P w K mg base k Z.E m ps sp) : ∀ C, sX Z C → MeB P w K mg base k C m ps sp := by
 rintro C (rfl | rfl | rfl)
 · exact h0
 · exact h1
 · exact h2
theorem bA5 {P : Program} {w : World} {K : W.Frag} {mg : Str → Option Value} {base : Heap} {k : Nat} {Z : Cz} {m : Str} {ps : List Str} {sp : Sp} (h0 : MeX P w K mg base k Z.P m ps sp) (h1 : MeX P w K mg base k Z.F m ps sp) (h2 : MeX P w K mg base k Z.E m ps sp) : ∀ C, sX Z C → MeX P w K mg base k C m ps sp := by
 rintro C (rfl | rfl | rfl)
 · exact h0
 · exact h1
 · exact h2
theorem bG1 {P : Program} {w : World} {K : W.Frag} {mg : Str → Option Value} {base : Heap} {k : Nat} {Z : Gz} {m : Str} {ps : List Str} {sp : Sp} (h0 : MeB P w K mg base k Z.H m ps sp) (h1 : MeB P w K mg base k Z.S m ps sp) (h2 : MeB P w K mg base k Z.U m ps sp) (h3 : MeB P w K mg base k Z.W m ps sp) : ∀ C, nF Z C → MeB P w K mg base k C m ps sp := by
 rintro C (rfl | rfl | rfl | rfl)
 · exact h0
 · exact h1
 · exact h2
 · exact h3
theorem bA4 {P : Program} {w : World} {K : W.Frag} {mg : Str → Option Value} {base : Heap} {k : Nat} {Z : Gz} {m : Str} {ps : List Str} {sp : Sp} (h0 : MeX P w K mg base k Z.H m ps sp) (h1 : MeX P w K mg base k Z.S m ps sp) (h2 : MeX P w K mg base k Z.U m ps sp) (h3 : MeX P w K mg base k Z.W m ps sp) : ∀ C, nF Z C → MeX P w K mg base k C m ps sp := by
 rintro C (rfl | rfl | rfl | rfl)
 · exact h0
 · exact h1
 · exact h2
 · exact h3
def aJ4 (K : W.Frag) : Sp := aB3 K 712 698
theorem all_mk {l : W.OpenLaw} {w : World} {K : W.Frag} {h : Heap} {mg : Str → Option Value} {fa : Addr} (X : K.In h) (G : h.Ns mainGlobals mg) (hfa : mg "law" = some (.ref fa))
   {t_MOST_JUGS : Tok}
   {t_MOST_SIZE : Tok}
   {t_MOST_STATES : Tok}
   {t_MOST_AMOUNT : Tok}
   {C_Pour : Addr}
   {C_Fill : Addr}
   {C_Empty : Addr}
   {C_House : Addr}
   {C_Holds : Addr}
   {C_Some : Addr}
   {C_Sum : Addr}
   {C_Whole : Addr}
   {C_Goal : Addr}
   {C_BadHouse : Addr}
   {C_BadState : Addr}
   {C_BadMove : Addr}
   {C_BadGoal : Addr}
   {C_BadText : Addr}
   {C_JugError : Addr}
   {f0 : Addr} {oc0 kV0 dc0 pm0 ct0 : Value} {od0 an0 : Option Addr} {sl0 : Array (Option Value)} {cd0 : Value}
   {f1 : Addr} {oc1 kV1 dc1 pm1 ct1 : Value} {od1 an1 : Option Addr} {sl1 : Array (Option Value)} {cd1 : Value}
   {f2 : Addr} {oc2 kV2 dc2 pm2 ct2 : Value} {od2 an2 : Option Addr} {sl2 : Array (Option Value)} {cd2 : Value}
   {f3 : Addr} {oc3 kV3 dc3 pm3 ct3 : Value} {od3 an3 : Option Addr} {sl3 : Array (Option Value)} {cd3 : Value}
   {f4 : Addr} {oc4 kV4 dc4 pm4 ct4 : Value} {od4 an4 : Option Addr} {sl4 : Array (Option Value)} {cd4 : Value}
   {f5 : Addr} {oc5 kV5 dc5 pm5 ct5 : Value} {od5 an5 : Option Addr} {sl5 : Array (Option Value)} {cd5 : Value}
   {f6 : Addr} {oc6 kV6 dc6 pm6 ct6 : Value} {od6 an6 : Option Addr} {sl6 : Array (Option Value)} {cd6 : Value}
   {f7 : Addr} {oc7 kV7 dc7 pm7 ct7 : Value} {od7 an7 : Option Addr} {sl7 : Array (Option Value)} {cd7 : Value}
   {f8 : Addr} {oc8 kV8 dc8 pm8 ct8 : Value} {od8 an8 : Option Addr} {sl8 : Array (Option Value)} {cd8 : Value}
   {f9 : Addr} {oc9 kV9 dc9 pm9 ct9 : Value} {od9 an9 : Option Addr} {sl9 : Array (Option Value)} {cd9 : Value}
   {f10 : Addr} {oc10 kV10 dc10 pm10 ct10 : Value} {od10 an10 : Option Addr} {sl10 : Array (Option Value)} {cd10 : Value}
   {f11 : Addr} {oc11 kV11 dc11 pm11 ct11 : Value} {od11 an11 : Option Addr} {sl11 : Array (Option Value)} {cd11 : Value}
   {f12 : Addr} {oc12 kV12 dc12 pm12 ct12 : Value} {od12 an12 : Option Addr} {sl12 : Array (Option Value)} {cd12 : Value}
   {f13 : Addr} {oc13 kV13 dc13 pm13 ct13 : Value} {od13 an13 : Option Addr} {sl13 : Array (Option Value)} {cd13 : Value}
   {f14 : Addr} {oc14 kV14 dc14 pm14 ct14 : Value} {od14 an14 : Option Addr} {sl14 : Array (Option Value)} {cd14 : Value}
   {f15 : Addr} {oc15 kV15 dc15 pm15 ct15 : Value} {od15 an15 : Option Addr} {sl15 : Array (Option Value)} {cd15 : Value}
   {f16 : Addr} {oc16 kV16 dc16 pm16 ct16 : Value} {od16 an16 : Option Addr} {sl16 : Array (Option Value)} {cd16 : Value}
   {f17 : Addr} {oc17 kV17 dc17 pm17 ct17 : Value} {od17 an17 : Option Addr} {sl17 : Array (Option Value)} {cd17 : Value}
   {f18 : Addr} {oc18 kV18 dc18 pm18 ct18 : Value} {od18 an18 : Option Addr} {sl18 : Array (Option Value)} {cd18 : Value}
   {f19 : Addr} {oc19 kV19 dc19 pm19 ct19 : Value} {od19 an19 : Option Addr} {sl19 : Array (Option Value)} {cd19 : Value}
   {f20 : Addr} {oc20 kV20 dc20 pm20 ct20 : Value} {od20 an20 : Option Addr} {sl20 : Array (Option Value)} {cd20 : Value}
   {f21 : Addr} {oc21 kV21 dc21 pm21 ct21 : Value} {od21 an21 : Option Addr} {sl21 : Array (Option Value)} {cd21 : Value}
   {f22 : Addr} {oc22 kV22 dc22 pm22 ct22 : Value} {od22 an22 : Option Addr} {sl22 : Array (Option Value)} {cd22 : Value}
   {f23 : Addr} {oc23 kV23 dc23 pm23 ct23 : Value} {od23 an23 : Option Addr} {sl23 : Array (Option Value)} {cd23 : Value}
   {f24 : Addr} {oc24 kV24 dc24 pm24 ct24 : Value} {od24 an24 : Option Addr} {sl24 : Array (Option Value)} {cd24 : Value}
   {f25 : Addr} {oc25 kV25 dc25 pm25 ct25 : Value} {od25 an25 : Option Addr} {sl25 : Array (Option Value)} {cd25 : Value}
   {f26 : Addr} {oc26 kV26 dc26 pm26 ct26 : Value} {od26 an26 : Option Addr} {sl26 : Array (Option Value)} {cd26 : Value}
   {f27 : Addr} {oc27 kV27 dc27 pm27 ct27 : Value} {od27 an27 : Option Addr} {sl27 : Array (Option Value)} {cd27 : Value}
   {f28 : Addr} {oc28 kV28 dc28 pm28 ct28 : Value} {od28 an28 : Option Addr} {sl28 : Array (Option Value)} {cd28 : Value}
   {f29 : Addr} {oc29 kV29 dc29 pm29 ct29 : Value} {od29 an29 : Option Addr} {sl29 : Array (Option Value)} {cd29 : Value}
   {f30 : Addr} {oc30 kV30 dc30 pm30 ct30 : Value} {od30 an30 : Option Addr} {sl30 : Array (Option Value)} {cd30 : Value}
   {f31 : Addr} {oc31 kV31 dc31 pm31 ct31 : Value} {od31 an31 : Option Addr} {sl31 : Array (Option Value)} {cd31 : Value}
   {f32 : Addr} {oc32 kV32 dc32 pm32 ct32 : Value} {od32 an32 : Option Addr} {sl32 : Array (Option Value)} {cd32 : Value}
   {f33 : Addr} {oc33 kV33 dc33 pm33 ct33 : Value} {od33 an33 : Option Addr} {sl33 : Array (Option Value)} {cd33 : Value}
   {f34 : Addr} {oc34 kV34 dc34 pm34 ct34 : Value} {od34 an34 : Option Addr} {sl34 : Array (Option Value)} {cd34 : Value}
   {f35 : Addr} {oc35 kV35 dc35 pm35 ct35 : Value} {od35 an35 : Option Addr} {sl35 : Array (Option Value)} {cd35 : Value}
   {f36 : Addr} {oc36 kV36 dc36 pm36 ct36 : Value} {od36 an36 : Option Addr} {sl36 : Array (Option Value)} {cd36 : Value}
   {f37 : Addr} {oc37 kV37 dc37 pm37 ct37 : Value} {od37 an37 : Option Addr} {sl37 : Array (Option Value)} {cd37 : Value}
   {f38 : Addr} {oc38 kV38 dc38 pm38 ct38 : Value} {od38 an38 : Option Addr} {sl38 : Array (Option Value)} {cd38 : Value}
   {f39 : Addr} {oc39 kV39 dc39 pm39 ct39 : Value} {od39 an39 : Option Addr} {sl39 : Array (Option Value)} {cd39 : Value}
   {f40 : Addr} {oc40 kV40 dc40 pm40 ct40 : Value} {od40 an40 : Option Addr} {sl40 : Array (Option Value)} {cd40 : Value}
   {f41 : Addr} {oc41 kV41 dc41 pm41 ct41 : Value} {od41 an41 : Option Addr} {sl41 : Array (Option Value)} {cd41 : Value}
   {f42 : Addr} {oc42 kV42 dc42 pm42 ct42 : Value} {od42 an42 : Option Addr} {sl42 : Array (Option Value)} {cd42 : Value}
   {f43 : Addr} {oc43 kV43 dc43 pm43 ct43 : Value} {od43 an43 : Option Addr} {sl43 : Array (Option Value)} {cd43 : Value}
   {f44 : Addr} {oc44 kV44 dc44 pm44 ct44 : Value} {od44 an44 : Option Addr} {sl44 : Array (Option Value)} {cd44 : Value}
   {f45 : Addr} {oc45 kV45 dc45 pm45 ct45 : Value} {od45 an45 : Option Addr} {sl45 : Array (Option Value)} {cd45 : Value}
   {f46 : Addr} {oc46 kV46 dc46 pm46 ct46 : Value} {od46 an46 : Option Addr} {sl46 : Array (Option Value)} {cd46 : Value}
   {f47 : Addr} {oc47 kV47 dc47 pm47 ct47 : Value} {od47 an47 : Option Addr} {sl47 : Array (Option Value)} {cd47 : Value}
   {f48 : Addr} {oc48 kV48 dc48 pm48 ct48 : Value} {od48 an48 : Option Addr} {sl48 : Array (Option Value)} {cd48 : Value}
   {f49 : Addr} {oc49 kV49 dc49 pm49 ct49 : Value} {od49 an49 : Option Addr} {sl49 : Array (Option Value)} {cd49 : Value}
   {f50 : Addr} {oc50 kV50 dc50 pm50 ct50 : Value} {od50 an50 : Option Addr} {sl50 : Array (Option Value)} {cd50 : Value}
   {f51 : Addr} {oc51 kV51 dc51 pm51 ct51 : Value} {od51 an51 : Option Addr} {sl51 : Array (Option Value)} {cd51 : Value}
   {f52 : Addr} {oc52 kV52 dc52 pm52 ct52 : Value} {od52 an52 : Option Addr} {sl52 : Array (Option Value)} {cd52 : Value}
   {f53 : Addr} {oc53 kV53 dc53 pm53 ct53 : Value} {od53 an53 : Option Addr} {sl53 : Array (Option Value)} {cd53 : Value}
   {f54 : Addr} {oc54 kV54 dc54 pm54 ct54 : Value} {od54 an54 : Option Addr} {sl54 : Array (Option Value)} {cd54 : Value}
   {f55 : Addr} {oc55 kV55 dc55 pm55 ct55 : Value} {od55 an55 : Option Addr} {sl55 : Array (Option Value)} {cd55 : Value}
   {f56 : Addr} {oc56 kV56 dc56 pm56 ct56 : Value} {od56 an56 : Option Addr} {sl56 : Array (Option Value)} {cd56 : Value}
   {f57 : Addr} {oc57 kV57 dc57 pm57 ct57 : Value} {od57 an57 : Option Addr} {sl57 : Array (Option Value)} {cd57 : Value}
   {f58 : Addr} {oc58 kV58 dc58 pm58 ct58 : Value} {od58 an58 : Option Addr} {sl58 : Array (Option Value)}
   {f59 : Addr} {oc59 kV59 dc59 pm59 ct59 : Value} {od59 an59 : Option Addr} {sl59 : Array (Option Value)}
   (z_isinstance : W.nsIn K mainGlobals "isinstance" = some none)
   (z_int : W.nsIn K mainGlobals "int" = some none)
   (z_bool : W.nsIn K mainGlobals "bool" = some none)
   (z_tuple : W.nsIn K mainGlobals "tuple" = some none)
   (z_list : W.nsIn K mainGlobals "list" = some none)
   (z_len : W.nsIn K mainGlobals "len" = some none)
   (z_zip : W.nsIn K mainGlobals "zip" = some none)
   (z_range : W.nsIn K mainGlobals "range" = some none)
   (z_min : W.nsIn K mainGlobals "min" = some none)
   (z_str : W.nsIn K mainGlobals "str" = some none)
   (z_sum : W.nsIn K mainGlobals "sum" = some none)
   (z_sorted : W.nsIn K mainGlobals "sorted" = some none)
   (z_set : W.nsIn K mainGlobals "set" = some none)
   (z_ValueError : W.nsIn K mainGlobals "ValueError" = some none)
   (z_MOST_JUGS : W.nsIn K mainGlobals "MOST_JUGS" = some (some (.int 4 t_MOST_JUGS)))
   (z_MOST_SIZE : W.nsIn K mainGlobals "MOST_SIZE" = some (some (.int 60 t_MOST_SIZE)))
   (z_MOST_STATES : W.nsIn K mainGlobals "MOST_STATES" = some (some (.int 2000 t_MOST_STATES)))
   (z_MOST_AMOUNT : W.nsIn K mainGlobals "MOST_AMOUNT" = some (some (.int 240 t_MOST_AMOUNT)))
   (a_Pour : W.nsIn K mainGlobals "Pour" = some (some (.ref C_Pour)))
   (pg_Pour : W.plainGet K C_Pour Str.empty = true)
   (hd_Pour : W.hasDictIn K C_Pour = true)
   (po_Pour : W.plainOver K C_Pour = true)
   (sa_Pour : W.findIn K (.ref C_Pour) "__setattr__" = some (some (.builtin "object.__setattr__")))
   (mk_Pour : W.makesIn K C_Pour = true)
   (kc_Pour : W.keepIn K (.ref C_Pour) = true)
   (n_Pour_one : W.findIn K (.ref C_Pour) "one" = some none)
   (n_Pour_other : W.findIn K (.ref C_Pour) "other" = some none)
   (ha_Pour : W.findIn K (.ref C_Pour) "__class__" = some (some (.builtin "object.__class__")))
   (hm_Pour : W.mroIn K C_Pour (.type "object") = some true)
   (a_Fill : W.nsIn K mainGlobals "Fill" = some (some (.ref C_Fill)))
   (pg_Fill : W.plainGet K C_Fill Str.empty = true)
   (hd_Fill : W.hasDictIn K C_Fill = true)
   (po_Fill : W.plainOver K C_Fill = true)
   (sa_Fill : W.findIn K (.ref C_Fill) "__setattr__" = some (some (.builtin "object.__setattr__")))
   (mk_Fill : W.makesIn K C_Fill = true)
   (kc_Fill : W.keepIn K (.ref C_Fill) = true)
   (n_Fill_jug : W.findIn K (.ref C_Fill) "jug" = some none)
   (ha_Fill : W.findIn K (.ref C_Fill) "__class__" = some (some (.builtin "object.__class__")))
   (hm_Fill : W.mroIn K C_Fill (.type "object") = some true)
   (a_Empty : W.nsIn K mainGlobals "Empty" = some (some (.ref C_Empty)))
   (pg_Empty : W.plainGet K C_Empty Str.empty = true)
   (hd_Empty : W.hasDictIn K C_Empty = true)
   (po_Empty : W.plainOver K C_Empty = true)
   (sa_Empty : W.findIn K (.ref C_Empty) "__setattr__" = some (some (.builtin "object.__setattr__")))
   (mk_Empty : W.makesIn K C_Empty = true)
   (kc_Empty : W.keepIn K (.ref C_Empty) = true)
   (n_Empty_jug : W.findIn K (.ref C_Empty) "jug" = some none)
   (ha_Empty : W.findIn K (.ref C_Empty) "__class__" = some (some (.builtin "object.__class__")))
   (hm_Empty : W.mroIn K C_Empty (.type "object") = some true)
   (a_House : W.nsIn K mainGlobals "House" = some (some (.ref C_House)))
   (pg_House : W.plainGet K C_House Str.empty = true)
   (hd_House : W.hasDictIn K C_House = true)
   (po_House : W.plainOver K C_House = true)
   (sa_House : W.findIn K (.ref C_House) "__setattr__" = some (some (.builtin "object.__setattr__")))
   (mk_House : W.makesIn K C_House = true)
   (kc_House : W.keepIn K (.ref C_House) = true)
   (n_House_jug_sizes : W.findIn K (.ref C_House) "jug_sizes" = some none)
   (n_House_tap : W.findIn K (.ref C_House) "tap" = some none)
   (a_Holds : W.nsIn K mainGlobals "Holds" = some (some (.ref C_Holds)))
   (pg_Holds : W.plainGet K C_Holds Str.empty = true)
   (hd_Holds : W.hasDictIn K C_Holds = true)
   (po_Holds : W.plainOver K C_Holds = true)
   (sa_Holds : W.findIn K (.ref C_Holds) "__setattr__" = some (some (.builtin "object.__setattr__")))
   (mk_Holds : W.makesIn K C_Holds = true)
   (kc_Holds : W.keepIn K (.ref C_Holds) = true)
   (n_Holds_jug : W.findIn K (.ref C_Holds) "jug" = some none)
   (n_Holds_many : W.findIn K (.ref C_Holds) "many" = some none)
   (ha_Holds : W.findIn K (.ref C_Holds) "__class__" = some (some (.builtin "object.__class__")))
   (hm_Holds : W.mroIn K C_Holds (.type "object") = some true)
   (a_Some : W.nsIn K mainGlobals "Some" = some (some (.ref C_Some)))
   (pg_Some : W.plainGet K C_Some Str.empty = true)
   (hd_Some : W.hasDictIn K C_Some = true)
   (po_Some : W.plainOver K C_Some = true)
   (sa_Some : W.findIn K (.ref C_Some) "__setattr__" = some (some (.builtin "object.__setattr__")))
   (mk_Some : W.makesIn K C_Some = true)
   (kc_Some : W.keepIn K (.ref C_Some) = true)
   (n_Some_many : W.findIn K (.ref C_Some) "many" = some none)
   (ha_Some : W.findIn K (.ref C_Some) "__class__" = some (some (.builtin "object.__class__")))
   (hm_Some : W.mroIn K C_Some (.type "object") = some true)
   (a_Sum : W.nsIn K mainGlobals "Sum" = some (some (.ref C_Sum)))
   (pg_Sum : W.plainGet K C_Sum Str.empty = true)
   (hd_Sum : W.hasDictIn K C_Sum = true)
   (po_Sum : W.plainOver K C_Sum = true)
   (sa_Sum : W.findIn K (.ref C_Sum) "__setattr__" = some (some (.builtin "object.__setattr__")))
   (mk_Sum : W.makesIn K C_Sum = true)
   (kc_Sum : W.keepIn K (.ref C_Sum) = true)
   (n_Sum_jugs : W.findIn K (.ref C_Sum) "jugs" = some none)
   (n_Sum_many : W.findIn K (.ref C_Sum) "many" = some none)
   (ha_Sum : W.findIn K (.ref C_Sum) "__class__" = some (some (.builtin "object.__class__")))
   (hm_Sum : W.mroIn K C_Sum (.type "object") = some true)
   (a_Whole : W.nsIn K mainGlobals "Whole" = some (some (.ref C_Whole)))
   (pg_Whole : W.plainGet K C_Whole Str.empty = true)
   (hd_Whole : W.hasDictIn K C_Whole = true)
   (po_Whole : W.plainOver K C_Whole = true)
   (sa_Whole : W.findIn K (.ref C_Whole) "__setattr__" = some (some (.builtin "object.__setattr__")))
   (mk_Whole : W.makesIn K C_Whole = true)
   (kc_Whole : W.keepIn K (.ref C_Whole) = true)
   (n_Whole_state : W.findIn K (.ref C_Whole) "state" = some none)
   (ha_Whole : W.findIn K (.ref C_Whole) "__class__" = some (some (.builtin "object.__class__")))
   (hm_Whole : W.mroIn K C_Whole (.type "object") = some true)
   (a_Goal : W.nsIn K mainGlobals "Goal" = some (some (.ref C_Goal)))
   (pg_Goal : W.plainGet K C_Goal Str.empty = true)
   (hd_Goal : W.hasDictIn K C_Goal = true)
   (po_Goal : W.plainOver K C_Goal = true)
   (sa_Goal : W.findIn K (.ref C_Goal) "__setattr__" = some (some (.builtin "object.__setattr__")))
   (a_BadHouse : W.nsIn K mainGlobals "BadHouse" = some (some (.ref C_BadHouse)))
   (ex_BadHouse : W.excIn K C_BadHouse bmV "ValueError.__new__" = true)
   (a_BadState : W.nsIn K mainGlobals "BadState" = some (some (.ref C_BadState)))
   (ex_BadState : W.excIn K C_BadState bmV "ValueError.__new__" = true)
   (a_BadMove : W.nsIn K mainGlobals "BadMove" = some (some (.ref C_BadMove)))
   (ex_BadMove : W.excIn K C_BadMove bmV "ValueError.__new__" = true)
   (a_BadGoal : W.nsIn K mainGlobals "BadGoal" = some (some (.ref C_BadGoal)))
   (ex_BadGoal : W.excIn K C_BadGoal bmV "ValueError.__new__" = true)
   (a_BadText : W.nsIn K mainGlobals "BadText" = some (some (.ref C_BadText)))
   (a_JugError : W.nsIn K mainGlobals "JugError" = some (some (.ref C_JugError)))
   (ex_JugError : W.excIn K C_JugError bmV "ValueError.__new__" = true)
   (ga_BadHouse : W.findIn K (.ref C_BadHouse) "__getattribute__" = some (some (.builtin "BaseException.__getattribute__")))
   (gt_BadHouse : W.findIn K (.ref C_BadHouse) "__getattr__" = some none)
   (gc_BadHouse : W.findIn K (.ref C_BadHouse) "__class__" = some (some (.builtin "object.__class__")))
   (mb_BadHouse : W.mroIn K C_BadHouse (.type "BaseException") = some true)
   (mo_BadHouse : W.mroIn K C_BadHouse (.type "object") = some true)
   (is_BadHouse : (W.clsIn K C_BadHouse).isSome = true)
   (sj_BadHouse : L2.lS K C_BadHouse C_JugError = true)
   (kv_BadHouse : W.kitOne K (.ref C_BadHouse) (.type "ValueError") = some true)
   (ga_BadState : W.findIn K (.ref C_BadState) "__getattribute__" = some (some (.builtin "BaseException.__getattribute__")))
   (gt_BadState : W.findIn K (.ref C_BadState) "__getattr__" = some none)
   (gc_BadState : W.findIn K (.ref C_BadState) "__class__" = some (some (.builtin "object.__class__")))
   (mb_BadState : W.mroIn K C_BadState (.type "BaseException") = some true)
   (mo_BadState : W.mroIn K C_BadState (.type "object") = some true)
   (is_BadState : (W.clsIn K C_BadState).isSome = true)
   (sj_BadState : L2.lS K C_BadState C_JugError = true)
   (kv_BadState : W.kitOne K (.ref C_BadState) (.type "ValueError") = some true)
   (ga_BadMove : W.findIn K (.ref C_BadMove) "__getattribute__" = some (some (.builtin "BaseException.__getattribute__")))
   (gt_BadMove : W.findIn K (.ref C_BadMove) "__getattr__" = some none)
   (gc_BadMove : W.findIn K (.ref C_BadMove) "__class__" = some (some (.builtin "object.__class__")))
   (mb_BadMove : W.mroIn K C_BadMove (.type "BaseException") = some true)
   (mo_BadMove : W.mroIn K C_BadMove (.type "object") = some true)
   (is_BadMove : (W.clsIn K C_BadMove).isSome = true)
   (sj_BadMove : L2.lS K C_BadMove C_JugError = true)
   (kv_BadMove : W.kitOne K (.ref C_BadMove) (.type "ValueError") = some true)
   (ga_BadGoal : W.findIn K (.ref C_BadGoal) "__getattribute__" = some (some (.builtin "BaseException.__getattribute__")))
   (gt_BadGoal : W.findIn K (.ref C_BadGoal) "__getattr__" = some none)
   (gc_BadGoal : W.findIn K (.ref C_BadGoal) "__class__" = some (some (.builtin "object.__class__")))
   (mb_BadGoal : W.mroIn K C_BadGoal (.type "BaseException") = some true)
   (mo_BadGoal : W.mroIn K C_BadGoal (.type "object") = some true)
   (is_BadGoal : (W.clsIn K C_BadGoal).isSome = true)
   (sj_BadGoal : L2.lS K C_BadGoal C_JugError = true)
   (kv_BadGoal : W.kitOne K (.ref C_BadGoal) (.type "ValueError") = some true)
   (ss : L2.lS K C_BadState C_BadState = true)
   (nm0 : W.kitAny K (.type "NoneType") [.ref C_Pour, .ref C_Fill, .ref C_Empty] = some false)
   (nm1 : W.kitAny K (.type "bool") [.ref C_Pour, .ref C_Fill, .ref C_Empty] = some false)
   (nm2 : W.kitAny K (.type "int") [.ref C_Pour, .ref C_Fill, .ref C_Empty] = some false)
   (nm3 : W.kitAny K (.type "str") [.ref C_Pour, .ref C_Fill, .ref C_Empty] = some false)
   (nm4 : W.kitAny K (.type "list") [.ref C_Pour, .ref C_Fill, .ref C_Empty] = some false)
   (nm5 : W.kitAny K (.type "tuple") [.ref C_Pour, .ref C_Fill, .ref C_Empty] = some false)
   (ng0 : W.kitAny K (.type "NoneType") [.ref C_Holds, .ref C_Some, .ref C_Sum, .ref C_Whole] = some false)
   (ng1 : W.kitAny K (.type "bool") [.ref C_Holds, .ref C_Some, .ref C_Sum, .ref C_Whole] = some false)
   (ng2 : W.kitAny K (.type "int") [.ref C_Holds, .ref C_Some, .ref C_Sum, .ref C_Whole] = some false)
   (ng3 : W.kitAny K (.type "str") [.ref C_Holds, .ref C_Some, .ref C_Sum, .ref C_Whole] = some false)
   (ng4 : W.kitAny K (.type "list") [.ref C_Holds, .ref C_Some, .ref C_Sum, .ref C_Whole] = some false)
   (ng5 : W.kitAny K (.type "tuple") [.ref C_Holds, .ref C_Some, .ref C_Sum, .ref C_Whole] = some false)
   (hn : W.specialIn K (.builtin "object.__class__") "__get__" = some (some (.builtin "getset_descriptor.__get__")))
   (htk : W.takesIn K (.builtin "object.__class__") = some true)
   (k_Fill_Pour : W.kitOne K (.ref C_Fill) (.ref C_Pour) = some false)
   (k_Empty_Pour : W.kitOne K (.ref C_Empty) (.ref C_Pour) = some false)
   (k_Empty_Fill : W.kitOne K (.ref C_Empty) (.ref C_Fill) = some false)
   (k_Holds_Some : W.kitOne K (.ref C_Holds) (.ref C_Some) = some false)
   (k_Holds_Sum : W.kitOne K (.ref C_Holds) (.ref C_Sum) = some false)
   (k_Holds_Whole : W.kitOne K (.ref C_Holds) (.ref C_Whole) = some false)
   (k_Some_Holds : W.kitOne K (.ref C_Some) (.ref C_Holds) = some false)
   (k_Some_Sum : W.kitOne K (.ref C_Some) (.ref C_Sum) = some false)
   (k_Some_Whole : W.kitOne K (.ref C_Some) (.ref C_Whole) = some false)
   (k_Sum_Holds : W.kitOne K (.ref C_Sum) (.ref C_Holds) = some false)
   (k_Sum_Some : W.kitOne K (.ref C_Sum) (.ref C_Some) = some false)
   (k_Sum_Whole : W.kitOne K (.ref C_Sum) (.ref C_Whole) = some false)
   (k_Whole_Holds : W.kitOne K (.ref C_Whole) (.ref C_Holds) = some false)
   (k_Whole_Some : W.kitOne K (.ref C_Whole) (.ref C_Some) = some false)
   (k_Whole_Sum : W.kitOne K (.ref C_Whole) (.ref C_Sum) = some false)
   (k_Holds_Goal : W.kitOne K (.ref C_Holds) (.ref C_Goal) = some true)
   (k_Some_Goal : W.kitOne K (.ref C_Some) (.ref C_Goal) = some true)
   (k_Sum_Goal : W.kitOne K (.ref C_Sum) (.ref C_Goal) = some true)
   (k_Whole_Goal : W.kitOne K (.ref C_Whole) (.ref C_Goal) = some true)
   (k_BadHouse_BadState : W.kitOne K (.ref C_BadHouse) (.ref C_BadState) = some false)
   (k_BadHouse_BadMove : W.kitOne K (.ref C_BadHouse) (.ref C_BadMove) = some false)
   (k_BadHouse_BadGoal : W.kitOne K (.ref C_BadHouse) (.ref C_BadGoal) = some false)
   (k_BadHouse_BadText : W.kitOne K (.ref C_BadHouse) (.ref C_BadText) = some false)
   (k_BadState_BadHouse : W.kitOne K (.ref C_BadState) (.ref C_BadHouse) = some false)
   (k_BadState_BadMove : W.kitOne K (.ref C_BadState) (.ref C_BadMove) = some false)
   (k_BadState_BadGoal : W.kitOne K (.ref C_BadState) (.ref C_BadGoal) = some false)
   (k_BadState_BadText : W.kitOne K (.ref C_BadState) (.ref C_BadText) = some false)
   (k_BadMove_BadHouse : W.kitOne K (.ref C_BadMove) (.ref C_BadHouse) = some false)
   (k_BadMove_BadState : W.kitOne K (.ref C_BadMove) (.ref C_BadState) = some false)
   (k_BadMove_BadGoal : W.kitOne K (.ref C_BadMove) (.ref C_BadGoal) = some false)
   (k_BadMove_BadText : W.kitOne K (.ref C_BadMove) (.ref C_BadText) = some false)
   (k_BadGoal_BadHouse : W.kitOne K (.ref C_BadGoal) (.ref C_BadHouse) = some false)
   (k_BadGoal_BadState : W.kitOne K (.ref C_BadGoal) (.ref C_BadState) = some false)
   (k_BadGoal_BadMove : W.kitOne K (.ref C_BadGoal) (.ref C_BadMove) = some false)
   (k_BadGoal_BadText : W.kitOne K (.ref C_BadGoal) (.ref C_BadText) = some false)
   (a0 : W.nsIn K mainGlobals "is_number" = some (some (.ref f0)))
   (l0 : K.lookup f0 = some ⟨oc0, od0, .func (W.fnOf "is_number" "is_number" (aO fC) (aK fC) (aF fC) .none kV0 dc0 pm0 an0 cd0 ct0), sl0⟩)
   (c0 : W.codeIn K cd0 "is_number" = true)
   (kp0 : W.keepIn K (.ref f0) = true)
   (a1 : W.nsIn K mainGlobals "is_jug" = some (some (.ref f1)))
   (l1 : K.lookup f1 = some ⟨oc1, od1, .func (W.fnOf "is_jug" "is_jug" (aO jV) (aK jV) (aF jV) .none kV1 dc1 pm1 an1 cd1 ct1), sl1⟩)
   (c1 : W.codeIn K cd1 "is_jug" = true)
   (kp1 : W.keepIn K (.ref f1) = true)
   (a2_House : W.findIn K (.ref C_House) "sizes" = some (some (.ref f2)))
   (i2 : W.isFn K (.ref f2) = true)
   (l2 : K.lookup f2 = some ⟨oc2, od2, .func (W.fnOf "sizes" "House.sizes" (aO eX) (aK eX) (aF eX) .none kV2 dc2 pm2 an2 cd2 ct2), sl2⟩)
   (c2 : W.codeIn K cd2 "House.sizes" = true)
   (kp2 : W.keepIn K (.ref f2) = true)
   (a3 : W.nsIn K mainGlobals "held_in" = some (some (.ref f3)))
   (l3 : K.lookup f3 = some ⟨oc3, od3, .func (W.fnOf "held_in" "held_in" (aO iO) (aK iO) (aF iO) .none kV3 dc3 pm3 an3 cd3 ct3), sl3⟩)
   (c3 : W.codeIn K cd3 "held_in" = true)
   (kp3 : W.keepIn K (.ref f3) = true)
   (a4 : W.nsIn K mainGlobals "with_amount" = some (some (.ref f4)))
   (l4 : K.lookup f4 = some ⟨oc4, od4, .func (W.fnOf "with_amount" "with_amount" (aO eU) (aK eU) (aF eU) .none kV4 dc4 pm4 an4 cd4 ct4), sl4⟩)
   (c4 : W.codeIn K cd4 "with_amount" = true)
   (kp4 : W.keepIn K (.ref f4) = true)
   (a5 : W.nsIn K mainGlobals "check_jug_moves" = some (some (.ref f5)))
   (l5 : K.lookup f5 = some ⟨oc5, od5, .func (W.fnOf "check_jug" "check_jug" (aO fD) (aK fD) (aF fD) .none kV5 dc5 pm5 an5 cd5 ct5), sl5⟩)
   (c5 : W.codeIn K cd5 "check_jug" = true)
   (kp5 : W.keepIn K (.ref f5) = true)
   (a6 : W.nsIn K mainGlobals "check_house_has_moves" = some (some (.ref f6)))
   (l6 : K.lookup f6 = some ⟨oc6, od6, .func (W.fnOf "check_house_has" "check_house_has" (aO cM) (aK cM) (aF cM) .none kV6 dc6 pm6 an6 cd6 ct6), sl6⟩)
   (c6 : W.codeIn K cd6 "check_house_has" = true)
   (kp6 : W.keepIn K (.ref f6) = true)
   (a7 : W.nsIn K mainGlobals "check_house_can_tap" = some (some (.ref f7)))
   (l7 : K.lookup f7 = some ⟨oc7, od7, .func (W.fnOf "check_house_can_tap" "check_house_can_tap" (aO bW) (aK bW) (aF bW) .none kV7 dc7 pm7 an7 cd7 ct7), sl7⟩)
   (c7 : W.codeIn K cd7 "check_house_can_tap" = true)
   (kp7 : W.keepIn K (.ref f7) = true)
   (a8_Pour : W.findIn K (.ref C_Pour) "__init__" = some (some (.ref f8)))
   (i8 : W.isFn K (.ref f8) = true)
   (l8 : K.lookup f8 = some ⟨oc8, od8, .func (W.fnOf "__init__" "Pour.__init__" (aO fF) (aK fF) (aF fF) .none kV8 dc8 pm8 an8 cd8 ct8), sl8⟩)
   (c8 : W.codeIn K cd8 "Pour.__init__" = true)
   (kp8 : W.keepIn K (.ref f8) = true)
   (a9_Fill : W.findIn K (.ref C_Fill) "__init__" = some (some (.ref f9)))
   (i9 : W.isFn K (.ref f9) = true)
   (l9 : K.lookup f9 = some ⟨oc9, od9, .func (W.fnOf "__init__" "Fill.__init__" (aO fK) (aK fK) (aF fK) .none kV9 dc9 pm9 an9 cd9 ct9), sl9⟩)
   (c9 : W.codeIn K cd9 "Fill.__init__" = true)
   (kp9 : W.keepIn K (.ref f9) = true)
   (a10_Empty : W.findIn K (.ref C_Empty) "__init__" = some (some (.ref f10)))
   (i10 : W.isFn K (.ref f10) = true)
   (l10 : K.lookup f10 = some ⟨oc10, od10, .func (W.fnOf "__init__" "Empty.__init__" (aO eP) (aK eP) (aF eP) .none kV10 dc10 pm10 an10 cd10 ct10), sl10⟩)
   (c10 : W.codeIn K cd10 "Empty.__init__" = true)
   (kp10 : W.keepIn K (.ref f10) = true)
   (a11_Pour : W.findIn K (.ref C_Pour) "held_behind" = some (some (.ref f11)))
   (i11 : W.isFn K (.ref f11) = true)
   (l11 : K.lookup f11 = some ⟨oc11, od11, .func (W.fnOf "held_behind" "Pour.held_behind" (aO cJ) (aK cJ) (aF cJ) .none kV11 dc11 pm11 an11 cd11 ct11), sl11⟩)
   (c11 : W.codeIn K cd11 "Pour.held_behind" = true)
   (kp11 : W.keepIn K (.ref f11) = true)
   (a12_Fill : W.findIn K (.ref C_Fill) "held_behind" = some (some (.ref f12)))
   (i12 : W.isFn K (.ref f12) = true)
   (l12 : K.lookup f12 = some ⟨oc12, od12, .func (W.fnOf "held_behind" "Fill.held_behind" (aO cK) (aK cK) (aF cK) .none kV12 dc12 pm12 an12 cd12 ct12), sl12⟩)
   (c12 : W.codeIn K cd12 "Fill.held_behind" = true)
   (kp12 : W.keepIn K (.ref f12) = true)
   (a13_Empty : W.findIn K (.ref C_Empty) "held_behind" = some (some (.ref f13)))
   (i13 : W.isFn K (.ref f13) = true)
   (l13 : K.lookup f13 = some ⟨oc13, od13, .func (W.fnOf "held_behind" "Empty.held_behind" (aO bZ) (aK bZ) (aF bZ) .none kV13 dc13 pm13 an13 cd13 ct13), sl13⟩)
   (c13 : W.codeIn K cd13 "Empty.held_behind" = true)
   (kp13 : W.keepIn K (.ref f13) = true)
   (a14_Pour : W.findIn K (.ref C_Pour) "done" = some (some (.ref f14)))
   (a14_Fill : W.findIn K (.ref C_Fill) "done" = some (some (.ref f14)))
   (a14_Empty : W.findIn K (.ref C_Empty) "done" = some (some (.ref f14)))
   (i14 : W.isFn K (.ref f14) = true)
   (l14 : K.lookup f14 = some ⟨oc14, od14, .func (W.fnOf "done" "Move.done" (aO fI) (aK fI) (aF fI) .none kV14 dc14 pm14 an14 cd14 ct14), sl14⟩)
   (c14 : W.codeIn K cd14 "Move.done" = true)
   (kp14 : W.keepIn K (.ref f14) = true)
   (a15 : W.nsIn K mainGlobals "moves_in" = some (some (.ref f15)))
   (l15 : K.lookup f15 = some ⟨oc15, od15, .func (W.fnOf "moves_in" "moves_in" (aO gR) (aK gR) (aF gR) .none kV15 dc15 pm15 an15 cd15 ct15), sl15⟩)
   (c15 : W.codeIn K cd15 "moves_in" = true)
   (kp15 : W.keepIn K (.ref f15) = true)
   (a16 : W.nsIn K mainGlobals "done_all" = some (some (.ref f16)))
   (l16 : K.lookup f16 = some ⟨oc16, od16, .func (W.fnOf "done_all" "done_all" (aO iP) (aK iP) (aF iP) .none kV16 dc16 pm16 an16 cd16 ct16), sl16⟩)
   (c16 : W.codeIn K cd16 "done_all" = true)
   (kp16 : W.keepIn K (.ref f16) = true)
   (a17 : W.nsIn K mainGlobals "count_states" = some (some (.ref f17)))
   (l17 : K.lookup f17 = some ⟨oc17, od17, .func (W.fnOf "count_states" "count_states" (aO dW) (aK dW) (aF dW) .none kV17 dc17 pm17 an17 cd17 ct17), sl17⟩)
   (c17 : W.codeIn K cd17 "count_states" = true)
   (kp17 : W.keepIn K (.ref f17) = true)
   (a18 : W.nsIn K mainGlobals "sizes_in" = some (some (.ref f18)))
   (l18 : K.lookup f18 = some ⟨oc18, od18, .func (W.fnOf "sizes_in" "sizes_in" (aO gQ) (aK gQ) (aF gQ) .none kV18 dc18 pm18 an18 cd18 ct18), sl18⟩)
   (c18 : W.codeIn K cd18 "sizes_in" = true)
   (kp18 : W.keepIn K (.ref f18) = true)
   (a19_House : W.findIn K (.ref C_House) "__init__" = some (some (.ref f19)))
   (i19 : W.isFn K (.ref f19) = true)
   (l19 : K.lookup f19 = some ⟨oc19, od19, .func (W.fnOf "__init__" "House.__init__" (aO eN) (aK eN) (aF eN) .none kV19 dc19 pm19 an19 cd19 ct19), sl19⟩)
   (c19 : W.codeIn K cd19 "House.__init__" = true)
   (kp19 : W.keepIn K (.ref f19) = true)
   (a20 : W.nsIn K mainGlobals "pours_among" = some (some (.ref f20)))
   (l20 : K.lookup f20 = some ⟨oc20, od20, .func (W.fnOf "pours_among" "pours_among" (aO eV) (aK eV) (aF eV) .none kV20 dc20 pm20 an20 cd20 ct20), sl20⟩)
   (c20 : W.codeIn K cd20 "pours_among" = true)
   (kp20 : W.keepIn K (.ref f20) = true)
   (a21 : W.nsIn K mainGlobals "with_one_more" = some (some (.ref f21)))
   (l21 : K.lookup f21 = some ⟨oc21, od21, .func (W.fnOf "with_one_more" "with_one_more" (aO dJ) (aK dJ) (aF dJ) .none kV21 dc21 pm21 an21 cd21 ct21), sl21⟩)
   (c21 : W.codeIn K cd21 "with_one_more" = true)
   (kp21 : W.keepIn K (.ref f21) = true)
   (a22_House : W.findIn K (.ref C_House) "states" = some (some (.ref f22)))
   (i22 : W.isFn K (.ref f22) = true)
   (l22 : K.lookup f22 = some ⟨oc22, od22, .func (W.fnOf "states" "House.states" (aO dY) (aK dY) (aF dY) .none kV22 dc22 pm22 an22 cd22 ct22), sl22⟩)
   (c22 : W.codeIn K cd22 "House.states" = true)
   (kp22 : W.keepIn K (.ref f22) = true)
   (a23_House : W.findIn K (.ref C_House) "moves" = some (some (.ref f23)))
   (i23 : W.isFn K (.ref f23) = true)
   (l23 : K.lookup f23 = some ⟨oc23, od23, .func (W.fnOf "moves" "House.moves" (aO eY) (aK eY) (aF eY) .none kV23 dc23 pm23 an23 cd23 ct23), sl23⟩)
   (c23 : W.codeIn K cd23 "House.moves" = true)
   (kp23 : W.keepIn K (.ref f23) = true)
   (a24 : W.nsIn K mainGlobals "ways_from" = some (some (.ref f24)))
   (l24 : K.lookup f24 = some ⟨oc24, od24, .func (W.fnOf "ways_from" "ways_from" (aO fB) (aK fB) (aF fB) .none kV24 dc24 pm24 an24 cd24 ct24), sl24⟩)
   (c24 : W.codeIn K cd24 "ways_from" = true)
   (kp24 : W.keepIn K (.ref f24) = true)
   (a25 : W.nsIn K mainGlobals "reached" = some (some (.ref f25)))
   (l25 : K.lookup f25 = some ⟨oc25, od25, .func (W.fnOf "reached" "reached" (aO iL) (aK iL) (aF iL) .none kV25 dc25 pm25 an25 cd25 ct25), sl25⟩)
   (c25 : W.codeIn K cd25 "reached" = true)
   (kp25 : W.keepIn K (.ref f25) = true)
   (a26 : W.nsIn K mainGlobals "measured" = some (some (.ref f26)))
   (l26 : K.lookup f26 = some ⟨oc26, od26, .func (W.fnOf "measured" "measured" (aO iM) (aK iM) (aF iM) .none kV26 dc26 pm26 an26 cd26 ct26), sl26⟩)
   (c26 : W.codeIn K cd26 "measured" = true)
   (kp26 : W.keepIn K (.ref f26) = true)
   (a27 : W.nsIn K mainGlobals "tied" = some (some (.ref f27)))
   (l27 : K.lookup f27 = some ⟨oc27, od27, .func (W.fnOf "tied" "tied" (aO pM) (aK pM) (aF pM) .none kV27 dc27 pm27 an27 cd27 ct27), sl27⟩)
   (c27 : W.codeIn K cd27 "tied" = true)
   (kp27 : W.keepIn K (.ref f27) = true)
   (a28 : W.nsIn K mainGlobals "check_jug_goals" = some (some (.ref f28)))
   (l28 : K.lookup f28 = some ⟨oc28, od28, .func (W.fnOf "check_jug" "check_jug" (aO eF) (aK eF) (aF eF) .none kV28 dc28 pm28 an28 cd28 ct28), sl28⟩)
   (c28 : W.codeIn K cd28 "check_jug" = true)
   (kp28 : W.keepIn K (.ref f28) = true)
   (a29 : W.nsIn K mainGlobals "check_house_has_goals" = some (some (.ref f29)))
   (l29 : K.lookup f29 = some ⟨oc29, od29, .func (W.fnOf "check_house_has" "check_house_has" (aO cG) (aK cG) (aF cG) .none kV29 dc29 pm29 an29 cd29 ct29), sl29⟩)
   (c29 : W.codeIn K cd29 "check_house_has" = true)
   (kp29 : W.keepIn K (.ref f29) = true)
   (a30 : W.nsIn K mainGlobals "check_amount" = some (some (.ref f30)))
   (l30 : K.lookup f30 = some ⟨oc30, od30, .func (W.fnOf "check_amount" "check_amount" (aO dF) (aK dF) (aF dF) .none kV30 dc30 pm30 an30 cd30 ct30), sl30⟩)
   (c30 : W.codeIn K cd30 "check_amount" = true)
   (kp30 : W.keepIn K (.ref f30) = true)
   (a31 : W.nsIn K mainGlobals "jugs_in" = some (some (.ref f31)))
   (l31 : K.lookup f31 = some ⟨oc31, od31, .func (W.fnOf "jugs_in" "jugs_in" (aO iN) (aK iN) (aF iN) .none kV31 dc31 pm31 an31 cd31 ct31), sl31⟩)
   (c31 : W.codeIn K cd31 "jugs_in" = true)
   (kp31 : W.keepIn K (.ref f31) = true)
   (a32 : W.nsIn K mainGlobals "amounts_in" = some (some (.ref f32)))
   (l32 : K.lookup f32 = some ⟨oc32, od32, .func (W.fnOf "amounts_in" "amounts_in" (aO eI) (aK eI) (aF eI) .none kV32 dc32 pm32 an32 cd32 ct32), sl32⟩)
   (c32 : W.codeIn K cd32 "amounts_in" = true)
   (kp32 : W.keepIn K (.ref f32) = true)
   (a33 : W.nsIn K mainGlobals "check_state_of" = some (some (.ref f33)))
   (l33 : K.lookup f33 = some ⟨oc33, od33, .func (W.fnOf "check_state_of" "check_state_of" (aO cR) (aK cR) (aF cR) .none kV33 dc33 pm33 an33 cd33 ct33), sl33⟩)
   (c33 : W.codeIn K cd33 "check_state_of" = true)
   (kp33 : W.keepIn K (.ref f33) = true)
   (a34_Holds : W.findIn K (.ref C_Holds) "__init__" = some (some (.ref f34)))
   (i34 : W.isFn K (.ref f34) = true)
   (l34 : K.lookup f34 = some ⟨oc34, od34, .func (W.fnOf "__init__" "Holds.__init__" (aO eO) (aK eO) (aF eO) .none kV34 dc34 pm34 an34 cd34 ct34), sl34⟩)
   (c34 : W.codeIn K cd34 "Holds.__init__" = true)
   (kp34 : W.keepIn K (.ref f34) = true)
   (a35_Some : W.findIn K (.ref C_Some) "__init__" = some (some (.ref f35)))
   (i35 : W.isFn K (.ref f35) = true)
   (l35 : K.lookup f35 = some ⟨oc35, od35, .func (W.fnOf "__init__" "Some.__init__" (aO fE) (aK fE) (aF fE) .none kV35 dc35 pm35 an35 cd35 ct35), sl35⟩)
   (c35 : W.codeIn K cd35 "Some.__init__" = true)
   (kp35 : W.keepIn K (.ref f35) = true)
   (a36_Sum : W.findIn K (.ref C_Sum) "__init__" = some (some (.ref f36)))
   (i36 : W.isFn K (.ref f36) = true)
   (l36 : K.lookup f36 = some ⟨oc36, od36, .func (W.fnOf "__init__" "Sum.__init__" (aO gX) (aK gX) (aF gX) .none kV36 dc36 pm36 an36 cd36 ct36), sl36⟩)
   (c36 : W.codeIn K cd36 "Sum.__init__" = true)
   (kp36 : W.keepIn K (.ref f36) = true)
   (a37_Whole : W.findIn K (.ref C_Whole) "__init__" = some (some (.ref f37)))
   (i37 : W.isFn K (.ref f37) = true)
   (l37 : K.lookup f37 = some ⟨oc37, od37, .func (W.fnOf "__init__" "Whole.__init__" (aO eJ) (aK eJ) (aF eJ) .none kV37 dc37 pm37 an37 cd37 ct37), sl37⟩)
   (c37 : W.codeIn K cd37 "Whole.__init__" = true)
   (kp37 : W.keepIn K (.ref f37) = true)
   (a38_Holds : W.findIn K (.ref C_Holds) "met_by" = some (some (.ref f38)))
   (i38 : W.isFn K (.ref f38) = true)
   (l38 : K.lookup f38 = some ⟨oc38, od38, .func (W.fnOf "met_by" "Holds.met_by" (aO dH) (aK dH) (aF dH) .none kV38 dc38 pm38 an38 cd38 ct38), sl38⟩)
   (c38 : W.codeIn K cd38 "Holds.met_by" = true)
   (kp38 : W.keepIn K (.ref f38) = true)
   (a39_Some : W.findIn K (.ref C_Some) "met_by" = some (some (.ref f39)))
   (i39 : W.isFn K (.ref f39) = true)
   (l39 : K.lookup f39 = some ⟨oc39, od39, .func (W.fnOf "met_by" "Some.met_by" (aO eW) (aK eW) (aF eW) .none kV39 dc39 pm39 an39 cd39 ct39), sl39⟩)
   (c39 : W.codeIn K cd39 "Some.met_by" = true)
   (kp39 : W.keepIn K (.ref f39) = true)
   (a40_Sum : W.findIn K (.ref C_Sum) "met_by" = some (some (.ref f40)))
   (i40 : W.isFn K (.ref f40) = true)
   (l40 : K.lookup f40 = some ⟨oc40, od40, .func (W.fnOf "met_by" "Sum.met_by" (aO eK) (aK eK) (aF eK) .none kV40 dc40 pm40 an40 cd40 ct40), sl40⟩)
   (c40 : W.codeIn K cd40 "Sum.met_by" = true)
   (kp40 : W.keepIn K (.ref f40) = true)
   (a41_Whole : W.findIn K (.ref C_Whole) "met_by" = some (some (.ref f41)))
   (i41 : W.isFn K (.ref f41) = true)
   (l41 : K.lookup f41 = some ⟨oc41, od41, .func (W.fnOf "met_by" "Whole.met_by" (aO dG) (aK dG) (aF dG) .none kV41 dc41 pm41 an41 cd41 ct41), sl41⟩)
   (c41 : W.codeIn K cd41 "Whole.met_by" = true)
   (kp41 : W.keepIn K (.ref f41) = true)
   (a42_Holds : W.findIn K (.ref C_Holds) "come" = some (some (.ref f42)))
   (a42_Some : W.findIn K (.ref C_Some) "come" = some (some (.ref f42)))
   (a42_Sum : W.findIn K (.ref C_Sum) "come" = some (some (.ref f42)))
   (a42_Whole : W.findIn K (.ref C_Whole) "come" = some (some (.ref f42)))
   (i42 : W.isFn K (.ref f42) = true)
   (l42 : K.lookup f42 = some ⟨oc42, od42, .func (W.fnOf "come" "Goal.come" (aO fJ) (aK fJ) (aF fJ) .none kV42 dc42 pm42 an42 cd42 ct42), sl42⟩)
   (c42 : W.codeIn K cd42 "Goal.come" = true)
   (kp42 : W.keepIn K (.ref f42) = true)
   (a43 : W.nsIn K mainGlobals "check_goal" = some (some (.ref f43)))
   (l43 : K.lookup f43 = some ⟨oc43, od43, .func (W.fnOf "check_goal" "check_goal" (aO eG) (aK eG) (aF eG) .none kV43 dc43 pm43 an43 cd43 ct43), sl43⟩)
   (c43 : W.codeIn K cd43 "check_goal" = true)
   (kp43 : W.keepIn K (.ref f43) = true)
   (a44 : W.nsIn K mainGlobals "nearest" = some (some (.ref f44)))
   (l44 : K.lookup f44 = some ⟨oc44, od44, .func (W.fnOf "nearest" "nearest" (aO jM) (aK jM) (aF jM) .none kV44 dc44 pm44 an44 cd44 ct44), sl44⟩)
   (c44 : W.codeIn K cd44 "nearest" = true)
   (kp44 : W.keepIn K (.ref f44) = true)
   (a45 : W.nsIn K mainGlobals "fewest" = some (some (.ref f45)))
   (l45 : K.lookup f45 = some ⟨oc45, od45, .func (W.fnOf "fewest" "fewest" (aO kQ) (aK kQ) (aF kQ) .none kV45 dc45 pm45 an45 cd45 ct45), sl45⟩)
   (c45 : W.codeIn K cd45 "fewest" = true)
   (kp45 : W.keepIn K (.ref f45) = true)
   (a46 : W.nsIn K mainGlobals "routine_text" = some (some (.ref f46)))
   (l46 : K.lookup f46 = some ⟨oc46, od46, .func (W.fnOf "routine_text" "routine_text" (aO dU) (aK dU) (aF dU) .none kV46 dc46 pm46 an46 cd46 ct46), sl46⟩)
   (c46 : W.codeIn K cd46 "routine_text" = true)
   (kp46 : W.keepIn K (.ref f46) = true)
   (a47 : W.nsIn K mainGlobals "_law_cell_at" = some (some (.ref f47)))
   (l47 : K.lookup f47 = some ⟨oc47, od47, .func (W.fnOf "_law_cell_at" "_law_cell_at" (aO dX) (aK dX) (aF dX) .none kV47 dc47 pm47 an47 cd47 ct47), sl47⟩)
   (c47 : W.codeIn K cd47 "_law_cell_at" = true)
   (kp47 : W.keepIn K (.ref f47) = true)
   (a48 : W.nsIn K mainGlobals "_law_kinds" = some (some (.ref f48)))
   (l48 : K.lookup f48 = some ⟨oc48, od48, .func (W.fnOf "_law_kinds" "_law_kinds" (aO gA) (aK gA) (aF gA) .none kV48 dc48 pm48 an48 cd48 ct48), sl48⟩)
   (c48 : W.codeIn K cd48 "_law_kinds" = true)
   (kp48 : W.keepIn K (.ref f48) = true)
   (a49 : W.nsIn K mainGlobals "_law_told" = some (some (.ref f49)))
   (l49 : K.lookup f49 = some ⟨oc49, od49, .func (W.fnOf "_law_told" "_law_told" (aO hU) (aK hU) (aF hU) .none kV49 dc49 pm49 an49 cd49 ct49), sl49⟩)
   (c49 : W.codeIn K cd49 "_law_told" = true)
   (kp49 : W.keepIn K (.ref f49) = true)
   (a50 : W.nsIn K mainGlobals "_law_all" = some (some (.ref f50)))
   (l50 : K.lookup f50 = some ⟨oc50, od50, .func (W.fnOf "_law_all" "_law_all" (aO iQ) (aK iQ) (aF iQ) .none kV50 dc50 pm50 an50 cd50 ct50), sl50⟩)
   (c50 : W.codeIn K cd50 "_law_all" = true)
   (kp50 : W.keepIn K (.ref f50) = true)
   (a51 : W.nsIn K mainGlobals "_law_house" = some (some (.ref f51)))
   (l51 : K.lookup f51 = some ⟨oc51, od51, .func (W.fnOf "_law_house" "_law_house" (aO gB) (aK gB) (aF gB) .none kV51 dc51 pm51 an51 cd51 ct51), sl51⟩)
   (c51 : W.codeIn K cd51 "_law_house" = true)
   (kp51 : W.keepIn K (.ref f51) = true)
   (a52 : W.nsIn K mainGlobals "_law_with_state" = some (some (.ref f52)))
   (l52 : K.lookup f52 = some ⟨oc52, od52, .func (W.fnOf "_law_with_state" "_law_with_state" (aO cV) (aK cV) (aF cV) .none kV52 dc52 pm52 an52 cd52 ct52), sl52⟩)
   (c52 : W.codeIn K cd52 "_law_with_state" = true)
   (kp52 : W.keepIn K (.ref f52) = true)
   (a53 : W.nsIn K mainGlobals "_law_with_move" = some (some (.ref f53)))
   (l53 : K.lookup f53 = some ⟨oc53, od53, .func (W.fnOf "_law_with_move" "_law_with_move" (aO dD) (aK dD) (aF dD) .none kV53 dc53 pm53 an53 cd53 ct53), sl53⟩)
   (c53 : W.codeIn K cd53 "_law_with_move" = true)
   (kp53 : W.keepIn K (.ref f53) = true)
   (a54 : W.nsIn K mainGlobals "_law_unfit" = some (some (.ref f54)))
   (l54 : K.lookup f54 = some ⟨oc54, od54, .func (W.fnOf "_law_unfit" "_law_unfit" (aO fZ) (aK fZ) (aF fZ) .none kV54 dc54 pm54 an54 cd54 ct54), sl54⟩)
   (c54 : W.codeIn K cd54 "_law_unfit" = true)
   (kp54 : W.keepIn K (.ref f54) = true)
   (a55 : W.nsIn K mainGlobals "_law_with_goal" = some (some (.ref f55)))
   (l55 : K.lookup f55 = some ⟨oc55, od55, .func (W.fnOf "_law_with_goal" "_law_with_goal" (aO dE) (aK dE) (aF dE) .none kV55 dc55 pm55 an55 cd55 ct55), sl55⟩)
   (c55 : W.codeIn K cd55 "_law_with_goal" = true)
   (kp55 : W.keepIn K (.ref f55) = true)
   (a56 : W.nsIn K mainGlobals "_law_goal_unfit" = some (some (.ref f56)))
   (l56 : K.lookup f56 = some ⟨oc56, od56, .func (W.fnOf "_law_goal_unfit" "_law_goal_unfit" (aO cW) (aK cW) (aF cW) .none kV56 dc56 pm56 an56 cd56 ct56), sl56⟩)
   (c56 : W.codeIn K cd56 "_law_goal_unfit" = true)
   (kp56 : W.keepIn K (.ref f56) = true)
   (a57 : W.nsIn K mainGlobals "_law_good" = some (some (.ref f57)))
   (l57 : K.lookup f57 = some ⟨oc57, od57, .func (W.fnOf "_law_good" "_law_good" (aO hV) (aK hV) (aF hV) .none kV57 dc57 pm57 an57 cd57 ct57), sl57⟩)
   (c57 : W.codeIn K cd57 "_law_good" = true)
   (kp57 : W.keepIn K (.ref f57) = true)
   (a58 : W.nsIn K mainGlobals "_law_goals_right" = some (some (.ref f58)))
   (l58 : K.lookup f58 = some ⟨oc58, od58, .func (W.fnOf "_law_goals_right" "_law_goals_right" (aO cI) (aK cI) (aF cI) .none kV58 dc58 pm58 an58 (.ref 702) ct58), sl58⟩)
   (c58 : W.codeIn K (.ref 702) "_law_goals_right" = true)
   (kp58 : W.keepIn K (.ref f58) = true)
   (ch58 : W.codeHdIn K 702 698 = true)
   (a59 : W.nsIn K mainGlobals "law" = some (some (.ref f59)))
   (l59 : K.lookup f59 = some ⟨oc59, od59, .func (W.fnOf "law" "law" (aO nA) (aK nA) (aF nA) .none kV59 dc59 pm59 an59 (.ref 716) ct59), sl59⟩)
   (c59 : W.codeIn K (.ref 716) "law" = true)
   (kp59 : W.keepIn K (.ref f59) = true)
   (ch59 : W.codeHdIn K 716 712 = true)
   : ∃ fd : FuncData, (∀ (s : Shared) (v : Value), BindsTo s fd ⟨[v], []⟩ [("_law_script", v)]) ∧ ∀ base : Heap, K.In base → base.Ns mainGlobals mg → BMain mg base → FnOk l.prog w K mg base CX0 14 fa fd ["_law_script"] (aJ4 K) := by
 have e := hfa.symm.trans (W.mg_of X G a59)
 cases e
 have F0 := aZ (st := fC) l0 c0 kp0
 have b0 := bA (F0) (ps := ["value", "least", "most"])
 have F1 := aZ (st := jV) l1 c1 kp1
 have b1 := bA (F1) (ps := ["value"])
 have F2 := aZ (st := eX) l2 c2 kp2
 have b2 := bA (F2) (ps := ["self"])
 have F3 := aZ (st := iO) l3 c3 kp3
 have b3 := bA (F3) (ps := ["house", "state"])
 have F4 := aZ (st := eU) l4 c4 kp4
 have b4 := bA (F4) (ps := ["held", "jug", "many"])
 have F5 := aZ (st := fD) l5 c5 kp5
 have b5 := bA (F5) (ps := ["jug"])
 have F6 := aZ (st := cM) l6 c6 kp6
 have b6 := bA (F6) (ps := ["house", "jug"])
 have F7 := aZ (st := bW) l7 c7 kp7
 have b7 := bA (F7) (ps := ["house", "jug"])
 have F8 := aZ (st := fF) l8 c8 kp8
 have b8 := bA (F8) (ps := ["self", "one", "other"])
 have F9 := aZ (st := fK) l9 c9 kp9
 have b9 := bA (F9) (ps := ["self", "jug"])
 have F10 := aZ (st := eP) l10 c10 kp10
 have b10 := bA (F10) (ps := ["self", "jug"])
 have F11 := aZ (st := cJ) l11 c11 kp11
 have b11 := bA (F11) (ps := ["self", "house", "held"])
 have F12 := aZ (st := cK) l12 c12 kp12
 have b12 := bA (F12) (ps := ["self", "house", "held"])
 have F13 := aZ (st := bZ) l13 c13 kp13
 have b13 := bA (F13) (ps := ["self", "house", "held"])
 have F14 := aZ (st := fI) l14 c14 kp14
 have b14 := bA (F14) (ps := ["self", "house", "state"])
 have F15 := aZ (st := gR) l15 c15 kp15
 have b15 := bA (F15) (ps := ["moves"])
 have F16 := aZ (st := iP) l16 c16 kp16
 have b16 := bA (F16) (ps := ["moves", "house", "state"])
 have F17 := aZ (st := dW) l17 c17 kp17
 have b17 := bA (F17) (ps := ["sizes"])
 have F18 := aZ (st := gQ) l18 c18 kp18
 have b18 := bA (F18) (ps := ["sizes"])
 have F19 := aZ (st := eN) l19 c19 kp19
 have b19 := bA (F19) (ps := ["self", "sizes", "tap"])
 have F20 := aZ (st := eV) l20 c20 kp20
 have b20 := bA (F20) (ps := ["many"])
 have F21 := aZ (st := dJ) l21 c21 kp21
 have b21 := bA (F21) (ps := ["states", "size"])
 have F22 := aZ (st := dY) l22 c22 kp22
 have b22 := bA (F22) (ps := ["self"])
 have F23 := aZ (st := eY) l23 c23 kp23
 have b23 := bA (F23) (ps := ["self"])
 have F24 := aZ (st := fB) l24 c24 kp24
 have b24 := bA (F24) (ps := ["house", "state"])
 have F25 := aZ (st := iL) l25 c25 kp25
 have b25 := bA (F25) (ps := ["house", "state"])
 have F26 := aZ (st := iM) l26 c26 kp26
 have b26 := bA (F26) (ps := ["house", "state"])
 have F27 := aZ (st := pM) l27 c27 kp27
 have b27 := bA (F27) (ps := ["house", "one", "other"])
 have F28 := aZ (st := eF) l28 c28 kp28
 have b28 := bA (F28) (ps := ["jug"])
 have F29 := aZ (st := cG) l29 c29 kp29
 have b29 := bA (F29) (ps := ["house", "jug"])
 have F30 := aZ (st := dF) l30 c30 kp30
 have b30 := bA (F30) (ps := ["many"])
 have F31 := aZ (st := iN) l31 c31 kp31
 have b31 := bA (F31) (ps := ["jugs"])
 have F32 := aZ (st := eI) l32 c32 kp32
 have b32 := bA (F32) (ps := ["state"])
 have F33 := aZ (st := cR) l33 c33 kp33
 have b33 := bA (F33) (ps := ["house", "state"])
 have F34 := aZ (st := eO) l34 c34 kp34
 have b34 := bA (F34) (ps := ["self", "jug", "many"])
 have F35 := aZ (st := fE) l35 c35 kp35
 have b35 := bA (F35) (ps := ["self", "many"])
 have F36 := aZ (st := gX) l36 c36 kp36
 have b36 := bA (F36) (ps := ["self", "jugs", "many"])
 have F37 := aZ (st := eJ) l37 c37 kp37
 have b37 := bA (F37) (ps := ["self", "state"])
 have F38 := aZ (st := dH) l38 c38 kp38
 have b38 := bA (F38) (ps := ["self", "house", "held"])
 have F39 := aZ (st := eW) l39 c39 kp39
 have b39 := bA (F39) (ps := ["self", "house", "held"])
 have F40 := aZ (st := eK) l40 c40 kp40
 have b40 := bA (F40) (ps := ["self", "house", "held"])
 have F41 := aZ (st := dG) l41 c41 kp41
 have b41 := bA (F41) (ps := ["self", "house", "held"])
 have F42 := aZ (st := fJ) l42 c42 kp42
 have b42 := bA (F42) (ps := ["self", "house", "state"])
 have F43 := aZ (st := eG) l43 c43 kp43
 have b43 := bA (F43) (ps := ["goal"])
 have F44 := aZ (st := jM) l44 c44 kp44
 have b44 := bA (F44) (ps := ["house", "ways", "goal"])
 have F45 := aZ (st := kQ) l45 c45 kp45
 have b45 := bA (F45) (ps := ["house", "state", "goal"])
 have F46 := aZ (st := dU) l46 c46 kp46
 have b46 := bA (F46) (ps := ["moves"])
 have F47 := aZ (st := dX) l47 c47 kp47
 have b47 := bA (F47) (ps := ["_law_script", "_law_k"])
 have F48 := aZ (st := gA) l48 c48 kp48
 have b48 := bA (F48) (ps := ["_law_error"])
 have F49 := aZ (st := hU) l49 c49 kp49
 have b49 := bA (F49) (ps := ["_law_ask", "_law_one", "_law_other"])
 have F50 := aZ (st := iQ) l50 c50 kp50
 have b50 := bA (F50) (ps := ["_law_ask", "_law_doors", "_law_things", "_law_due"])
 have F51 := aZ (st := gB) l51 c51 kp51
 have b51 := bA (F51) (ps := ["_law_door", "_law_bad"])
 have F52 := aZ (st := cV) l52 c52 kp52
 have b52 := bA (F52) (ps := ["_law_door", "_law_bad"])
 have F53 := aZ (st := dD) l53 c53 kp53
 have b53 := bA (F53) (ps := ["_law_door", "_law_bad"])
 have F54 := aZ (st := fZ) l54 c54 kp54
 have b54 := bA (F54) (ps := ["_law_door", "_law_way"])
 have F55 := aZ (st := dE) l55 c55 kp55
 have b55 := bA (F55) (ps := ["_law_door", "_law_bad"])
 have F56 := aZ (st := cW) l56 c56 kp56
 have b56 := bA (F56) (ps := ["_law_door", "_law_way"])
 have F57 := aZ (st := hV) l57 c57 kp57
 have b57 := F57.binds (ps := []) fun _ _ _ _ _ _ us hl => by obtain rfl := List.length_eq_zero_iff.mp hl; rfl
 have F58 := aZ (st := cI) l58 c58 kp58
 have FC58 : FunC K "_law_goals_right" "_law_goals_right" cI _ _ 702 := ⟨⟨_, _, _, _, _, _, _, _, rfl, l58, c58⟩, kp58⟩
 have b58 := bA (F58) (ps := ["_law_far", "_law_due"])
 have F59 := aZ (st := nA) l59 c59 kp59
 have FC59 : FunC K "law" "law" nA _ _ 716 := ⟨⟨_, _, _, _, _, _, _, _, rfl, l59, c59⟩, kp59⟩
 have b59 := bA (F59) (ps := ["_law_script"])
 have g := fun {x : Str} {v : Value} (q : W.nsIn K mainGlobals x = some (some v)) => W.mg_of X G q
 have g0 := fun {x : Str} (q : W.nsIn K mainGlobals x = some none) => W.mg_none_of X G q
 have B : Bt mg := ⟨g0 z_isinstance, g0 z_int, g0 z_bool, g0 z_tuple, g0 z_list, g0 z_len, g0 z_zip, g0 z_range, g0 z_min, g0 z_str, ⟨_, g z_MOST_JUGS⟩, ⟨_, g z_MOST_SIZE⟩⟩
 have cl_Pour : Cls K C_Pour := ⟨pg_Pour, hd_Pour, po_Pour, sa_Pour⟩
 have cl_Fill : Cls K C_Fill := ⟨pg_Fill, hd_Fill, po_Fill, sa_Fill⟩
 have cl_Empty : Cls K C_Empty := ⟨pg_Empty, hd_Empty, po_Empty, sa_Empty⟩
 have cl_House : Cls K C_House := ⟨pg_House, hd_House, po_House, sa_House⟩
 have cl_Holds : Cls K C_Holds := ⟨pg_Holds, hd_Holds, po_Holds, sa_Holds⟩
 have cl_Some : Cls K C_Some := ⟨pg_Some, hd_Some, po_Some, sa_Some⟩
 have cl_Sum : Cls K C_Sum := ⟨pg_Sum, hd_Sum, po_Sum, sa_Sum⟩
 have cl_Whole : Cls K C_Whole := ⟨pg_Whole, hd_Whole, po_Whole, sa_Whole⟩
 have cl_Goal : Cls K C_Goal := ⟨pg_Goal, hd_Goal, po_Goal, sa_Goal⟩
 have CHo : CHs K C_House := ⟨cl_House, n_House_jug_sizes, n_House_tap⟩
 let Zz : Cz := ⟨C_Pour, C_Fill, C_Empty⟩
 have M : MvC K mg Zz := ⟨⟨cl_Pour, n_Pour_one, n_Pour_other⟩, ⟨cl_Fill, n_Fill_jug⟩, ⟨cl_Empty, n_Empty_jug⟩, ⟨ha_Pour, hn, htk, hm_Pour⟩, ⟨ha_Fill, hn, htk, hm_Fill⟩, ⟨ha_Empty, hn, htk, hm_Empty⟩, g a_Pour, g a_Fill, g a_Empty, k_Fill_Pour, k_Empty_Pour, k_Empty_Fill⟩
 let Gg : Gz := ⟨C_Holds, C_Some, C_Sum, C_Whole⟩
 have GM : GoC K mg Gg C_Goal := ⟨⟨cl_Holds, n_Holds_jug, n_Holds_many⟩, ⟨cl_Some, n_Some_many⟩, ⟨cl_Sum, n_Sum_jugs, n_Sum_many⟩, ⟨cl_Whole, n_Whole_state⟩, ⟨ha_Holds, hn, htk, hm_Holds⟩, ⟨ha_Some, hn, htk, hm_Some⟩, ⟨ha_Sum, hn, htk, hm_Sum⟩, ⟨ha_Whole, hn, htk, hm_Whole⟩, g a_Goal, g a_Holds, g a_Some, g a_Sum, g a_Whole, k_Holds_Some, k_Holds_Sum, k_Holds_Whole, k_Some_Holds, k_Some_Sum, k_Some_Whole, k_Sum_Holds, k_Sum_Some, k_Sum_Whole, k_Whole_Holds, k_Whole_Some, k_Whole_Sum, k_Holds_Goal, k_Some_Goal, k_Sum_Goal, k_Whole_Goal⟩
 have NM : NoMv K Zz := ⟨nm0, nm1, nm2, nm3, nm4, nm5⟩
 have NG : NoGo K Gg := ⟨ng0, ng1, ng2, ng3, ng4, ng5⟩
 let zz : Ez := ⟨C_BadHouse, C_BadState, C_BadMove, C_BadGoal, C_BadText, C_JugError⟩
 have E : EzC K mg zz := ⟨⟨g a_BadHouse, ex_BadHouse⟩, ⟨g a_BadState, ex_BadState⟩, ⟨g a_BadMove, ex_BadMove⟩, ⟨g a_BadGoal, ex_BadGoal⟩, ⟨g a_JugError, ex_JugError⟩, g a_BadText, g0 z_ValueError, (fun n hn => match n, hn with | 0, _ => ex_BadHouse | 1, _ => ex_BadState | 2, _ => ex_BadMove | 3, _ => ex_BadGoal), (fun n hn => match n, hn with | 0, _ => ⟨ga_BadHouse, gt_BadHouse, gc_BadHouse, mb_BadHouse, mo_BadHouse, is_BadHouse⟩ | 1, _ => ⟨ga_BadState, gt_BadState, gc_BadState, mb_BadState, mo_BadState, is_BadState⟩ | 2, _ => ⟨ga_BadMove, gt_BadMove, gc_BadMove, mb_BadMove, mo_BadMove, is_BadMove⟩ | 3, _ => ⟨ga_BadGoal, gt_BadGoal, gc_BadGoal, mb_BadGoal, mo_BadGoal, is_BadGoal⟩), (fun n hn => match n, hn with | 0, _ => sj_BadHouse | 1, _ => sj_BadState | 2, _ => sj_BadMove | 3, _ => sj_BadGoal), (fun n hn => match n, hn with | 0, _ => fR _ | 1, _ => k_BadState_BadHouse | 2, _ => k_BadMove_BadHouse | 3, _ => k_BadGoal_BadHouse), (fun n hn => match n, hn with | 0, _ => k_BadHouse_BadState | 1, _ => fR _ | 2, _ => k_BadMove_BadState | 3, _ => k_BadGoal_BadState), (fun n hn => match n, hn with | 0, _ => k_BadHouse_BadMove | 1, _ => k_BadState_BadMove | 2, _ => fR _ | 3, _ => k_BadGoal_BadMove), (fun n hn => match n, hn with | 0, _ => k_BadHouse_BadGoal | 1, _ => k_BadState_BadGoal | 2, _ => k_BadMove_BadGoal | 3, _ => fR _), (fun n hn => match n, hn with | 0, _ => k_BadHouse_BadText | 1, _ => k_BadState_BadText | 2, _ => k_BadMove_BadText | 3, _ => k_BadGoal_BadText), (fun n hn => match n, hn with | 0, _ => kv_BadHouse | 1, _ => kv_BadState | 2, _ => kv_BadMove | 3, _ => kv_BadGoal)⟩
 refine ⟨W.fnOf "law" "law" (aO nA) (aK nA) (aF nA) .none kV59 dc59 pm59 an59 (.ref 716) ct59, fun s v => .of_eq rfl, fun base KB _ bm => ?_⟩
 have o0 := wE (P := l.prog) (w := w) (base := base) F0 B
 have q0 : FnB l.prog w K mg base 1 "is_number" ["value", "least", "most"] _ := ⟨_, _, o0, g a0, kp0, b0⟩
 have oG0 := zR (P := l.prog) (w := w) (base := base) F0 B
 have n0 : FnB l.prog w K mg base 1 "is_number" ["value", "least", "most"] _ := ⟨_, _, oG0, g a0, kp0, b0⟩
 have o1 := aG1 F1 B q0
 have q1 : FnB l.prog w K mg base 2 "is_jug" ["value"] _ := ⟨_, _, o1, g a1, kp1, b1⟩
 have oG1 := zS F1 B n0
 have n1 : FnB l.prog w K mg base 2 "is_jug" ["value"] _ := ⟨_, _, oG1, g a1, kp1, b1⟩
 have o2 := aM2 (P := l.prog) (w := w) (base := base) F2 B CHo
 have q2 : MeB l.prog w K mg base 1 C_House "sizes" ["self"] _ := ⟨_, _, o2, ⟨a2_House, i2, kp2⟩, b2, cl_House⟩
 have o3 := zT F3 B q0 q2
 have q3 : FnB l.prog w K mg base 2 "held_in" ["house", "state"] _ := ⟨_, _, o3, g a3, kp3, b3⟩
 have y3 := yD F3 B E.xS n0 q2
 have x3 : FnX l.prog w K mg base 2 "held_in" ["house", "state"] _ := ⟨_, _, y3, g a3, kp3, b3⟩
 have o4 := rX (P := l.prog) (w := w) (base := base) F4 B
 have q4 : FnB l.prog w K mg base 1 "with_amount" ["held", "jug", "many"] _ := ⟨_, _, o4, g a4, kp4, b4⟩
 have o5 := wG F5 q1
 have q5 : FnB l.prog w K mg base 3 "check_jug_moves" ["jug"] _ := ⟨_, _, o5, g a5, kp5, b5⟩
 have y5 := tT F5 E.xM n1
 have x5 : FnX l.prog w K mg base 3 "check_jug_moves" ["jug"] _ := ⟨_, _, y5, g a5, kp5, b5⟩
 have o6 := nU F6 B q2
 have q6 : FnB l.prog w K mg base 2 "check_house_has_moves" ["house", "jug"] _ := ⟨_, _, o6, g a6, kp6, b6⟩
 have y6 := mL F6 B E.xM q2
 have x6 : FnX l.prog w K mg base 2 "check_house_has_moves" ["house", "jug"] _ := ⟨_, _, y6, g a6, kp6, b6⟩
 have o7 := lD F7 CHo q6
 have q7 : FnB l.prog w K mg base 3 "check_house_can_tap" ["house", "jug"] _ := ⟨_, _, o7, g a7, kp7, b7⟩
 have y7 := yE F7 CHo E.xM q6 x6
 have x7 : FnX l.prog w K mg base 3 "check_house_can_tap" ["house", "jug"] _ := ⟨_, _, y7, g a7, kp7, b7⟩
 have o8 := wK (Z := Zz) F8 M.po q5
 have q8 : MkB l.prog w K mg base 4 "Pour" C_Pour ["self", "one", "other"] _ := ⟨_, _, o8, g a_Pour, ⟨mk_Pour, a8_Pour, i8, kc_Pour⟩, b8⟩
 have y8 := uB F8 E.xM q5 x5
 have x8 : MkX l.prog w K mg base 4 "Pour" C_Pour ["self", "one", "other"] _ := ⟨_, _, y8, g a_Pour, ⟨mk_Pour, a8_Pour, i8, kc_Pour⟩, b8⟩
 have o9 := wM (Z := Zz) F9 M.fi q5
 have q9 : MkB l.prog w K mg base 4 "Fill" C_Fill ["self", "jug"] _ := ⟨_, _, o9, g a_Fill, ⟨mk_Fill, a9_Fill, i9, kc_Fill⟩, b9⟩
 have y9 := uF F9 x5
 have x9 : MkX l.prog w K mg base 4 "Fill" C_Fill ["self", "jug"] _ := ⟨_, _, y9, g a_Fill, ⟨mk_Fill, a9_Fill, i9, kc_Fill⟩, b9⟩
 have o10 := uG (Z := Zz) F10 M.em q5
 have q10 : MkB l.prog w K mg base 4 "Empty" C_Empty ["self", "jug"] _ := ⟨_, _, o10, g a_Empty, ⟨mk_Empty, a10_Empty, i10, kc_Empty⟩, b10⟩
 have y10 := sI F10 x5
 have x10 : MkX l.prog w K mg base 4 "Empty" C_Empty ["self", "jug"] _ := ⟨_, _, y10, g a_Empty, ⟨mk_Empty, a10_Empty, i10, kc_Empty⟩, b10⟩
 have o11 := (zX (Z := Zz) F11 B M.po q6 q2 q4).mono (k := 4) (by decide)
 have q11 : MeB l.prog w K mg base 4 C_Pour "held_behind" ["self", "house", "held"] _ := ⟨_, _, o11, ⟨a11_Pour, i11, kp11⟩, b11, cl_Pour⟩
 have y11 := (yI (Z := Zz) F11 M.po q6 x6).mono (k := 4) (by decide)
 have x11 : MeX l.prog w K mg base 4 C_Pour "held_behind" ["self", "house", "held"] _ := ⟨_, _, y11, ⟨a11_Pour, i11, kp11⟩, b11, cl_Pour⟩
 have o12 := zY (Z := Zz) F12 B M.fi q7 q2 q4
 have q12 : MeB l.prog w K mg base 4 C_Fill "held_behind" ["self", "house", "held"] _ := ⟨_, _, o12, ⟨a12_Fill, i12, kp12⟩, b12, cl_Fill⟩
 have y12 := yJ (Z := Zz) F12 M.fi x7
 have x12 : MeX l.prog w K mg base 4 C_Fill "held_behind" ["self", "house", "held"] _ := ⟨_, _, y12, ⟨a12_Fill, i12, kp12⟩, b12, cl_Fill⟩
 have o13 := yK (Z := Zz) F13 B M.em q7 q4
 have q13 : MeB l.prog w K mg base 4 C_Empty "held_behind" ["self", "house", "held"] _ := ⟨_, _, o13, ⟨a13_Empty, i13, kp13⟩, b13, cl_Empty⟩
 have y13 := wN (Z := Zz) F13 M.em x7
 have x13 : MeX l.prog w K mg base 4 C_Empty "held_behind" ["self", "house", "held"] _ := ⟨_, _, y13, ⟨a13_Empty, i13, kp13⟩, b13, cl_Empty⟩
 have o14 := aT1 (Z := Zz) F14 B q3 q11 q12 q13
 have q14_Pour : MeB l.prog w K mg base 5 C_Pour "done" ["self", "house", "state"] _ := ⟨_, _, o14, ⟨a14_Pour, i14, kp14⟩, b14, cl_Pour⟩
 have q14_Fill : MeB l.prog w K mg base 5 C_Fill "done" ["self", "house", "state"] _ := ⟨_, _, o14, ⟨a14_Fill, i14, kp14⟩, b14, cl_Fill⟩
 have q14_Empty : MeB l.prog w K mg base 5 C_Empty "done" ["self", "house", "state"] _ := ⟨_, _, o14, ⟨a14_Empty, i14, kp14⟩, b14, cl_Empty⟩
 have y14 := aM8 (Z := Zz) F14 B q3 x3 x11 x12 x13
 have x14_Pour : MeX l.prog w K mg base 5 C_Pour "done" ["self", "house", "state"] _ := ⟨_, _, y14, ⟨a14_Pour, i14, kp14⟩, b14, cl_Pour⟩
 have x14_Fill : MeX l.prog w K mg base 5 C_Fill "done" ["self", "house", "state"] _ := ⟨_, _, y14, ⟨a14_Fill, i14, kp14⟩, b14, cl_Fill⟩
 have x14_Empty : MeX l.prog w K mg base 5 C_Empty "done" ["self", "house", "state"] _ := ⟨_, _, y14, ⟨a14_Empty, i14, kp14⟩, b14, cl_Empty⟩
 have d14_Pour : MeX l.prog w K mg base 5 C_Pour "done" ["self", "house", "state"] _ := ⟨_, _, (Jug.FnOk.or (FnOk.up o14) y14), ⟨a14_Pour, i14, kp14⟩, b14, cl_Pour⟩
 have d14_Fill : MeX l.prog w K mg base 5 C_Fill "done" ["self", "house", "state"] _ := ⟨_, _, (Jug.FnOk.or (FnOk.up o14) y14), ⟨a14_Fill, i14, kp14⟩, b14, cl_Fill⟩
 have d14_Empty : MeX l.prog w K mg base 5 C_Empty "done" ["self", "house", "state"] _ := ⟨_, _, (Jug.FnOk.or (FnOk.up o14) y14), ⟨a14_Empty, i14, kp14⟩, b14, cl_Empty⟩
 have o15 := yB (P := l.prog) (w := w) (base := base) (Z := Zz) F15 B M
 have q15 : FnB l.prog w K mg base 1 "moves_in" ["moves"] _ := ⟨_, _, o15, g a15, kp15, b15⟩
 have y15 := wC (P := l.prog) (w := w) (base := base) (Z := Zz) F15 B M NM E.xM
 have x15 : FnX l.prog w K mg base 1 "moves_in" ["moves"] _ := ⟨_, _, y15, g a15, kp15, b15⟩
 have y16 := wF (Z := Zz) F16 B q15 x15 q3 x3 (bA5 d14_Pour d14_Fill d14_Empty)
 have x16 : FnX l.prog w K mg base 6 "done_all" ["moves", "house", "state"] _ := ⟨_, _, y16, g a16, kp16, b16⟩
 have o17 := qJ (P := l.prog) (w := w) (mg := mg) (base := base) F17
 have q17 : FnB l.prog w K mg base 1 "count_states" ["sizes"] _ := ⟨_, _, o17, g a17, kp17, b17⟩
 have o18 := xY F18 B ⟨_, g z_MOST_STATES⟩ q0 q17
 have q18 : FnB l.prog w K mg base 2 "sizes_in" ["sizes"] _ := ⟨_, _, o18, g a18, kp18, b18⟩
 have y18 := wB F18 B ⟨_, g z_MOST_STATES⟩ E.xB n0 q17
 have x18 : FnX l.prog w K mg base 2 "sizes_in" ["sizes"] _ := ⟨_, _, y18, g a18, kp18, b18⟩
 have o19 := uC F19 B CHo q18
 have q19 : MkB l.prog w K mg base 3 "House" C_House ["self", "sizes", "tap"] _ := ⟨_, _, o19, g a_House, ⟨mk_House, a19_House, i19, kc_House⟩, b19⟩
 have y19 := sG F19 B CHo E.xB q18 x18
 have x19 : MkX l.prog w K mg base 3 "House" C_House ["self", "sizes", "tap"] _ := ⟨_, _, y19, g a_House, ⟨mk_House, a19_House, i19, kc_House⟩, b19⟩
 have o20 := rY (Z := Zz) F20 B q8
 have q20 : FnB l.prog w K mg base 6 "pours_among" ["many"] _ := ⟨_, _, o20, g a20, kp20, b20⟩
 have o21 := pR (P := l.prog) (w := w) (base := base) F21 B
 have q21 : FnB l.prog w K mg base 1 "with_one_more" ["states", "size"] _ := ⟨_, _, o21, g a21, kp21, b21⟩
 have o22 := aF7 F22 CHo q21
 have q22 : MeB l.prog w K mg base 2 C_House "states" ["self"] _ := ⟨_, _, o22, ⟨a22_House, i22, kp22⟩, b22, cl_House⟩
 have o23 := aM3 (Z := Zz) F23 B CHo q20 q9 q10
 have q23 : MeB l.prog w K mg base 7 C_House "moves" ["self"] _ := ⟨_, _, o23, ⟨a23_House, i23, kp23⟩, b23, cl_House⟩
 have o24 := aS8 (Z := Zz) F24 B q3 q23 (bG2 q14_Pour q14_Fill q14_Empty)
 have q24 : FnB l.prog w K mg base 8 "ways_from" ["house", "state"] _ := ⟨_, _, o24, g a24, kp24, b24⟩
 have y24 := aM0 F24 B x3
 have x24 : FnX l.prog w K mg base 8 "ways_from" ["house", "state"] _ := ⟨_, _, y24, g a24, kp24, b24⟩
 have o25 := zO (Z := Zz) F25 (g0 z_sorted) q24
 have q25 : FnB l.prog w K mg base 9 "reached" ["house", "state"] _ := ⟨_, _, o25, g a25, kp25, b25⟩
 have y25 := xZ F25 (g0 z_sorted) x24
 have x25 : FnX l.prog w K mg base 9 "reached" ["house", "state"] _ := ⟨_, _, y25, g a25, kp25, b25⟩
 have y26 := wD F26 x24
 have x26 : FnX l.prog w K mg base 9 "measured" ["house", "state"] _ := ⟨_, _, y26, g a26, kp26, b26⟩
 have y27 := aM1 F27 B q3 x3
 have x27 : FnX l.prog w K mg base 9 "tied" ["house", "one", "other"] _ := ⟨_, _, y27, g a27, kp27, b27⟩
 have o28 := rZ F28 q1
 have q28 : FnB l.prog w K mg base 3 "check_jug_goals" ["jug"] _ := ⟨_, _, o28, g a28, kp28, b28⟩
 have y28 := qK F28 E.xG n1
 have x28 : FnX l.prog w K mg base 3 "check_jug_goals" ["jug"] _ := ⟨_, _, y28, g a28, kp28, b28⟩
 have d28 : FnX l.prog w K mg base 3 "check_jug_goals" ["jug"] _ := ⟨_, _, (Jug.FnOk.or (FnOk.up o28) y28), g a28, kp28, b28⟩
 have o29 := mD F29 B q2
 have q29 : FnB l.prog w K mg base 2 "check_house_has_goals" ["house", "jug"] _ := ⟨_, _, o29, g a29, kp29, b29⟩
 have y29 := lR F29 B E.xG q2
 have x29 : FnX l.prog w K mg base 2 "check_house_has_goals" ["house", "jug"] _ := ⟨_, _, y29, g a29, kp29, b29⟩
 have d29 : FnX l.prog w K mg base 2 "check_house_has_goals" ["house", "jug"] _ := ⟨_, _, (Jug.FnOk.or (FnOk.up o29) y29), g a29, kp29, b29⟩
 have o30 := qL F30 ⟨_, g z_MOST_AMOUNT⟩ q0
 have q30 : FnB l.prog w K mg base 2 "check_amount" ["many"] _ := ⟨_, _, o30, g a30, kp30, b30⟩
 have y30 := pT F30 ⟨_, g z_MOST_AMOUNT⟩ E.xG n0
 have x30 : FnX l.prog w K mg base 2 "check_amount" ["many"] _ := ⟨_, _, y30, g a30, kp30, b30⟩
 have o31 := zQ F31 B (g0 z_set) q28
 have q31 : FnB l.prog w K mg base 4 "jugs_in" ["jugs"] _ := ⟨_, _, o31, g a31, kp31, b31⟩
 have y31 := yC F31 B (g0 z_set) E.xG d28
 have x31 : FnX l.prog w K mg base 4 "jugs_in" ["jugs"] _ := ⟨_, _, y31, g a31, kp31, b31⟩
 have o32 := tX F32 B q0
 have q32 : FnB l.prog w K mg base 2 "amounts_in" ["state"] _ := ⟨_, _, o32, g a32, kp32, b32⟩
 have y32 := sD F32 B E.xG n0
 have x32 : FnX l.prog w K mg base 2 "amounts_in" ["state"] _ := ⟨_, _, y32, g a32, kp32, b32⟩
 have o33 := oQ F33 q3
 have q33 : FnB l.prog w K mg base 3 "check_state_of" ["house", "state"] _ := ⟨_, _, o33, g a33, kp33, b33⟩
 have y33 := nS F33 E.xS E.xG ss x3
 have x33 : FnX l.prog w K mg base 3 "check_state_of" ["house", "state"] _ := ⟨_, _, y33, g a33, kp33, b33⟩
 have o34 := uE (Z := Gg) F34 GM.ho q28 q30
 have q34 : MkB l.prog w K mg base 4 "Holds" C_Holds ["self", "jug", "many"] _ := ⟨_, _, o34, g a_Holds, ⟨mk_Holds, a34_Holds, i34, kc_Holds⟩, b34⟩
 have y34 := sH F34 q28 x28 x30
 have x34 : MkX l.prog w K mg base 4 "Holds" C_Holds ["self", "jug", "many"] _ := ⟨_, _, y34, g a_Holds, ⟨mk_Holds, a34_Holds, i34, kc_Holds⟩, b34⟩
 have o35 := wJ (Z := Gg) F35 GM.so q30
 have q35 : MkB l.prog w K mg base 3 "Some" C_Some ["self", "many"] _ := ⟨_, _, o35, g a_Some, ⟨mk_Some, a35_Some, i35, kc_Some⟩, b35⟩
 have y35 := uA F35 x30
 have x35 : MkX l.prog w K mg base 3 "Some" C_Some ["self", "many"] _ := ⟨_, _, y35, g a_Some, ⟨mk_Some, a35_Some, i35, kc_Some⟩, b35⟩
 have o36 := yG (Z := Gg) F36 B GM.su q31 q30
 have q36 : MkB l.prog w K mg base 5 "Sum" C_Sum ["self", "jugs", "many"] _ := ⟨_, _, o36, g a_Sum, ⟨mk_Sum, a36_Sum, i36, kc_Sum⟩, b36⟩
 have y36 := wI (G := Gg) F36 B GM.su q31 x31 x30
 have x36 : MkX l.prog w K mg base 5 "Sum" C_Sum ["self", "jugs", "many"] _ := ⟨_, _, y36, g a_Sum, ⟨mk_Sum, a36_Sum, i36, kc_Sum⟩, b36⟩
 have o37 := tZ (Z := Gg) F37 B GM.wh q32
 have q37 : MkB l.prog w K mg base 3 "Whole" C_Whole ["self", "state"] _ := ⟨_, _, o37, g a_Whole, ⟨mk_Whole, a37_Whole, i37, kc_Whole⟩, b37⟩
 have y37 := sE F37 B x32
 have x37 : MkX l.prog w K mg base 3 "Whole" C_Whole ["self", "state"] _ := ⟨_, _, y37, g a_Whole, ⟨mk_Whole, a37_Whole, i37, kc_Whole⟩, b37⟩
 have o38 := (wL (Z := Gg) F38 GM.ho q29).mono (k := 4) (by decide)
 have q38 : MeB l.prog w K mg base 4 C_Holds "met_by" ["self", "house", "held"] _ := ⟨_, _, o38, ⟨a38_Holds, i38, kp38⟩, b38, cl_Holds⟩
 have y38 := (uD (G := Gg) F38 GM.ho x29).mono (k := 4) (by decide)
 have x38 : MeX l.prog w K mg base 4 C_Holds "met_by" ["self", "house", "held"] _ := ⟨_, _, y38, ⟨a38_Holds, i38, kp38⟩, b38, cl_Holds⟩
 have o39 := (yH (P := l.prog) (w := w) (mg := mg) (base := base) (CH := C_House) (Z := Gg) F39 GM.so).mono (k := 4) (by decide)
 have q39 : MeB l.prog w K mg base 4 C_Some "met_by" ["self", "house", "held"] _ := ⟨_, _, o39, ⟨a39_Some, i39, kp39⟩, b39, cl_Some⟩
 have o40 := (zW (Z := Gg) F40 GM.su (g0 z_sum) q29).mono (k := 4) (by decide)
 have q40 : MeB l.prog w K mg base 4 C_Sum "met_by" ["self", "house", "held"] _ := ⟨_, _, o40, ⟨a40_Sum, i40, kp40⟩, b40, cl_Sum⟩
 have y40 := (yF (G := Gg) F40 GM.su d29).mono (k := 4) (by decide)
 have x40 : MeX l.prog w K mg base 4 C_Sum "met_by" ["self", "house", "held"] _ := ⟨_, _, y40, ⟨a40_Sum, i40, kp40⟩, b40, cl_Sum⟩
 have o41 := wH (Z := Gg) F41 B GM.wh q33
 have q41 : MeB l.prog w K mg base 4 C_Whole "met_by" ["self", "house", "held"] _ := ⟨_, _, o41, ⟨a41_Whole, i41, kp41⟩, b41, cl_Whole⟩
 have y41 := tY (G := Gg) F41 GM.wh x33
 have x41 : MeX l.prog w K mg base 4 C_Whole "met_by" ["self", "house", "held"] _ := ⟨_, _, y41, ⟨a41_Whole, i41, kp41⟩, b41, cl_Whole⟩
 have o42 := aT2 (Z := Gg) F42 q3 q38 q39 q40 q41
 have q42_Holds : MeB l.prog w K mg base 5 C_Holds "come" ["self", "house", "state"] _ := ⟨_, _, o42, ⟨a42_Holds, i42, kp42⟩, b42, cl_Holds⟩
 have q42_Some : MeB l.prog w K mg base 5 C_Some "come" ["self", "house", "state"] _ := ⟨_, _, o42, ⟨a42_Some, i42, kp42⟩, b42, cl_Some⟩
 have q42_Sum : MeB l.prog w K mg base 5 C_Sum "come" ["self", "house", "state"] _ := ⟨_, _, o42, ⟨a42_Sum, i42, kp42⟩, b42, cl_Sum⟩
 have q42_Whole : MeB l.prog w K mg base 5 C_Whole "come" ["self", "house", "state"] _ := ⟨_, _, o42, ⟨a42_Whole, i42, kp42⟩, b42, cl_Whole⟩
 have y42 := aM9 (G := Gg) F42 q3 x3 x38 x40 x41
 have x42_Holds : MeX l.prog w K mg base 5 C_Holds "come" ["self", "house", "state"] _ := ⟨_, _, y42, ⟨a42_Holds, i42, kp42⟩, b42, cl_Holds⟩
 have x42_Some : MeX l.prog w K mg base 5 C_Some "come" ["self", "house", "state"] _ := ⟨_, _, y42, ⟨a42_Some, i42, kp42⟩, b42, cl_Some⟩
 have x42_Sum : MeX l.prog w K mg base 5 C_Sum "come" ["self", "house", "state"] _ := ⟨_, _, y42, ⟨a42_Sum, i42, kp42⟩, b42, cl_Sum⟩
 have x42_Whole : MeX l.prog w K mg base 5 C_Whole "come" ["self", "house", "state"] _ := ⟨_, _, y42, ⟨a42_Whole, i42, kp42⟩, b42, cl_Whole⟩
 have o43 := tV (P := l.prog) (w := w) (base := base) (G := Gg) F43 B GM
 have q43 : FnB l.prog w K mg base 1 "check_goal" ["goal"] _ := ⟨_, _, o43, g a43, kp43, b43⟩
 have y43 := sC (P := l.prog) (w := w) (base := base) (G := Gg) F43 B GM NG E.xG
 have x43 : FnX l.prog w K mg base 1 "check_goal" ["goal"] _ := ⟨_, _, y43, g a43, kp43, b43⟩
 have y44 := yA (Z := Zz) (G := Gg) F44 (bA4 x42_Holds x42_Some x42_Sum x42_Whole)
 have x44 : FnX l.prog w K mg base 6 "nearest" ["house", "ways", "goal"] _ := ⟨_, _, y44, g a44, kp44, b44⟩
 have y45 := zU (Z := Zz) (G := Gg) F45 q3 x3 q43 x43 q24 x44
 have x45 : FnX l.prog w K mg base 9 "fewest" ["house", "state", "goal"] _ := ⟨_, _, y45, g a45, kp45, b45⟩
 have y46 := pS (Z := Zz) F46 x15
 have x46 : FnX l.prog w K mg base 2 "routine_text" ["moves"] _ := ⟨_, _, y46, g a46, kp46, b46⟩
 have o47 := zV (P := l.prog) (w := w) (base := base) F47 B
 have q47 : FnB l.prog w K mg base 1 "_law_cell_at" ["_law_script", "_law_k"] _ := ⟨_, _, o47, g a47, kp47, b47⟩
 have o48 := aM7 (P := l.prog) (w := w) (base := base) F48 B E
 have h48 : FnH l.prog w K mg base 1 "_law_kinds" ["_law_error"] _ := ⟨_, _, o48, g a48, kp48, b48⟩
 have o49 := aS9 (k := 9) F49 E h48
 have q49 : FnB l.prog w K mg base 11 "_law_told" ["_law_ask", "_law_one", "_law_other"] _ := ⟨_, _, o49, g a49, kp49, b49⟩
 have o50 := aY0 (k := 9) F50 q49
 have q50 : FnB l.prog w K mg base 12 "_law_all" ["_law_ask", "_law_doors", "_law_things", "_law_due"] _ := ⟨_, _, o50, g a50, kp50, b50⟩
 have y51 := aG0 F51 x19
 have x51 : FnX l.prog w K mg base 10 "_law_house" ["_law_door", "_law_bad"] _ := ⟨_, _, y51, g a51, kp51, b51⟩
 have y52 := aF9 (Z := Zz) (G := Gg) F52 q19 q8 q9 q34 (bA5 x14_Pour x14_Fill x14_Empty) x16 (bA4 x42_Holds x42_Some x42_Sum x42_Whole) x45 x25 x26 x27
 have x52 : FnX l.prog w K mg base 10 "_law_with_state" ["_law_door", "_law_bad"] _ := ⟨_, _, y52, g a52, kp52, b52⟩
 have y53 := aM4 (Z := Zz) F53 q19 q8 x8 x9 x10 x16 x46
 have x53 : FnX l.prog w K mg base 10 "_law_with_move" ["_law_door", "_law_bad"] _ := ⟨_, _, y53, g a53, kp53, b53⟩
 have y54 := aF8 (Z := Zz) F54 q19 q8 q9 q10 (bA5 x14_Pour x14_Fill x14_Empty) x16
 have x54 : FnX l.prog w K mg base 10 "_law_unfit" ["_law_door", "_law_way"] _ := ⟨_, _, y54, g a54, kp54, b54⟩
 have y55 := aM6 (G := Gg) F55 q19 x34 x35 x36 x37 x45
 have x55 : FnX l.prog w K mg base 10 "_law_with_goal" ["_law_door", "_law_bad"] _ := ⟨_, _, y55, g a55, kp55, b55⟩
 have y56 := zP (G := Gg) F56 q19 q34 q36 q37 (bA4 x42_Holds x42_Some x42_Sum x42_Whole) x45
 have x56 : FnX l.prog w K mg base 10 "_law_goal_unfit" ["_law_door", "_law_way"] _ := ⟨_, _, y56, g a56, kp56, b56⟩
 have o57 := aM5 (Z := Zz) (G := Gg) F57 B q19 q23 q22 q35 q34 q37 (bG1 q42_Holds q42_Some q42_Sum q42_Whole) q25
 have q57 : FnB l.prog w K mg base 10 "_law_good" [] _ := ⟨_, _, o57, g a57, kp57, b57⟩
 have o58 := aG2 (G := Gg) FC58 B (W.codeHd_of_K KB ch58) bm q50 q49 x55 x56 x36 x37
 have q58 : FnB l.prog w K mg base 13 "_law_goals_right" ["_law_far", "_law_due"] _ := ⟨_, _, o58, g a58, kp58, b58⟩
 exact aT0 (Z := Zz) (z := zz) FC59 B (by decide) (W.codeHd_of_K KB ch59) bm q47 q50 q49 x51 x52 x53 x54 x46 q9 q58 q57
theorem walk {l : W.OpenLaw} {q : Program} {loose : List Str} {XP : (Str → Option Value) → Heap → Prop} {YP : World → Heap → Prop} {d : DefRec} {K : Params → W.Frag} (hn : l.most = some 63) (hdf : d.params.defaults = [])
   (hY : ∀ (w : World) (h : Heap), YP w h → (K w.params).In h ∧ h.get? 712 = some (W.tabObj #[]) ∧ h.get? 698 = some (W.tabObj #[]) ∧ W.CodeHd h 716 712 ∧ W.CodeHd h 702 698 ∧ (K w.params).lookup 712 = none ∧ (K w.params).lookup 698 = none)
   (F : ∀ (w : World) (mg : Str → Option Value) (fa : Addr) (h : Heap), (K w.params).In h → h.Ns mainGlobals mg → mg d.name = some (.ref fa) →
     ∃ fd : FuncData, (∀ (s : Shared) (u : Value), BindsTo s fd ⟨[u], []⟩ [("_law_script", u)]) ∧ ∀ base : Heap, (K w.params).In base → base.Ns mainGlobals mg → BMain mg base → FnOk l.prog w (K w.params) mg base CX0 14 fa fd ["_law_script"] (aJ4 (K w.params))) :
   W.WalkO q loose XP YP l.row.toRowW d [] (fun f vs => PySem.call f vs) :=
 L2.aI5 (n := 63) (k := 14) (x := "_law_script") (CX := fun _ => CX0) (sp := fun w => aJ4 (K w.params)) (P1 := 712) (P2 := 698) hn (by decide) hdf ⟨rfl, by decide, by decide⟩ (by decide) hY F (fun _ _ a ns hl h1 h2 hS => ⟨a, ns, rfl, hS, h1, h2, fun _ => rfl⟩) fun _ _ _ _ _ z => z
end Jug
noncomputable section
namespace Hd
open PySem PySem.W PySem.Calls PyProof.Rows
set_option maxHeartbeats 0
abbrev pg : Program := PySem.Challenge.pw_jughouse_k08_refused
def st (i : Nat) : Stmt := pg.main.body.getD i (.Pass ⟨0, 0, 0, 0⟩)
def me (i j : Nat) : Stmt := L2.cA (st i) j
def de (P : Params) (k : Str) (t : Nat) (v : Value) : DictEntry := ⟨PyData.keyHash P k, .str k t, v⟩
def fu (s : Stmt) (n q : Str) (g : Addr) (cl : List (Str × Addr)) (a b c d : Value) (an : Option Addr) (e f : Value) (bu : Addr) : FuncData := ⟨n, q, L2.aO s, .stmts (L2.aK s), L2.aF s, g, cl, a, b, c, d, an, e, f, bu⟩
def cO (n : Str) (a : Nat) (m : Str) (b c : Nat) (L x y z u : Int) (v1 v2 v3 v4 v5 v6 v7 v8 : Value) (p l : Int) (q : Nat) : Obj := (.mk (.type "code") none (.fields #[(.str n a), (.str m b), (.str "/claim/cut.py" c), (.int L 0), (.int x 0), (.int y 0), (.int z 0), (.int u 0), v1, v2, v3, v4, v5, v6, v7, v8, (.int p 0), (.int l 0), (.str "/claim/cut.py" q)]) #[])
def c1 (n m : Str) (a : Nat) (L x u : Int) (a1 a2 a3 a4 a5 p : Nat) : Obj := cO n a m (a + 1) (a + 2) L x 0 0 u (.ref a1) (.bool true) (.int 181 0) (.ref a2) .none (.ref a3) (.ref a4) (.ref a5) (Int.ofNat p) L (p + 1)
def c2 (n : Str) (a : Nat) (L : Int) (a1 a2 p : Nat) : Obj := cO n a n (a + 1) (a + 2) L 0 0 0 0 (.ref a1) (.bool false) (.int 181 0) (.ref a2) .none .none .none .none (Int.ofNat p) L (p + 1)
def fo (s : Stmt) (n q m : Str) (t k : Nat) : Obj := .mk (.type "function") none (.func (fu s n q 3 [] .none .none .none (.str m t) none (.ref k) .none 0)) #[]
def f1 (s : Stmt) (n m : Str) (t k : Nat) : Obj := fo s n n m t k
def fp (s : Stmt) (n q : Str) : Obj := .mk .none none (.func (fu s n q 0 [] .none .none .none .none none .none .none 0)) #[]
def f2 (s : Stmt) (n : Str) : Obj := fp s n n
def tu (a : Array Value) : Obj := .mk (.type "tuple") none (.seq a 0) #[]
def tL : List (Str × Nat) → List Value
 | [] => []
 | (s, n) :: l => .str s n :: tL l
def tS (a : List (Str × Nat)) : Obj := tu ⟨tL a⟩
def di (a : Array DictEntry) (n : Nat) : Obj := .mk (.type "dict") none (.dict a n) #[]
def fr (a b c : Value) : Obj := .mk (.type "frame") none .plain #[some a, some (.ref 3), some b, none, some c, none, some (.ref 0)]
def ft (s : String) (a : Array Value) : Obj := .mk (.type s) none (.fields a) #[]
def fl (a : Array Value) : Obj := .mk .none none (.fields a) #[]
def ty (n : Str) (b m : List Value) (d : Nat) (q : Str) (k : List Value) (v x y z : Value) : Obj := .mk (.type "type") none (.cls (.mk n b m d q true [] k false none false)) #[some v, none, some x, some y, some z, some (.bool true)]
def r (n : Nat) : Value := .ref n
def i (n : Int) : Value := .int n 0
def z (s : Str) (n : Nat) : Value := .str s n
variable (P : Params)
def e (k : Str) (t n : Nat) : DictEntry := de P k t (.ref n)
def eM (t : Nat) (s : Str) (u : Nat) : DictEntry := de P "__module__" t (.str s u)
def eQ (t : Nat) (s : Str) (u : Nat) : DictEntry := de P "__qualname__" t (.str s u)
def eL (t : Nat) (s : Int) (u : Nat) : DictEntry := de P "__firstlineno__" t (.int s u)
def eS (t n : Nat) : DictEntry := de P "__static_attributes__" t (.ref n)
def b0 : Obj := boot_o_0 P
def b1 : Obj := boot_o_1 P
def b2 : Obj := boot_o_2 P
def b3 : Obj := boot_o_3 P
def b4 : Obj := boot_o_4 P
def b5 : Obj := boot_o_5 P
def b6 : Obj := boot_o_6 P
def b7 : Obj := boot_o_7 P
def b8 : Obj := boot_o_8 P
def b9 : Obj := boot_o_9 P
def b10 : Obj := boot_o_10 P
def o11 : Obj := c2 "<module>" 182 1 11 12 185
def o12 : Obj := fr (r 13) (r 3) (z "__main__" 164)
def o13 : Obj := di #[(de P "__name__" 165 (z "law_jughouse_k08_refused" 1039)), de P "__doc__" 166 .none, de P "__package__" 167 .none, (de P "__loader__" 168 (.builtin "__main__.__loader__#opaque")), de P "__spec__" 169 .none, e P "__annotations__" 170 6, e P "__builtins__" 171 4, (de P "__file__" 173 (z "/claim/cut.py" 172)), de P "__cached__" 174 .none, e P "JugError" 206 24, e P "BadHouse" 222 37, e P "BadState" 238 49, e P "BadMove" 254 61, e P "BadGoal" 270 73, e P "BadText" 286 85, (de P "MOST_JUGS" 290 (.int 4 289)), (de P "MOST_SIZE" 292 (.int 60 291)), e P "is_number" 301 94, e P "is_jug" 308 101, e P "held_in" 320 108, e P "check_jug" 329 263, e P "check_jug_moves" 330 115, e P "check_house_has" 338 291, e P "check_house_has_moves" 339 122, e P "check_house_can_tap" 347 129, e P "with_amount" 357 136, e P "Move" 396 160, e P "Pour" 435 188, e P "Fill" 469 214, e P "Empty" 503 240, e P "moves_in" 512 249, e P "done_all" 524 256, (de P "MOST_AMOUNT" 528 (.int 240 527)), e P "check_jug_goals" 536 263, e P "check_amount" 543 270, e P "jugs_in" 552 277, e P "amounts_in" 561 284, e P "check_house_has_goals" 570 291, e P "check_state_of" 578 298, e P "Goal" 617 322, e P "Holds" 653 350, e P "Some" 687 376, e P "Sum" 720 400, e P "Whole" 754 426, e P "check_goal" 761 435, e P "ways_from" 779 442, e P "reached" 787 449, e P "measured" 798 456, e P "tied" 809 463, e P "Answer" 831 473, e P "Poured" 855 492, e P "Barred" 880 511, e P "nearest" 890 520, e P "moves_to" 900 527, e P "heights_in" 910 534, e P "fewest" 921 541, (de P "MOST_STATES" 925 (.int 2000 924)), e P "sizes_in" 934 548, e P "count_states" 943 555, e P "pours_among" 953 562, e P "with_one_more" 964 569, e P "House" 1023 610, e P "move_text" 1032 621, e P "routine_text" 1038 626, e P "_law_cell_at" 1048 633, e P "_law_kinds" 1056 640, e P "_law_told" 1066 647, e P "_law_house" 1074 654, e P "_law_with_state" 1083 661, e P "_law_with_move" 1092 668, e P "_law_unfit" 1102 675, e P "_law_with_goal" 1110 682, e P "_law_goal_unfit" 1119 689, e P "_law_all" 1131 696, e P "_law_goals_right" 1141 703, e P "_law_good" 1147 710, e P "law" 1161 717] 77
def o14 : Obj := fl #[i 2, i 0, r 20, i 4, i 0, r 33, i 6, i 0, r 45, i 8, i 0, r 57, i 10, i 0, r 69, i 12, i 0, r 81, i 17, i 0, r 93, i 19, i 0, r 100, i 21, i 0, r 107, i 33, i 0, r 114, i 37, i 0, r 121, i 41, i 0, r 128, i 45, i 0, r 135, i 49, i 0, r 142, i 57, i 0, r 170, i 74, i 0, r 196, i 83, i 0, r 222, i 92, i 0, r 248, i 100, i 0, r 255, i 108, i 0, r 262, i 112, i 0, r 269, i 115, i 0, r 276, i 126, i 0, r 283, i 136, i 0, r 290, i 140, i 0, r 297, i 145, i 0, r 304, i 153, i 0, r 332, i 164, i 0, r 358, i 172, i 0, r 384, i 183, i 0, r 408, i 191, i 0, r 434, i 195, i 0, r 441, i 210, i 0, r 448, i 212, i 0, r 455, i 218, i 0, r 462, i 223, i 0, r 469, i 225, i 0, r 483, i 230, i 0, r 500, i 234, i 0, r 519, i 239, i 0, r 526, i 246, i 0, r 533, i 252, i 0, r 540, i 262, i 0, r 547, i 274, i 0, r 554, i 279, i 0, r 561, i 286, i 0, r 568, i 292, i 0, r 575, i 320, i 0, r 620, i 326, i 0, r 625, i 329, i 0, r 632, i 333, i 0, r 639, i 336, i 0, r 646, i 342, i 0, r 653, i 344, i 0, r 660, i 363, i 0, r 667, i 378, i 0, r 674, i 384, i 0, r 681, i 398, i 0, r 688, i 403, i 0, r 695, i 409, i 0, r 702, i 425, i 0, r 709, i 431, i 0, r 716]
def o15 : Obj := tu #[(.type "ValueError")]
def o16 : Obj := ft "builtin_function_or_method" #[(.builtin "type.__prepare__"), (.type "type")]
def o17 : Obj := di #[eM P 196 "jughouse.errors" 187, eQ P 198 "JugError" 197, eL P 200 2 199, eS P 201 22] 4
def o18 : Obj := c2 "JugError" 191 2 18 19 194
def o19 : Obj := fr (r 20) (r 17) (z "jughouse.errors" 187)
def o20 : Obj := di #[eM P 196 "jughouse.errors" 187, eL P 200 2 199, eS P 201 22, e P "__weakref__" 203 25, de P "__doc__" 204 .none] 3
def o21 : Obj := ty "JugError" [(.type "ValueError")] [r 24, (.type "ValueError"), (.type "Exception"), (.type "BaseException"), (.type "object")] 23 "JugError" [r 37, r 49, r 61, r 73, r 85] (r 15) (z "JugError" 189) (z "JugError" 197) (.builtin "ValueError.__new__")
def o22 : Obj := ft "getset_descriptor" #[z "__weakref__" 202, r 24, (.builtin "ExceptionGroup.__weakref__"), .none]
def o23 : Obj := ft "super" #[r 24, r 24, r 24]
def o24 : Obj := ft "builtin_function_or_method" #[(.builtin "object.__init_subclass__"), r 24]
def o25 : Obj := tu #[r 24]
def o26 : Obj := di #[eM P 214 "jughouse.errors" 187, eQ P 216 "BadHouse" 215, eL P 218 4 217, eS P 219 35] 4
def o27 : Obj := c2 "BadHouse" 209 4 31 32 212
def o28 : Obj := fr (r 33) (r 30) (z "jughouse.errors" 187)
def o29 : Obj := di #[eM P 214 "jughouse.errors" 187, eL P 218 4 217, eS P 219 35, de P "__doc__" 220 .none] 2
def o30 : Obj := ty "BadHouse" [r 24] [r 37, r 24, (.type "ValueError"), (.type "Exception"), (.type "BaseException"), (.type "object")] 36 "BadHouse" [] (r 28) (z "BadHouse" 207) (z "BadHouse" 215) (.builtin "ValueError.__new__")
def o31 : Obj := ft "super" #[r 37, r 37, r 37]
def o32 : Obj := ft "builtin_function_or_method" #[(.builtin "object.__init_subclass__"), r 37]
def o33 : Obj := di #[eM P 230 "jughouse.errors" 187, eQ P 232 "BadState" 231, eL P 234 6 233, eS P 235 47] 4
def o34 : Obj := c2 "BadState" 225 6 43 44 228
def o35 : Obj := fr (r 45) (r 42) (z "jughouse.errors" 187)
def o36 : Obj := di #[eM P 230 "jughouse.errors" 187, eL P 234 6 233, eS P 235 47, de P "__doc__" 236 .none] 2
def o37 : Obj := ty "BadState" [r 24] [r 49, r 24, (.type "ValueError"), (.type "Exception"), (.type "BaseException"), (.type "object")] 48 "BadState" [] (r 40) (z "BadState" 223) (z "BadState" 231) (.builtin "ValueError.__new__")
def o38 : Obj := ft "super" #[r 49, r 49, r 49]
def o39 : Obj := ft "builtin_function_or_method" #[(.builtin "object.__init_subclass__"), r 49]
def o40 : Obj := di #[eM P 246 "jughouse.errors" 187, eQ P 248 "BadMove" 247, eL P 250 8 249, eS P 251 59] 4
def o41 : Obj := c2 "BadMove" 241 8 55 56 244
def o42 : Obj := fr (r 57) (r 54) (z "jughouse.errors" 187)
def o43 : Obj := di #[eM P 246 "jughouse.errors" 187, eL P 250 8 249, eS P 251 59, de P "__doc__" 252 .none] 2
def o44 : Obj := ty "BadMove" [r 24] [r 61, r 24, (.type "ValueError"), (.type "Exception"), (.type "BaseException"), (.type "object")] 60 "BadMove" [] (r 52) (z "BadMove" 239) (z "BadMove" 247) (.builtin "ValueError.__new__")
def o45 : Obj := ft "super" #[r 61, r 61, r 61]
def o46 : Obj := ft "builtin_function_or_method" #[(.builtin "object.__init_subclass__"), r 61]
def o47 : Obj := di #[eM P 262 "jughouse.errors" 187, eQ P 264 "BadGoal" 263, eL P 266 10 265, eS P 267 71] 4
def o48 : Obj := c2 "BadGoal" 257 10 67 68 260
def o49 : Obj := fr (r 69) (r 66) (z "jughouse.errors" 187)
def o50 : Obj := di #[eM P 262 "jughouse.errors" 187, eL P 266 10 265, eS P 267 71, de P "__doc__" 268 .none] 2
def o51 : Obj := ty "BadGoal" [r 24] [r 73, r 24, (.type "ValueError"), (.type "Exception"), (.type "BaseException"), (.type "object")] 72 "BadGoal" [] (r 64) (z "BadGoal" 255) (z "BadGoal" 263) (.builtin "ValueError.__new__")
def o52 : Obj := ft "super" #[r 73, r 73, r 73]
def o53 : Obj := ft "builtin_function_or_method" #[(.builtin "object.__init_subclass__"), r 73]
def o54 : Obj := di #[eM P 278 "jughouse.errors" 187, eQ P 280 "BadText" 279, eL P 282 12 281, eS P 283 83] 4
def o55 : Obj := c2 "BadText" 273 12 79 80 276
def o56 : Obj := fr (r 81) (r 78) (z "jughouse.errors" 187)
def o57 : Obj := di #[eM P 278 "jughouse.errors" 187, eL P 282 12 281, eS P 283 83, de P "__doc__" 284 .none] 2
def o58 : Obj := ty "BadText" [r 24] [r 85, r 24, (.type "ValueError"), (.type "Exception"), (.type "BaseException"), (.type "object")] 84 "BadText" [] (r 76) (z "BadText" 271) (z "BadText" 279) (.builtin "ValueError.__new__")
def o59 : Obj := ft "super" #[r 85, r 85, r 85]
def o60 : Obj := ft "builtin_function_or_method" #[(.builtin "object.__init_subclass__"), r 85]
def o61 : Obj := tS [("value", 296), ("least", 297), ("most", 298)]
def o62 : Obj := f2 (st 10) "is_number"
def o63 : Obj := c1 "is_number" "is_number" 293 17 3 3 88 89 90 91 92 299
def o64 : Obj := f1 (st 10) "is_number" "jughouse.checks" 287 93
def o65 : Obj := tS [("value", 305)]
def o66 : Obj := f2 (st 11) "is_jug"
def o67 : Obj := c1 "is_jug" "is_jug" 302 19 1 3 95 96 97 98 99 306
def o68 : Obj := f1 (st 11) "is_jug" "jughouse.checks" 287 100
def o69 : Obj := tS [("house", 312), ("state", 313), ("held", 314), ("sizes", 315), ("many", 316), ("size", 317)]
def o70 : Obj := f2 (st 12) "held_in"
def o71 : Obj := c1 "held_in" "held_in" 309 21 2 3 102 103 104 105 106 318
def o72 : Obj := f1 (st 12) "held_in" "jughouse.checks" 287 107
def o73 : Obj := tS [("jug", 326)]
def o74 : Obj := f2 (st 14) "check_jug"
def o75 : Obj := c1 "check_jug" "check_jug" 323 33 1 3 109 110 111 112 113 327
def o76 : Obj := f1 (st 14) "check_jug" "jughouse.moves" 321 114
def o77 : Obj := tS [("house", 334), ("jug", 335)]
def o78 : Obj := f2 (st 16) "check_house_has"
def o79 : Obj := c1 "check_house_has" "check_house_has" 331 37 2 3 116 117 118 119 120 336
def o80 : Obj := f1 (st 16) "check_house_has" "jughouse.moves" 321 121
def o81 : Obj := tS [("house", 343), ("jug", 344)]
def o82 : Obj := f2 (st 18) "check_house_can_tap"
def o83 : Obj := c1 "check_house_can_tap" "check_house_can_tap" 340 41 2 3 123 124 125 126 127 345
def o84 : Obj := f1 (st 18) "check_house_can_tap" "jughouse.moves" 321 128
def o85 : Obj := tS [("held", 351), ("jug", 352), ("many", 353), ("behind", 354)]
def o86 : Obj := f2 (st 19) "with_amount"
def o87 : Obj := c1 "with_amount" "with_amount" 348 45 3 3 130 131 132 133 134 355
def o88 : Obj := f1 (st 19) "with_amount" "jughouse.moves" 321 135
def o89 : Obj := di #[eM P 365 "jughouse.moves" 321, eQ P 367 "Move" 366, eL P 369 49 368, e P "done" 379 150, e P "held_behind" 388 157, eS P 389 158] 6
def o90 : Obj := fl #[i 51, i 4, r 149, i 55, i 4, r 156]
def o91 : Obj := c2 "Move" 360 49 140 141 363
def o92 : Obj := fr (r 142) (r 139) (z "jughouse.moves" 321)
def o93 : Obj := tS [("self", 373), ("house", 374), ("state", 375), ("held", 376)]
def o94 : Obj := fp (me 20 0) "done" "Move.done"
def o95 : Obj := c1 "done" "Move.done" 370 51 3 3 144 145 146 147 148 377
def o96 : Obj := fo (me 20 0) "done" "Move.done" "jughouse.moves" 321 149
def o97 : Obj := tS [("self", 383), ("house", 384), ("held", 385)]
def o98 : Obj := fp (me 20 1) "held_behind" "Move.held_behind"
def o99 : Obj := c1 "held_behind" "Move.held_behind" 380 55 3 3 151 152 153 154 155 386
def o100 : Obj := fo (me 20 1) "held_behind" "Move.held_behind" "jughouse.moves" 321 156
def o101 : Obj := di #[eM P 365 "jughouse.moves" 321, eL P 369 49 368, e P "done" 379 150, e P "held_behind" 388 157, eS P 389 158, e P "__dict__" 391 161, e P "__weakref__" 393 162, de P "__doc__" 394 .none] 4
def o102 : Obj := .mk (.type "type") none (.cls (.mk "Move" [(.type "object")] [r 160, (.type "object")] 159 "Move" true [] [r 188, r 214, r 240] false none false)) #[none, none, (some (z "Move" 358)), (some (z "Move" 366)), (some (.builtin "object.__new__")), (some (.bool true))]
def o103 : Obj := ft "getset_descriptor" #[z "__dict__" 390, r 160, (.builtin "function.__dict__"), (.builtin "function.__dict__#set")]
def o104 : Obj := ft "getset_descriptor" #[z "__weakref__" 392, r 160, (.builtin "ExceptionGroup.__weakref__"), .none]
def o105 : Obj := ft "super" #[r 160, r 160, r 160]
def o106 : Obj := ft "builtin_function_or_method" #[(.builtin "object.__init_subclass__"), r 160]
def o107 : Obj := tu #[r 160]
def o108 : Obj := di #[eM P 404 "jughouse.moves" 321, eQ P 406 "Pour" 405, eL P 408 57 407, e P "__init__" 417 178, e P "held_behind" 429 185, eS P 432 186] 6
def o109 : Obj := fl #[i 59, i 4, r 177, i 67, i 4, r 184]
def o110 : Obj := c2 "Pour" 399 57 168 169 402
def o111 : Obj := fr (r 170) (r 167) (z "jughouse.moves" 321)
def o112 : Obj := tS [("self", 412), ("one", 413), ("other", 414)]
def o113 : Obj := fp (me 21 0) "__init__" "Pour.__init__"
def o114 : Obj := c1 "__init__" "Pour.__init__" 409 59 3 3 172 173 174 175 176 415
def o115 : Obj := fo (me 21 0) "__init__" "Pour.__init__" "jughouse.moves" 321 177
def o116 : Obj := tS [("self", 421), ("house", 422), ("held", 423), ("room", 424), ("many", 425), ("less", 426)]
def o117 : Obj := fp (me 21 1) "held_behind" "Pour.held_behind"
def o118 : Obj := c1 "held_behind" "Pour.held_behind" 418 67 3 3 179 180 181 182 183 427
def o119 : Obj := fo (me 21 1) "held_behind" "Pour.held_behind" "jughouse.moves" 321 184
def o120 : Obj := tS [("one", 430), ("other", 431)]
def o121 : Obj := di #[eM P 404 "jughouse.moves" 321, eL P 408 57 407, e P "__init__" 417 178, e P "held_behind" 429 185, eS P 432 186, de P "__doc__" 433 .none] 2
def o122 : Obj := ty "Pour" [r 160] [r 188, r 160, (.type "object")] 187 "Pour" [] (r 165) (z "Pour" 397) (z "Pour" 405) (.builtin "object.__new__")
def o123 : Obj := ft "super" #[r 188, r 188, r 188]
def o124 : Obj := ft "builtin_function_or_method" #[(.builtin "object.__init_subclass__"), r 188]
def o125 : Obj := di #[eM P 443 "jughouse.moves" 321, eQ P 445 "Fill" 444, eL P 447 74 446, e P "__init__" 455 204, e P "held_behind" 464 211, eS P 466 212] 6
def o126 : Obj := fl #[i 76, i 4, r 203, i 80, i 4, r 210]
def o127 : Obj := c2 "Fill" 438 74 194 195 441
def o128 : Obj := fr (r 196) (r 193) (z "jughouse.moves" 321)
def o129 : Obj := tS [("self", 451), ("jug", 452)]
def o130 : Obj := fp (me 22 0) "__init__" "Fill.__init__"
def o131 : Obj := c1 "__init__" "Fill.__init__" 448 76 2 3 198 199 200 201 202 453
def o132 : Obj := fo (me 22 0) "__init__" "Fill.__init__" "jughouse.moves" 321 203
def o133 : Obj := tS [("self", 459), ("house", 460), ("held", 461)]
def o134 : Obj := fp (me 22 1) "held_behind" "Fill.held_behind"
def o135 : Obj := c1 "held_behind" "Fill.held_behind" 456 80 3 3 205 206 207 208 209 462
def o136 : Obj := fo (me 22 1) "held_behind" "Fill.held_behind" "jughouse.moves" 321 210
def o137 : Obj := tS [("jug", 465)]
def o138 : Obj := di #[eM P 443 "jughouse.moves" 321, eL P 447 74 446, e P "__init__" 455 204, e P "held_behind" 464 211, eS P 466 212, de P "__doc__" 467 .none] 2
def o139 : Obj := ty "Fill" [r 160] [r 214, r 160, (.type "object")] 213 "Fill" [] (r 191) (z "Fill" 436) (z "Fill" 444) (.builtin "object.__new__")
def o140 : Obj := ft "super" #[r 214, r 214, r 214]
def o141 : Obj := ft "builtin_function_or_method" #[(.builtin "object.__init_subclass__"), r 214]
def o142 : Obj := di #[eM P 477 "jughouse.moves" 321, eQ P 479 "Empty" 478, eL P 481 83 480, e P "__init__" 489 230, e P "held_behind" 498 237, eS P 500 238] 6
def o143 : Obj := fl #[i 85, i 4, r 229, i 89, i 4, r 236]
def o144 : Obj := c2 "Empty" 472 83 220 221 475
def o145 : Obj := fr (r 222) (r 219) (z "jughouse.moves" 321)
def o146 : Obj := tS [("self", 485), ("jug", 486)]
def o147 : Obj := fp (me 23 0) "__init__" "Empty.__init__"
def o148 : Obj := c1 "__init__" "Empty.__init__" 482 85 2 3 224 225 226 227 228 487
def o149 : Obj := fo (me 23 0) "__init__" "Empty.__init__" "jughouse.moves" 321 229
def o150 : Obj := tS [("self", 493), ("house", 494), ("held", 495)]
def o151 : Obj := fp (me 23 1) "held_behind" "Empty.held_behind"
def o152 : Obj := c1 "held_behind" "Empty.held_behind" 490 89 3 3 231 232 233 234 235 496
def o153 : Obj := fo (me 23 1) "held_behind" "Empty.held_behind" "jughouse.moves" 321 236
def o154 : Obj := tS [("jug", 499)]
def o155 : Obj := di #[eM P 477 "jughouse.moves" 321, eL P 481 83 480, e P "__init__" 489 230, e P "held_behind" 498 237, eS P 500 238, de P "__doc__" 501 .none] 2
def o156 : Obj := ty "Empty" [r 160] [r 240, r 160, (.type "object")] 239 "Empty" [] (r 217) (z "Empty" 470) (z "Empty" 478) (.builtin "object.__new__")
def o157 : Obj := ft "super" #[r 240, r 240, r 240]
def o158 : Obj := ft "builtin_function_or_method" #[(.builtin "object.__init_subclass__"), r 240]
def o159 : Obj := tS [("moves", 507), ("told", 508), ("move", 509)]
def o160 : Obj := f2 (st 24) "moves_in"
def o161 : Obj := c1 "moves_in" "moves_in" 504 92 1 3 243 244 245 246 247 510
def o162 : Obj := f1 (st 24) "moves_in" "jughouse.moves" 321 248
def o163 : Obj := tS [("moves", 516), ("house", 517), ("state", 518), ("told", 519), ("behind", 520), ("move", 521)]
def o164 : Obj := f2 (st 25) "done_all"
def o165 : Obj := c1 "done_all" "done_all" 513 100 3 3 250 251 252 253 254 522
def o166 : Obj := f1 (st 25) "done_all" "jughouse.moves" 321 255
def o167 : Obj := tS [("jug", 532)]
def o168 : Obj := f2 (st 28) "check_jug"
def o169 : Obj := c1 "check_jug" "check_jug" 529 108 1 3 257 258 259 260 261 533
def o170 : Obj := f1 (st 28) "check_jug" "jughouse.goals" 525 262
def o171 : Obj := tS [("many", 540)]
def o172 : Obj := f2 (st 30) "check_amount"
def o173 : Obj := c1 "check_amount" "check_amount" 537 112 1 3 264 265 266 267 268 541
def o174 : Obj := f1 (st 30) "check_amount" "jughouse.goals" 525 269
def o175 : Obj := tS [("jugs", 547), ("told", 548), ("jug", 549)]
def o176 : Obj := f2 (st 31) "jugs_in"
def o177 : Obj := c1 "jugs_in" "jugs_in" 544 115 1 3 271 272 273 274 275 550
def o178 : Obj := f1 (st 31) "jugs_in" "jughouse.goals" 525 276
def o179 : Obj := tS [("state", 556), ("told", 557), ("many", 558)]
def o180 : Obj := f2 (st 32) "amounts_in"
def o181 : Obj := c1 "amounts_in" "amounts_in" 553 126 1 3 278 279 280 281 282 559
def o182 : Obj := f1 (st 32) "amounts_in" "jughouse.goals" 525 283
def o183 : Obj := tS [("house", 565), ("jug", 566)]
def o184 : Obj := f2 (st 33) "check_house_has"
def o185 : Obj := c1 "check_house_has" "check_house_has" 562 136 2 3 285 286 287 288 289 567
def o186 : Obj := f1 (st 33) "check_house_has" "jughouse.goals" 525 290
def o187 : Obj := tS [("house", 574), ("state", 575)]
def o188 : Obj := f2 (st 35) "check_state_of"
def o189 : Obj := c1 "check_state_of" "check_state_of" 571 140 2 3 292 293 294 295 296 576
def o190 : Obj := f1 (st 35) "check_state_of" "jughouse.goals" 525 297
def o191 : Obj := di #[eM P 586 "jughouse.goals" 525, eQ P 588 "Goal" 587, eL P 590 145 589, e P "come" 600 312, e P "met_by" 609 319, eS P 610 320] 6
def o192 : Obj := fl #[i 147, i 4, r 311, i 151, i 4, r 318]
def o193 : Obj := c2 "Goal" 581 145 302 303 584
def o194 : Obj := fr (r 304) (r 301) (z "jughouse.goals" 525)
def o195 : Obj := tS [("self", 594), ("house", 595), ("state", 596), ("held", 597)]
def o196 : Obj := fp (me 36 0) "come" "Goal.come"
def o197 : Obj := c1 "come" "Goal.come" 591 147 3 3 306 307 308 309 310 598
def o198 : Obj := fo (me 36 0) "come" "Goal.come" "jughouse.goals" 525 311
def o199 : Obj := tS [("self", 604), ("house", 605), ("held", 606)]
def o200 : Obj := fp (me 36 1) "met_by" "Goal.met_by"
def o201 : Obj := c1 "met_by" "Goal.met_by" 601 151 3 3 313 314 315 316 317 607
def o202 : Obj := fo (me 36 1) "met_by" "Goal.met_by" "jughouse.goals" 525 318
def o203 : Obj := di #[eM P 586 "jughouse.goals" 525, eL P 590 145 589, e P "come" 600 312, e P "met_by" 609 319, eS P 610 320, e P "__dict__" 612 323, e P "__weakref__" 614 324, de P "__doc__" 615 .none] 4
def o204 : Obj := .mk (.type "type") none (.cls (.mk "Goal" [(.type "object")] [r 322, (.type "object")] 321 "Goal" true [] [r 350, r 376, r 400, r 426] false none false)) #[none, none, (some (z "Goal" 579)), (some (z "Goal" 587)), (some (.builtin "object.__new__")), (some (.bool true))]
def o205 : Obj := ft "getset_descriptor" #[z "__dict__" 611, r 322, (.builtin "function.__dict__"), (.builtin "function.__dict__#set")]
def o206 : Obj := ft "getset_descriptor" #[z "__weakref__" 613, r 322, (.builtin "ExceptionGroup.__weakref__"), .none]
def o207 : Obj := ft "super" #[r 322, r 322, r 322]
def o208 : Obj := ft "builtin_function_or_method" #[(.builtin "object.__init_subclass__"), r 322]
def o209 : Obj := tu #[r 322]
def o210 : Obj := di #[eM P 625 "jughouse.goals" 525, eQ P 627 "Holds" 626, eL P 629 153 628, e P "__init__" 638 340, e P "met_by" 647 347, eS P 650 348] 6
def o211 : Obj := fl #[i 155, i 4, r 339, i 161, i 4, r 346]
def o212 : Obj := c2 "Holds" 620 153 330 331 623
def o213 : Obj := fr (r 332) (r 329) (z "jughouse.goals" 525)
def o214 : Obj := tS [("self", 633), ("jug", 634), ("many", 635)]
def o215 : Obj := fp (me 37 0) "__init__" "Holds.__init__"
def o216 : Obj := c1 "__init__" "Holds.__init__" 630 155 3 3 334 335 336 337 338 636
def o217 : Obj := fo (me 37 0) "__init__" "Holds.__init__" "jughouse.goals" 525 339
def o218 : Obj := tS [("self", 642), ("house", 643), ("held", 644)]
def o219 : Obj := fp (me 37 1) "met_by" "Holds.met_by"
def o220 : Obj := c1 "met_by" "Holds.met_by" 639 161 3 3 341 342 343 344 345 645
def o221 : Obj := fo (me 37 1) "met_by" "Holds.met_by" "jughouse.goals" 525 346
def o222 : Obj := tS [("jug", 648), ("many", 649)]
def o223 : Obj := di #[eM P 625 "jughouse.goals" 525, eL P 629 153 628, e P "__init__" 638 340, e P "met_by" 647 347, eS P 650 348, de P "__doc__" 651 .none] 2
def o224 : Obj := ty "Holds" [r 322] [r 350, r 322, (.type "object")] 349 "Holds" [] (r 327) (z "Holds" 618) (z "Holds" 626) (.builtin "object.__new__")
def o225 : Obj := ft "super" #[r 350, r 350, r 350]
def o226 : Obj := ft "builtin_function_or_method" #[(.builtin "object.__init_subclass__"), r 350]
def o227 : Obj := di #[eM P 661 "jughouse.goals" 525, eQ P 663 "Some" 662, eL P 665 164 664, e P "__init__" 673 366, e P "met_by" 682 373, eS P 684 374] 6
def o228 : Obj := fl #[i 166, i 4, r 365, i 170, i 4, r 372]
def o229 : Obj := c2 "Some" 656 164 356 357 659
def o230 : Obj := fr (r 358) (r 355) (z "jughouse.goals" 525)
def o231 : Obj := tS [("self", 669), ("many", 670)]
def o232 : Obj := fp (me 38 0) "__init__" "Some.__init__"
def o233 : Obj := c1 "__init__" "Some.__init__" 666 166 2 3 360 361 362 363 364 671
def o234 : Obj := fo (me 38 0) "__init__" "Some.__init__" "jughouse.goals" 525 365
def o235 : Obj := tS [("self", 677), ("house", 678), ("held", 679)]
def o236 : Obj := fp (me 38 1) "met_by" "Some.met_by"
def o237 : Obj := c1 "met_by" "Some.met_by" 674 170 3 3 367 368 369 370 371 680
def o238 : Obj := fo (me 38 1) "met_by" "Some.met_by" "jughouse.goals" 525 372
def o239 : Obj := tS [("many", 683)]
def o240 : Obj := di #[eM P 661 "jughouse.goals" 525, eL P 665 164 664, e P "__init__" 673 366, e P "met_by" 682 373, eS P 684 374, de P "__doc__" 685 .none] 2
def o241 : Obj := ty "Some" [r 322] [r 376, r 322, (.type "object")] 375 "Some" [] (r 353) (z "Some" 654) (z "Some" 662) (.builtin "object.__new__")
def o242 : Obj := ft "super" #[r 376, r 376, r 376]
def o243 : Obj := ft "builtin_function_or_method" #[(.builtin "object.__init_subclass__"), r 376]
def o244 : Obj := di #[eM P 695 "jughouse.goals" 525, eQ P 697 "Sum" 696, eL P 699 172 698, e P "__init__" 708 392, e P "met_by" 714 397, eS P 717 398] 6
def o245 : Obj := fl #[i 174, i 4, r 391, i 179, i 4, r 396]
def o246 : Obj := c2 "Sum" 690 172 382 383 693
def o247 : Obj := fr (r 384) (r 381) (z "jughouse.goals" 525)
def o248 : Obj := tS [("self", 703), ("jugs", 704), ("many", 705)]
def o249 : Obj := fp (me 39 0) "__init__" "Sum.__init__"
def o250 : Obj := c1 "__init__" "Sum.__init__" 700 174 3 3 386 387 388 389 390 706
def o251 : Obj := fo (me 39 0) "__init__" "Sum.__init__" "jughouse.goals" 525 391
def o252 : Obj := fp (me 39 1) "met_by" "Sum.met_by"
def o253 : Obj := cO "met_by" 709 "Sum.met_by" 710 711 179 3 0 0 3 (r 393) (.bool true) (i 181) (r 394) .none .none .none (r 395) 712 179 713
def o254 : Obj := fo (me 39 1) "met_by" "Sum.met_by" "jughouse.goals" 525 396
def o255 : Obj := tS [("jugs", 715), ("many", 716)]
def o256 : Obj := di #[eM P 695 "jughouse.goals" 525, eL P 699 172 698, e P "__init__" 708 392, e P "met_by" 714 397, eS P 717 398, de P "__doc__" 718 .none] 2
def o257 : Obj := ty "Sum" [r 322] [r 400, r 322, (.type "object")] 399 "Sum" [] (r 379) (z "Sum" 688) (z "Sum" 696) (.builtin "object.__new__")
def o258 : Obj := ft "super" #[r 400, r 400, r 400]
def o259 : Obj := ft "builtin_function_or_method" #[(.builtin "object.__init_subclass__"), r 400]
def o260 : Obj := di #[eM P 728 "jughouse.goals" 525, eQ P 730 "Whole" 729, eL P 732 183 731, e P "__init__" 740 416, e P "met_by" 749 423, eS P 751 424] 6
def o261 : Obj := fl #[i 185, i 4, r 415, i 188, i 4, r 422]
def o262 : Obj := c2 "Whole" 723 183 406 407 726
def o263 : Obj := fr (r 408) (r 405) (z "jughouse.goals" 525)
def o264 : Obj := tS [("self", 736), ("state", 737)]
def o265 : Obj := fp (me 40 0) "__init__" "Whole.__init__"
def o266 : Obj := c1 "__init__" "Whole.__init__" 733 185 2 3 410 411 412 413 414 738
def o267 : Obj := fo (me 40 0) "__init__" "Whole.__init__" "jughouse.goals" 525 415
def o268 : Obj := tS [("self", 744), ("house", 745), ("held", 746)]
def o269 : Obj := fp (me 40 1) "met_by" "Whole.met_by"
def o270 : Obj := c1 "met_by" "Whole.met_by" 741 188 3 3 417 418 419 420 421 747
def o271 : Obj := fo (me 40 1) "met_by" "Whole.met_by" "jughouse.goals" 525 422
def o272 : Obj := tS [("state", 750)]
def o273 : Obj := di #[eM P 728 "jughouse.goals" 525, eL P 732 183 731, e P "__init__" 740 416, e P "met_by" 749 423, eS P 751 424, de P "__doc__" 752 .none] 2
def o274 : Obj := ty "Whole" [r 322] [r 426, r 322, (.type "object")] 425 "Whole" [] (r 403) (z "Whole" 721) (z "Whole" 729) (.builtin "object.__new__")
def o275 : Obj := ft "super" #[r 426, r 426, r 426]
def o276 : Obj := ft "builtin_function_or_method" #[(.builtin "object.__init_subclass__"), r 426]
def o277 : Obj := tS [("goal", 758)]
def o278 : Obj := f2 (st 41) "check_goal"
def o279 : Obj := c1 "check_goal" "check_goal" 755 191 1 3 429 430 431 432 433 759
def o280 : Obj := f1 (st 41) "check_goal" "jughouse.goals" 525 434
def o281 : Obj := tS [("house", 767), ("state", 768), ("start", 769), ("moves", 770), ("ways", 771), ("row", 772), ("place", 773), ("here", 774), ("move", 775), ("behind", 776)]
def o282 : Obj := f2 (st 43) "ways_from"
def o283 : Obj := c1 "ways_from" "ways_from" 764 195 2 3 436 437 438 439 440 777
def o284 : Obj := f1 (st 43) "ways_from" "jughouse.reach" 762 441
def o285 : Obj := tS [("house", 783), ("state", 784)]
def o286 : Obj := f2 (st 44) "reached"
def o287 : Obj := c1 "reached" "reached" 780 210 2 3 443 444 445 446 447 785
def o288 : Obj := f1 (st 44) "reached" "jughouse.reach" 762 448
def o289 : Obj := tS [("house", 791), ("state", 792), ("amounts", 793), ("held", 794), ("many", 795)]
def o290 : Obj := f2 (st 45) "measured"
def o291 : Obj := c1 "measured" "measured" 788 212 2 3 450 451 452 453 454 796
def o292 : Obj := f1 (st 45) "measured" "jughouse.reach" 762 455
def o293 : Obj := tS [("house", 802), ("one", 803), ("other", 804), ("ahead", 805), ("behind", 806)]
def o294 : Obj := f2 (st 46) "tied"
def o295 : Obj := c1 "tied" "tied" 799 218 3 3 457 458 459 460 461 807
def o296 : Obj := f1 (st 46) "tied" "jughouse.reach" 762 462
def o297 : Obj := di #[eM P 819 "jughouse.fewest" 810, eQ P 821 "Answer" 820, eL P 823 223 822, eS P 824 471] 4
def o298 : Obj := c2 "Answer" 814 223 467 468 817
def o299 : Obj := fr (r 469) (r 466) (z "jughouse.fewest" 810)
def o300 : Obj := di #[eM P 819 "jughouse.fewest" 810, eL P 823 223 822, eS P 824 471, e P "__dict__" 826 474, e P "__weakref__" 828 475, de P "__doc__" 829 .none] 4
def o301 : Obj := .mk (.type "type") none (.cls (.mk "Answer" [(.type "object")] [r 473, (.type "object")] 472 "Answer" true [] [r 492, r 511] false none false)) #[none, none, (some (z "Answer" 812)), (some (z "Answer" 820)), (some (.builtin "object.__new__")), (some (.bool true))]
def o302 : Obj := ft "getset_descriptor" #[z "__dict__" 825, r 473, (.builtin "function.__dict__"), (.builtin "function.__dict__#set")]
def o303 : Obj := ft "getset_descriptor" #[z "__weakref__" 827, r 473, (.builtin "ExceptionGroup.__weakref__"), .none]
def o304 : Obj := ft "super" #[r 473, r 473, r 473]
def o305 : Obj := ft "builtin_function_or_method" #[(.builtin "object.__init_subclass__"), r 473]
def o306 : Obj := tu #[r 473]
def o307 : Obj := di #[eM P 839 "jughouse.fewest" 810, eQ P 841 "Poured" 840, eL P 843 225 842, e P "__init__" 849 489, eS P 852 490] 5
def o308 : Obj := fl #[i 227, i 4, r 488]
def o309 : Obj := c2 "Poured" 834 225 481 482 837
def o310 : Obj := fr (r 483) (r 480) (z "jughouse.fewest" 810)
def o311 : Obj := fp (me 49 0) "__init__" "Poured.__init__"
def o312 : Obj := cO "__init__" 844 "Poured.__init__" 845 846 227 3 0 0 3 (r 485) (.bool true) (i 181) (r 486) .none .none .none (r 487) 847 227 848
def o313 : Obj := fo (me 49 0) "__init__" "Poured.__init__" "jughouse.fewest" 810 488
def o314 : Obj := tS [("heights", 850), ("pours", 851)]
def o315 : Obj := di #[eM P 839 "jughouse.fewest" 810, eL P 843 225 842, e P "__init__" 849 489, eS P 852 490, de P "__doc__" 853 .none] 2
def o316 : Obj := ty "Poured" [r 473] [r 492, r 473, (.type "object")] 491 "Poured" [] (r 478) (z "Poured" 832) (z "Poured" 840) (.builtin "object.__new__")
def o317 : Obj := ft "super" #[r 492, r 492, r 492]
def o318 : Obj := ft "builtin_function_or_method" #[(.builtin "object.__init_subclass__"), r 492]
def o319 : Obj := di #[eM P 863 "jughouse.fewest" 810, eQ P 865 "Barred" 864, eL P 867 230 866, e P "__init__" 875 508, eS P 877 509] 5
def o320 : Obj := fl #[i 232, i 4, r 507]
def o321 : Obj := c2 "Barred" 858 230 498 499 861
def o322 : Obj := fr (r 500) (r 497) (z "jughouse.fewest" 810)
def o323 : Obj := tS [("self", 871), ("among", 872)]
def o324 : Obj := fp (me 50 0) "__init__" "Barred.__init__"
def o325 : Obj := c1 "__init__" "Barred.__init__" 868 232 2 3 502 503 504 505 506 873
def o326 : Obj := fo (me 50 0) "__init__" "Barred.__init__" "jughouse.fewest" 810 507
def o327 : Obj := tS [("among", 876)]
def o328 : Obj := di #[eM P 863 "jughouse.fewest" 810, eL P 867 230 866, e P "__init__" 875 508, eS P 877 509, de P "__doc__" 878 .none] 2
def o329 : Obj := ty "Barred" [r 473] [r 511, r 473, (.type "object")] 510 "Barred" [] (r 495) (z "Barred" 856) (z "Barred" 864) (.builtin "object.__new__")
def o330 : Obj := ft "super" #[r 511, r 511, r 511]
def o331 : Obj := ft "builtin_function_or_method" #[(.builtin "object.__init_subclass__"), r 511]
def o332 : Obj := tS [("house", 884), ("ways", 885), ("goal", 886), ("state", 887)]
def o333 : Obj := f2 (st 51) "nearest"
def o334 : Obj := c1 "nearest" "nearest" 881 234 3 3 514 515 516 517 518 888
def o335 : Obj := f1 (st 51) "nearest" "jughouse.fewest" 810 519
def o336 : Obj := tS [("ways", 894), ("state", 895), ("back", 896), ("way", 897)]
def o337 : Obj := f2 (st 52) "moves_to"
def o338 : Obj := c1 "moves_to" "moves_to" 891 239 2 3 521 522 523 524 525 898
def o339 : Obj := f1 (st 52) "moves_to" "jughouse.fewest" 810 526
def o340 : Obj := tS [("ways", 904), ("heights", 905), ("state", 906), ("way", 907)]
def o341 : Obj := f2 (st 53) "heights_in"
def o342 : Obj := c1 "heights_in" "heights_in" 901 246 1 3 528 529 530 531 532 908
def o343 : Obj := f1 (st 53) "heights_in" "jughouse.fewest" 810 533
def o344 : Obj := tS [("house", 914), ("state", 915), ("goal", 916), ("ways", 917), ("last", 918)]
def o345 : Obj := f2 (st 54) "fewest"
def o346 : Obj := c1 "fewest" "fewest" 911 252 3 3 535 536 537 538 539 919
def o347 : Obj := f1 (st 54) "fewest" "jughouse.fewest" 810 540
def o348 : Obj := tS [("sizes", 929), ("told", 930), ("size", 931)]
def o349 : Obj := f2 (st 57) "sizes_in"
def o350 : Obj := c1 "sizes_in" "sizes_in" 926 262 1 3 542 543 544 545 546 932
def o351 : Obj := f1 (st 57) "sizes_in" "jughouse.houses" 922 547
def o352 : Obj := tS [("sizes", 938), ("many", 939), ("size", 940)]
def o353 : Obj := f2 (st 58) "count_states"
def o354 : Obj := c1 "count_states" "count_states" 935 274 1 3 549 550 551 552 553 941
def o355 : Obj := f1 (st 58) "count_states" "jughouse.houses" 922 554
def o356 : Obj := tS [("many", 947), ("pours", 948), ("one", 949), ("other", 950)]
def o357 : Obj := f2 (st 59) "pours_among"
def o358 : Obj := c1 "pours_among" "pours_among" 944 279 1 3 556 557 558 559 560 951
def o359 : Obj := f1 (st 59) "pours_among" "jughouse.houses" 922 561
def o360 : Obj := tS [("states", 957), ("size", 958), ("longer", 959), ("state", 960), ("many", 961)]
def o361 : Obj := f2 (st 60) "with_one_more"
def o362 : Obj := c1 "with_one_more" "with_one_more" 954 286 2 3 563 564 565 566 567 962
def o363 : Obj := f1 (st 60) "with_one_more" "jughouse.houses" 922 568
def o364 : Obj := di #[eM P 972 "jughouse.houses" 922, eQ P 974 "House" 973, eL P 976 292 975, e P "__init__" 985 583, e P "sizes" 992 590, e P "moves" 998 595, e P "states" 1007 602, e P "empty" 1013 607, eS P 1016 608] 9
def o365 : Obj := fl #[i 294, i 4, r 582, i 300, i 4, r 589, i 303, i 4, r 594, i 311, i 4, r 601, i 317, i 4, r 606]
def o366 : Obj := c2 "House" 967 292 573 574 970
def o367 : Obj := fr (r 575) (r 572) (z "jughouse.houses" 922)
def o368 : Obj := tS [("self", 980), ("sizes", 981), ("tap", 982)]
def o369 : Obj := fp (me 61 0) "__init__" "House.__init__"
def o370 : Obj := c1 "__init__" "House.__init__" 977 294 3 3 577 578 579 580 581 983
def o371 : Obj := fo (me 61 0) "__init__" "House.__init__" "jughouse.houses" 922 582
def o372 : Obj := tS [("self", 989)]
def o373 : Obj := fp (me 61 1) "sizes" "House.sizes"
def o374 : Obj := c1 "sizes" "House.sizes" 986 300 1 3 584 585 586 587 588 990
def o375 : Obj := fo (me 61 1) "sizes" "House.sizes" "jughouse.houses" 922 589
def o376 : Obj := fp (me 61 2) "moves" "House.moves"
def o377 : Obj := cO "moves" 993 "House.moves" 994 995 303 1 0 0 3 (r 591) (.bool true) (i 181) (r 592) .none .none .none (r 593) 996 303 997
def o378 : Obj := fo (me 61 2) "moves" "House.moves" "jughouse.houses" 922 594
def o379 : Obj := tS [("self", 1002), ("told", 1003), ("size", 1004)]
def o380 : Obj := fp (me 61 3) "states" "House.states"
def o381 : Obj := c1 "states" "House.states" 999 311 1 3 596 597 598 599 600 1005
def o382 : Obj := fo (me 61 3) "states" "House.states" "jughouse.houses" 922 601
def o383 : Obj := fp (me 61 4) "empty" "House.empty"
def o384 : Obj := cO "empty" 1008 "House.empty" 1009 1010 317 1 0 0 3 (r 603) (.bool true) (i 181) (r 604) .none .none .none (r 605) 1011 317 1012
def o385 : Obj := fo (me 61 4) "empty" "House.empty" "jughouse.houses" 922 606
def o386 : Obj := tS [("jug_sizes", 1014), ("tap", 1015)]
def o387 : Obj := di #[eM P 972 "jughouse.houses" 922, eL P 976 292 975, e P "__init__" 985 583, e P "sizes" 992 590, e P "moves" 998 595, e P "states" 1007 602, e P "empty" 1013 607, eS P 1016 608, e P "__dict__" 1018 611, e P "__weakref__" 1020 612, de P "__doc__" 1021 .none] 4
def o388 : Obj := .mk (.type "type") none (.cls (.mk "House" [(.type "object")] [r 610, (.type "object")] 609 "House" true [] [] false none false)) #[none, none, (some (z "House" 965)), (some (z "House" 973)), (some (.builtin "object.__new__")), (some (.bool true))]
def o389 : Obj := ft "getset_descriptor" #[z "__dict__" 1017, r 610, (.builtin "function.__dict__"), (.builtin "function.__dict__#set")]
def o390 : Obj := ft "getset_descriptor" #[z "__weakref__" 1019, r 610, (.builtin "ExceptionGroup.__weakref__"), .none]
def o391 : Obj := ft "super" #[r 610, r 610, r 610]
def o392 : Obj := ft "builtin_function_or_method" #[(.builtin "object.__init_subclass__"), r 610]
def o393 : Obj := tS [("move", 1029)]
def o394 : Obj := f2 (st 63) "move_text"
def o395 : Obj := c1 "move_text" "move_text" 1026 320 1 3 615 616 617 618 619 1030
def o396 : Obj := f1 (st 63) "move_text" "jughouse.texts" 1024 620
def o397 : Obj := f2 (st 64) "routine_text"
def o398 : Obj := cO "routine_text" 1033 "routine_text" 1034 1035 326 1 0 0 3 (r 622) (.bool true) (i 181) (r 623) .none .none .none (r 624) 1036 326 1037
def o399 : Obj := f1 (st 64) "routine_text" "jughouse.texts" 1024 625
def o400 : Obj := tS [("_law_script", 1044), ("_law_k", 1045)]
def o401 : Obj := f2 (st 66) "_law_cell_at"
def o402 : Obj := c1 "_law_cell_at" "_law_cell_at" 1041 329 2 3 627 628 629 630 631 1046
def o403 : Obj := f1 (st 66) "_law_cell_at" "law_jughouse_k08_refused" 1039 632
def o404 : Obj := tS [("_law_error", 1052), ("_law_found", 1053)]
def o405 : Obj := f2 (st 67) "_law_kinds"
def o406 : Obj := c1 "_law_kinds" "_law_kinds" 1049 333 1 3 634 635 636 637 638 1054
def o407 : Obj := f1 (st 67) "_law_kinds" "law_jughouse_k08_refused" 1039 639
def o408 : Obj := tS [("_law_ask", 1060), ("_law_one", 1061), ("_law_other", 1062), ("_law_error", 1063)]
def o409 : Obj := f2 (st 68) "_law_told"
def o410 : Obj := c1 "_law_told" "_law_told" 1057 336 3 3 641 642 643 644 645 1064
def o411 : Obj := f1 (st 68) "_law_told" "law_jughouse_k08_refused" 1039 646
def o412 : Obj := tS [("_law_door", 1070), ("_law_bad", 1071)]
def o413 : Obj := f2 (st 69) "_law_house"
def o414 : Obj := c1 "_law_house" "_law_house" 1067 342 2 3 648 649 650 651 652 1072
def o415 : Obj := f1 (st 69) "_law_house" "law_jughouse_k08_refused" 1039 653
def o416 : Obj := tS [("_law_door", 1078), ("_law_bad", 1079), ("_law_house_here", 1080)]
def o417 : Obj := f2 (st 70) "_law_with_state"
def o418 : Obj := c1 "_law_with_state" "_law_with_state" 1075 344 2 3 655 656 657 658 659 1081
def o419 : Obj := f1 (st 70) "_law_with_state" "law_jughouse_k08_refused" 1039 660
def o420 : Obj := tS [("_law_door", 1087), ("_law_bad", 1088), ("_law_house_here", 1089)]
def o421 : Obj := f2 (st 71) "_law_with_move"
def o422 : Obj := c1 "_law_with_move" "_law_with_move" 1084 363 2 3 662 663 664 665 666 1090
def o423 : Obj := f1 (st 71) "_law_with_move" "law_jughouse_k08_refused" 1039 667
def o424 : Obj := tS [("_law_door", 1096), ("_law_way", 1097), ("_law_house_here", 1098), ("_law_move", 1099)]
def o425 : Obj := f2 (st 72) "_law_unfit"
def o426 : Obj := c1 "_law_unfit" "_law_unfit" 1093 378 2 3 669 670 671 672 673 1100
def o427 : Obj := f1 (st 72) "_law_unfit" "law_jughouse_k08_refused" 1039 674
def o428 : Obj := tS [("_law_door", 1106), ("_law_bad", 1107)]
def o429 : Obj := f2 (st 73) "_law_with_goal"
def o430 : Obj := c1 "_law_with_goal" "_law_with_goal" 1103 384 2 3 676 677 678 679 680 1108
def o431 : Obj := f1 (st 73) "_law_with_goal" "law_jughouse_k08_refused" 1039 681
def o432 : Obj := tS [("_law_door", 1114), ("_law_way", 1115), ("_law_goal", 1116)]
def o433 : Obj := f2 (st 74) "_law_goal_unfit"
def o434 : Obj := c1 "_law_goal_unfit" "_law_goal_unfit" 1111 398 2 3 683 684 685 686 687 1117
def o435 : Obj := f1 (st 74) "_law_goal_unfit" "law_jughouse_k08_refused" 1039 688
def o436 : Obj := tS [("_law_ask", 1123), ("_law_doors", 1124), ("_law_things", 1125), ("_law_due", 1126), ("_law_door", 1127), ("_law_thing", 1128)]
def o437 : Obj := f2 (st 75) "_law_all"
def o438 : Obj := c1 "_law_all" "_law_all" 1120 403 4 3 690 691 692 693 694 1129
def o439 : Obj := f1 (st 75) "_law_all" "law_jughouse_k08_refused" 1039 695
def o440 : Obj := tS [("_law_far", 1135), ("_law_due", 1136), ("_law_jugs", 1137), ("_law_thing", 1138)]
def o441 : Obj := f2 (st 76) "_law_goals_right"
def o442 : Obj := c1 "_law_goals_right" "_law_goals_right" 1132 409 2 3 697 698 699 700 701 1139
def o443 : Obj := f1 (st 76) "_law_goals_right" "law_jughouse_k08_refused" 1039 702
def o444 : Obj := f2 (st 77) "_law_good"
def o445 : Obj := c1 "_law_good" "_law_good" 1142 425 0 3 704 705 706 707 708 1145
def o446 : Obj := f1 (st 77) "_law_good" "law_jughouse_k08_refused" 1039 709
def o447 : Obj := tS [("_law_script", 1151), ("_law_far", 1152), ("_law_due", 1153), ("_law_k", 1154), ("_law_sizes", 1155), ("_law_states", 1156), ("_law_bad", 1157), ("_law_thing", 1158)]
def o448 : Obj := f2 (st 78) "law"
def o449 : Obj := c1 "law" "law" 1148 431 1 3 711 712 713 714 715 1159
def o450 : Obj := f1 (st 78) "law" "law_jughouse_k08_refused" 1039 716
abbrev N := BT.node
abbrev L := BT.nil
abbrev l (o : Obj) : BT := .node o .nil .nil
abbrev k (o : Obj) (t : BT) : BT := .node o t .nil
def lifeF : Life := (.mk [] [] [] 0 [] [] false #[] [] 0 false false false 0 [2000, 10, 10] false 0 true [] [] 0 false)
def drawnF : Drawn := (.mk 0 0 0 0)
def hA (P : Params) : Heap := ⟨Array.mk (b0 P :: b1 P :: b2 P :: b3 P :: b4 P :: b5 P :: b6 P :: b7 P :: b8 P :: b9 P :: b10 P :: b7 P :: b8 P :: o11 :: o12 :: []), lifeF⟩
def sA (w : World) (os : OsState) : Shared := ⟨hA w.params, Array.mk [], drawnF, 187, os⟩
def tB (P : Params) : BT := (N (b0 P) (N (b1 P) (N (b3 P) (l (b7 P)) (l (b7 P))) (N (b5 P) (l (b9 P)) (l o11))) (N (b2 P) (N (b4 P) (l (b8 P)) (l (b8 P))) (N (b6 P) (l (b10 P)) (l o12))))
def sB (w : World) (os : OsState) : SharedT := ⟨tB w.params, 15, lifeF, Array.mk [], drawnF, 187, os⟩
def tC0 (P : Params) : BT := (N (b0 P) (N (b1 P) (N (o13 P) (N (b7 P) (N o15 (N (b7 P) (N o46 (N o82 (k o165 (l o329)) (k o245 (l o406))) (N o107 (k o202 (l o366)) (k o286 (l o443)))) (N (b7 P) (N (o101 P) (k o183 (l (b8 P))) (k o266 (l o424))) (N o145 (k o225 (l o385)) (l o16)))) (N (b7 P) (N (b7 P) (N o92 (k (b7 P) (l o339)) (k (o256 P) (l (b7 P)))) (N o133 (k (b8 P) (l (b7 P))) (l o296))) (N o73 (N (b7 P) (k o192 (l (b7 P))) (k o277 (l o433))) (N (o155 P) (k (b7 P) (l (b8 P))) (l o306))))) (N (o20 P) (N o32 (N (b7 P) (N o87 (k o170 (l o334)) (k o250 (l o411))) (N (b8 P) (k o209 (l o371)) (k o291 (l (b7 P))))) (N (b8 P) (N (o108 P) (k (b7 P) (l o352)) (k o271 (l (b7 P)))) (N (b7 P) (k o230 (l (b7 P))) (l o311)))) (N (b7 P) (N o60 (N (b7 P) (k (b8 P) (l (b7 P))) (k o261 (l (b8 P)))) (N o140 (k o218 (l (b7 P))) (l (b7 P)))) (N (b7 P) (N o117 (k o197 (l o361)) (k (b7 P) (l o438))) (N o160 (k (o240 P) (l o401)) (l (b8 P))))))) (N (b7 P) (N (b8 P) (N (b7 P) (N (b7 P) (N (b8 P) (k o167 (l (b8 P))) (k (b8 P) (l o408))) (N o126 (k o205 (l o368)) (k (b8 P) (l (b7 P))))) (N o66 (N o105 (k o186 (l o350)) (k o268 (l o427))) (N (b7 P) (k (o227 P) (l o389)) (l o309)))) (N o39 (N (b7 P) (N (b7 P) (k o176 (l (b7 P))) (k o209 (l o417))) (N o136 (k o216 (l o378)) (l (b7 P)))) (N o76 (N (b7 P) (k (b8 P) (l (b7 P))) (k o280 (l (b8 P)))) (N (b7 P) (k o236 (l (b7 P))) (l o320))))) (N o24 (N (b7 P) (N o53 (N (o89 P) (k (b7 P) (l o336)) (k o252 (l (b7 P)))) (N o131 (k o211 (l (b7 P))) (k o293 (l o448)))) (N o71 (N o111 (k (b7 P) (l o355)) (k o275 (l (b7 P)))) (N o151 (k (b7 P) (l o394)) (l (o315 P))))) (N (b7 P) (N (b7 P) (N o98 (k o181 (l o345)) (k (b8 P) (l o422))) (N (o142 P) (k o221 (l (b7 P))) (l o303))) (N (b7 P) (N (o121 P) (k o199 (l o16)) (k (b7 P) (l o440))) (N (b8 P) (k o209 (l (b8 P))) (l o325))))))) (N (b5 P) (N (b9 P) (N (o17 P) (N o27 (N o16 (N o84 (k (b7 P) (l o331)) (k o247 (l (b7 P)))) (N (o125 P) (k (o203 P) (l (b7 P))) (k o288 (l (b8 P))))) (N o65 (N o103 (k o184 (l (b7 P))) (k (b7 P) (l o425))) (N (b8 P) (k o209 (l (o387 P))) (l (b7 P))))) (N o37 (N o55 (N (b8 P) (k o175 (l (b8 P))) (k o258 (l o416))) (N o134 (k (b7 P) (l o376)) (l o16))) (N o74 (N o114 (k o194 (l o358)) (k o278 (l o435))) (N o157 (k o235 (l o398)) (l (o319 P)))))) (N o22 (N o16 (N o51 (N (b7 P) (k (b8 P) (l (b7 P))) (k (b7 P) (l (b8 P)))) (N (b7 P) (k (o210 P) (l (b8 P))) (k (b7 P) (l o447)))) (N (b7 P) (N o109 (k o189 (l o353)) (k (o273 P) (l o430))) (N o150 (k (b8 P) (l o393)) (l o313)))) (N o41 (N (b8 P) (N o97 (k (b7 P) (l o344)) (k o263 (l (b7 P)))) (N o107 (k o219 (l o381)) (l o301))) (N o79 (N o119 (k (b7 P) (l o363)) (k o283 (l (b7 P)))) (N o162 (k o242 (l o403)) (l (b7 P))))))) (N o11 (N o19 (N o30 (N o48 (N (b7 P) (k o168 (l (b7 P))) (k (b7 P) (l o409))) (N o128 (k o207 (l o369)) (k (b7 P) (l o445)))) (N o68 (N o107 (k (b8 P) (l (b7 P))) (k o269 (l (b8 P)))) (N o148 (k o228 (l o391)) (l (b7 P))))) (N o16 (N o58 (N o95 (k o178 (l o342)) (k (o260 P) (l o419))) (N (o138 P) (k (b7 P) (l (b8 P))) (l o298))) (N (b8 P) (N o116 (k (b7 P) (l o360)) (k (b8 P) (l (b7 P)))) (N o159 (k o238 (l o400)) (l o322))))) (N o16 (N o34 (N o16 (N o90 (k o173 (l o337)) (k o254 (l o414))) (N (b7 P) (k o213 (l o374)) (k o294 (l o450)))) (N (b7 P) (N (b8 P) (k (o191 P) (l (b8 P))) (k (b7 P) (l o432))) (N o153 (k o233 (l o396)) (l o317)))) (N o44 (N o63 (N o100 (k (b7 P) (l o347)) (k (b7 P) (l (b7 P)))) (N o143 (k (o223 P) (l o383)) (l o305))) (N o81 (N o123 (k o200 (l (b7 P))) (k o285 (l o441))) (N (b7 P) (k (o244 P) (l (b7 P))) (l o327)))))))) (N (b2 P) (N (b4 P) (N (b8 P) (N o16 (N (b8 P) (N o25 (N o83 (k o166 (l o330)) (k o246 (l o407))) (N o16 (k (b7 P) (l o367)) (k o287 (l (b7 P))))) (N (b8 P) (N o102 (k (b7 P) (l o348)) (k o267 (l (b7 P)))) (N (b7 P) (k o226 (l o386)) (l (o307 P))))) (N (o36 P) (N (b8 P) (N (b7 P) (k (b8 P) (l (b7 P))) (k o257 (l (b8 P)))) (N (b7 P) (k o214 (l (b8 P))) (l (b7 P)))) (N (b7 P) (N o113 (k o193 (l o357)) (k (b7 P) (l o434))) (N o156 (k (b8 P) (l o397)) (l o16))))) (N o21 (N o25 (N (o50 P) (N o88 (k (b7 P) (l o335)) (k o251 (l (b7 P)))) (N o129 (k o16 (l (b7 P))) (k o292 (l (b8 P))))) (N o69 (N (b7 P) (k o188 (l (b7 P))) (k o272 (l o429))) (N (b8 P) (k (b7 P) (l (b8 P))) (l o312)))) (N (b8 P) (N (b7 P) (N (b8 P) (k o179 (l (b8 P))) (k o262 (l o420))) (N o141 (k (b7 P) (l o380)) (l (o300 P)))) (N o78 (N o118 (k o198 (l o362)) (k o282 (l o439))) (N o161 (k o241 (l o402)) (l o323)))))) (N o14 (N o18 (N (o29 P) (N (b8 P) (N o85 (k (b7 P) (l o332)) (k o248 (l (b7 P)))) (N o127 (k o206 (l (b7 P))) (k o289 (l o444)))) (N o67 (N o106 (k (b7 P) (l o351)) (k (b7 P) (l (b7 P)))) (N o147 (k (b7 P) (l o390)) (l o310)))) (N o25 (N (o57 P) (N o94 (k o177 (l o341)) (k o16 (l o418))) (N o137 (k o217 (l (b7 P))) (l (b8 P)))) (N (b7 P) (N (b8 P) (k o195 (l (b8 P))) (k (b7 P) (l o436))) (N (b8 P) (k o237 (l (b8 P))) (l o321))))) (N o25 (N (b8 P) (N o25 (N (b7 P) (k o172 (l (b7 P))) (k o253 (l o413))) (N o132 (k o212 (l o373)) (k (b7 P) (l o449)))) (N o72 (N (b7 P) (k o16 (l (b7 P))) (k o276 (l (b8 P)))) (N o152 (k o232 (l o395)) (l o316)))) (N (o43 P) (N o62 (N o99 (k o182 (l o346)) (k o264 (l o423))) (N (b7 P) (k o222 (l (b8 P))) (l o304))) (N (b8 P) (N o122 (k (b7 P) (l (o364 P))) (k (b8 P) (l (b7 P)))) (N o163 (k o16 (l o404)) (l o326))))))) (N (b6 P) (N (b10 P) (N (b7 P) (N o28 (N (o47 P) (N (b7 P) (k (b8 P) (l (b7 P))) (k (b7 P) (l (b8 P)))) (N (b7 P) (k o204 (l (b8 P))) (k (b7 P) (l (b7 P))))) (N (b7 P) (N o104 (k o185 (l o349)) (k (b8 P) (l o426))) (N o146 (k o16 (l o388)) (l o308)))) (N o38 (N o56 (N o93 (k (b7 P) (l o340)) (k o259 (l (b7 P)))) (N o135 (k o215 (l o377)) (l (o297 P)))) (N o75 (N o115 (k (b7 P) (l o359)) (k o279 (l (b7 P)))) (N o158 (k (b7 P) (l o399)) (l (b7 P)))))) (N o23 (N (o33 P) (N o52 (N o16 (k o171 (l (b8 P))) (k (b8 P) (l o412))) (N o130 (k (b7 P) (l o372)) (k (b8 P) (l (b7 P))))) (N o70 (N o110 (k o190 (l o354)) (k o274 (l o431))) (N (b7 P) (k o231 (l (b7 P))) (l o314)))) (N o42 (N o61 (N (b7 P) (k o180 (l (b7 P))) (k (b7 P) (l o421))) (N o16 (k o220 (l o382)) (l o302))) (N o80 (N o120 (k (b8 P) (l (b7 P))) (k o284 (l (b8 P)))) (N (b7 P) (k o243 (l (b7 P))) (l o324)))))) (N o12 (N (b7 P) (N o31 (N o49 (N o86 (k o169 (l o333)) (k o249 (l o410))) (N (b7 P) (k o208 (l o370)) (k o290 (l o446)))) (N (b7 P) (N o16 (k o187 (l (b8 P))) (k o270 (l o428))) (N o149 (k o229 (l o392)) (l (b8 P))))) (N (o40 P) (N o59 (N o96 (k (b7 P) (l o343)) (k (b7 P) (l (b7 P)))) (N o139 (k (b8 P) (l o379)) (l o299))) (N o77 (N (b7 P) (k o196 (l (b7 P))) (k o281 (l o437))) (N (b7 P) (k o239 (l (b7 P))) (l (b7 P)))))) (N (o26 P) (N o35 (N (o54 P) (N o91 (k o174 (l o338)) (k o255 (l o415))) (N (b8 P) (k (b7 P) (l o375)) (l o295))) (N (b8 P) (N o112 (k (b7 P) (l o356)) (k (b8 P) (l (b7 P)))) (N o154 (k o234 (l (b7 P))) (l o318)))) (N o45 (N o64 (N (b7 P) (k (b8 P) (l (b7 P))) (k o265 (l (b8 P)))) (N o144 (k o224 (l o384)) (l o306))) (N (b7 P) (N o124 (k o201 (l o365)) (k (b7 P) (l o442))) (N o164 (k (b7 P) (l o405)) (l (o328 P))))))))))
def sC0 (w : World) (os : OsState) : SharedT := ⟨tC0 w.params, 718, lifeF, Array.mk [], drawnF, 1162, os⟩
def hF (P : Params) : Heap := ⟨Array.mk (b0 P :: b1 P :: b2 P :: o13 P :: b4 P :: b5 P :: b6 P :: b7 P :: b8 P :: b9 P :: b10 P :: b7 P :: o14 :: o11 :: o12 :: o15 :: o16 :: o17 P :: b7 P :: b8 P :: o18 :: o19 :: b7 P :: o20 P :: o21 :: o22 :: o23 :: o24 :: o25 :: o16 :: o26 P :: b7 P :: b8 P :: o27 :: o28 :: b7 P :: o29 P :: o30 :: o31 :: o32 :: o25 :: o16 :: o33 P :: b7 P :: b8 P :: o34 :: o35 :: b7 P :: o36 P :: o37 :: o38 :: o39 :: o25 :: o16 :: o40 P :: b7 P :: b8 P :: o41 :: o42 :: b7 P :: o43 P :: o44 :: o45 :: o46 :: o25 :: o16 :: o47 P :: b7 P :: b8 P :: o48 :: o49 :: b7 P :: o50 P :: o51 :: o52 :: o53 :: o25 :: o16 :: o54 P :: b7 P :: b8 P :: o55 :: o56 :: b7 P :: o57 P :: o58 :: o59 :: o60 :: b7 P :: b8 P :: o61 :: b7 P :: o62 :: o63 :: o64 :: b7 P :: b8 P :: o65 :: b7 P :: o66 :: o67 :: o68 :: b7 P :: b8 P :: o69 :: b7 P :: o70 :: o71 :: o72 :: b7 P :: b8 P :: o73 :: b7 P :: o74 :: o75 :: o76 :: b7 P :: b8 P :: o77 :: b7 P :: o78 :: o79 :: o80 :: b7 P :: b8 P :: o81 :: b7 P :: o82 :: o83 :: o84 :: b7 P :: b8 P :: o85 :: b7 P :: o86 :: o87 :: o88 :: b7 P :: o16 :: o89 P :: b7 P :: o90 :: o91 :: o92 :: b7 P :: b8 P :: o93 :: b7 P :: o94 :: o95 :: o96 :: b7 P :: b8 P :: o97 :: b7 P :: o98 :: o99 :: o100 :: b7 P :: o101 P :: o102 :: o103 :: o104 :: o105 :: o106 :: o107 :: o16 :: o108 P :: b7 P :: o109 :: o110 :: o111 :: b7 P :: b8 P :: o112 :: b7 P :: o113 :: o114 :: o115 :: b7 P :: b8 P :: o116 :: b7 P :: o117 :: o118 :: o119 :: o120 :: o121 P :: o122 :: o123 :: o124 :: o107 :: o16 :: o125 P :: b7 P :: o126 :: o127 :: o128 :: b7 P :: b8 P :: o129 :: b7 P :: o130 :: o131 :: o132 :: b7 P :: b8 P :: o133 :: b7 P :: o134 :: o135 :: o136 :: o137 :: o138 P :: o139 :: o140 :: o141 :: o107 :: o16 :: o142 P :: b7 P :: o143 :: o144 :: o145 :: b7 P :: b8 P :: o146 :: b7 P :: o147 :: o148 :: o149 :: b7 P :: b8 P :: o150 :: b7 P :: o151 :: o152 :: o153 :: o154 :: o155 P :: o156 :: o157 :: o158 :: b7 P :: b8 P :: o159 :: b7 P :: o160 :: o161 :: o162 :: b7 P :: b8 P :: o163 :: b7 P :: o164 :: o165 :: o166 :: b7 P :: b8 P :: o167 :: b7 P :: o168 :: o169 :: o170 :: b7 P :: b8 P :: o171 :: b7 P :: o172 :: o173 :: o174 :: b7 P :: b8 P :: o175 :: b7 P :: o176 :: o177 :: o178 :: b7 P :: b8 P :: o179 :: b7 P :: o180 :: o181 :: o182 :: b7 P :: b8 P :: o183 :: b7 P :: o184 :: o185 :: o186 :: b7 P :: b8 P :: o187 :: b7 P :: o188 :: o189 :: o190 :: b7 P :: o16 :: o191 P :: b7 P :: o192 :: o193 :: o194 :: b7 P :: b8 P :: o195 :: b7 P :: o196 :: o197 :: o198 :: b7 P :: b8 P :: o199 :: b7 P :: o200 :: o201 :: o202 :: b7 P :: o203 P :: o204 :: o205 :: o206 :: o207 :: o208 :: o209 :: o16 :: o210 P :: b7 P :: o211 :: o212 :: o213 :: b7 P :: b8 P :: o214 :: b7 P :: o215 :: o216 :: o217 :: b7 P :: b8 P :: o218 :: b7 P :: o219 :: o220 :: o221 :: o222 :: o223 P :: o224 :: o225 :: o226 :: o209 :: o16 :: o227 P :: b7 P :: o228 :: o229 :: o230 :: b7 P :: b8 P :: o231 :: b7 P :: o232 :: o233 :: o234 :: b7 P :: b8 P :: o235 :: b7 P :: o236 :: o237 :: o238 :: o239 :: o240 P :: o241 :: o242 :: o243 :: o209 :: o16 :: o244 P :: b7 P :: o245 :: o246 :: o247 :: b7 P :: b8 P :: o248 :: b7 P :: o249 :: o250 :: o251 :: b7 P :: b8 P :: o252 :: o253 :: o254 :: o255 :: o256 P :: o257 :: o258 :: o259 :: o209 :: o16 :: o260 P :: b7 P :: o261 :: o262 :: o263 :: b7 P :: b8 P :: o264 :: b7 P :: o265 :: o266 :: o267 :: b7 P :: b8 P :: o268 :: b7 P :: o269 :: o270 :: o271 :: o272 :: o273 P :: o274 :: o275 :: o276 :: b7 P :: b8 P :: o277 :: b7 P :: o278 :: o279 :: o280 :: b7 P :: b8 P :: o281 :: b7 P :: o282 :: o283 :: o284 :: b7 P :: b8 P :: o285 :: b7 P :: o286 :: o287 :: o288 :: b7 P :: b8 P :: o289 :: b7 P :: o290 :: o291 :: o292 :: b7 P :: b8 P :: o293 :: b7 P :: o294 :: o295 :: o296 :: b7 P :: o16 :: o297 P :: b7 P :: b8 P :: o298 :: o299 :: b7 P :: o300 P :: o301 :: o302 :: o303 :: o304 :: o305 :: o306 :: o16 :: o307 P :: b7 P :: o308 :: o309 :: o310 :: b7 P :: b8 P :: o311 :: o312 :: o313 :: o314 :: o315 P :: o316 :: o317 :: o318 :: o306 :: o16 :: o319 P :: b7 P :: o320 :: o321 :: o322 :: b7 P :: b8 P :: o323 :: b7 P :: o324 :: o325 :: o326 :: o327 :: o328 P :: o329 :: o330 :: o331 :: b7 P :: b8 P :: o332 :: b7 P :: o333 :: o334 :: o335 :: b7 P :: b8 P :: o336 :: b7 P :: o337 :: o338 :: o339 :: b7 P :: b8 P :: o340 :: b7 P :: o341 :: o342 :: o343 :: b7 P :: b8 P :: o344 :: b7 P :: o345 :: o346 :: o347 :: b7 P :: b8 P :: o348 :: b7 P :: o349 :: o350 :: o351 :: b7 P :: b8 P :: o352 :: b7 P :: o353 :: o354 :: o355 :: b7 P :: b8 P :: o356 :: b7 P :: o357 :: o358 :: o359 :: b7 P :: b8 P :: o360 :: b7 P :: o361 :: o362 :: o363 :: b7 P :: o16 :: o364 P :: b7 P :: o365 :: o366 :: o367 :: b7 P :: b8 P :: o368 :: b7 P :: o369 :: o370 :: o371 :: b7 P :: b8 P :: o372 :: b7 P :: o373 :: o374 :: o375 :: b7 P :: b8 P :: o376 :: o377 :: o378 :: b7 P :: b8 P :: o379 :: b7 P :: o380 :: o381 :: o382 :: b7 P :: b8 P :: o383 :: o384 :: o385 :: o386 :: o387 P :: o388 :: o389 :: o390 :: o391 :: o392 :: b7 P :: b8 P :: o393 :: b7 P :: o394 :: o395 :: o396 :: b7 P :: b8 P :: o397 :: o398 :: o399 :: b7 P :: b8 P :: o400 :: b7 P :: o401 :: o402 :: o403 :: b7 P :: b8 P :: o404 :: b7 P :: o405 :: o406 :: o407 :: b7 P :: b8 P :: o408 :: b7 P :: o409 :: o410 :: o411 :: b7 P :: b8 P :: o412 :: b7 P :: o413 :: o414 :: o415 :: b7 P :: b8 P :: o416 :: b7 P :: o417 :: o418 :: o419 :: b7 P :: b8 P :: o420 :: b7 P :: o421 :: o422 :: o423 :: b7 P :: b8 P :: o424 :: b7 P :: o425 :: o426 :: o427 :: b7 P :: b8 P :: o428 :: b7 P :: o429 :: o430 :: o431 :: b7 P :: b8 P :: o432 :: b7 P :: o433 :: o434 :: o435 :: b7 P :: b8 P :: o436 :: b7 P :: o437 :: o438 :: o439 :: b7 P :: b8 P :: o440 :: b7 P :: o441 :: o442 :: o443 :: b7 P :: b8 P :: b7 P :: b7 P :: o444 :: o445 :: o446 :: b7 P :: b8 P :: o447 :: b7 P :: o448 :: o449 :: o450 :: []), lifeF⟩
def sF (w : World) (os : OsState) : Shared := ⟨hF w.params, Array.mk [], drawnF, 1162, os⟩
def KK (P : Params) : Frag := (nat_lit 2, b2 P) :: (nat_lit 3, o13 P) :: (nat_lit 15, o15) :: (nat_lit 22, b7 P) :: (nat_lit 23, o20 P) :: (nat_lit 24, o21) :: (nat_lit 25, o22) :: (nat_lit 28, o25) :: (nat_lit 35, b7 P) :: (nat_lit 36, o29 P) :: (nat_lit 37, o30) :: (nat_lit 40, o25) :: (nat_lit 47, b7 P) :: (nat_lit 48, o36 P) :: (nat_lit 49, o37) :: (nat_lit 52, o25) :: (nat_lit 59, b7 P) :: (nat_lit 60, o43 P) :: (nat_lit 61, o44) :: (nat_lit 64, o25) :: (nat_lit 71, b7 P) :: (nat_lit 72, o50 P) :: (nat_lit 73, o51) :: (nat_lit 76, o25) :: (nat_lit 83, b7 P) :: (nat_lit 84, o57 P) :: (nat_lit 85, o58) :: (nat_lit 88, b7 P) :: (nat_lit 90, o61) :: (nat_lit 91, b7 P) :: (nat_lit 93, o63) :: (nat_lit 94, o64) :: (nat_lit 95, b7 P) :: (nat_lit 97, o65) :: (nat_lit 98, b7 P) :: (nat_lit 100, o67) :: (nat_lit 101, o68) :: (nat_lit 102, b7 P) :: (nat_lit 104, o69) :: (nat_lit 105, b7 P) :: (nat_lit 107, o71) :: (nat_lit 108, o72) :: (nat_lit 109, b7 P) :: (nat_lit 111, o73) :: (nat_lit 112, b7 P) :: (nat_lit 114, o75) :: (nat_lit 115, o76) :: (nat_lit 116, b7 P) :: (nat_lit 118, o77) :: (nat_lit 119, b7 P) :: (nat_lit 121, o79) :: (nat_lit 122, o80) :: (nat_lit 123, b7 P) :: (nat_lit 125, o81) :: (nat_lit 126, b7 P) :: (nat_lit 128, o83) :: (nat_lit 129, o84) :: (nat_lit 130, b7 P) :: (nat_lit 132, o85) :: (nat_lit 133, b7 P) :: (nat_lit 135, o87) :: (nat_lit 136, o88) :: (nat_lit 144, b7 P) :: (nat_lit 146, o93) :: (nat_lit 147, b7 P) :: (nat_lit 149, o95) :: (nat_lit 150, o96) :: (nat_lit 151, b7 P) :: (nat_lit 153, o97) :: (nat_lit 154, b7 P) :: (nat_lit 156, o99) :: (nat_lit 157, o100) :: (nat_lit 158, b7 P) :: (nat_lit 159, o101 P) :: (nat_lit 160, o102) :: (nat_lit 161, o103) :: (nat_lit 162, o104) :: (nat_lit 165, o107) :: (nat_lit 172, b7 P) :: (nat_lit 174, o112) :: (nat_lit 175, b7 P) :: (nat_lit 177, o114) :: (nat_lit 178, o115) :: (nat_lit 179, b7 P) :: (nat_lit 181, o116) :: (nat_lit 182, b7 P) :: (nat_lit 184, o118) :: (nat_lit 185, o119) :: (nat_lit 186, o120) :: (nat_lit 187, o121 P) :: (nat_lit 188, o122) :: (nat_lit 191, o107) :: (nat_lit 198, b7 P) :: (nat_lit 200, o129) :: (nat_lit 201, b7 P) :: (nat_lit 203, o131) :: (nat_lit 204, o132) :: (nat_lit 205, b7 P) :: (nat_lit 207, o133) :: (nat_lit 208, b7 P) :: (nat_lit 210, o135) :: (nat_lit 211, o136) :: (nat_lit 212, o137) :: (nat_lit 213, o138 P) :: (nat_lit 214, o139) :: (nat_lit 217, o107) :: (nat_lit 224, b7 P) :: (nat_lit 226, o146) :: (nat_lit 227, b7 P) :: (nat_lit 229, o148) :: (nat_lit 230, o149) :: (nat_lit 231, b7 P) :: (nat_lit 233, o150) :: (nat_lit 234, b7 P) :: (nat_lit 236, o152) :: (nat_lit 237, o153) :: (nat_lit 238, o154) :: (nat_lit 239, o155 P) :: (nat_lit 240, o156) :: (nat_lit 243, b7 P) :: (nat_lit 245, o159) :: (nat_lit 246, b7 P) :: (nat_lit 248, o161) :: (nat_lit 249, o162) :: (nat_lit 250, b7 P) :: (nat_lit 252, o163) :: (nat_lit 253, b7 P) :: (nat_lit 255, o165) :: (nat_lit 256, o166) :: (nat_lit 257, b7 P) :: (nat_lit 259, o167) :: (nat_lit 260, b7 P) :: (nat_lit 262, o169) :: (nat_lit 263, o170) :: (nat_lit 264, b7 P) :: (nat_lit 266, o171) :: (nat_lit 267, b7 P) :: (nat_lit 269, o173) :: (nat_lit 270, o174) :: (nat_lit 271, b7 P) :: (nat_lit 273, o175) :: (nat_lit 274, b7 P) :: (nat_lit 276, o177) :: (nat_lit 277, o178) :: (nat_lit 278, b7 P) :: (nat_lit 280, o179) :: (nat_lit 281, b7 P) :: (nat_lit 283, o181) :: (nat_lit 284, o182) :: (nat_lit 285, b7 P) :: (nat_lit 287, o183) :: (nat_lit 288, b7 P) :: (nat_lit 290, o185) :: (nat_lit 291, o186) :: (nat_lit 292, b7 P) :: (nat_lit 294, o187) :: (nat_lit 295, b7 P) :: (nat_lit 297, o189) :: (nat_lit 298, o190) :: (nat_lit 306, b7 P) :: (nat_lit 308, o195) :: (nat_lit 309, b7 P) :: (nat_lit 311, o197) :: (nat_lit 312, o198) :: (nat_lit 313, b7 P) :: (nat_lit 315, o199) :: (nat_lit 316, b7 P) :: (nat_lit 318, o201) :: (nat_lit 319, o202) :: (nat_lit 320, b7 P) :: (nat_lit 321, o203 P) :: (nat_lit 322, o204) :: (nat_lit 323, o205) :: (nat_lit 324, o206) :: (nat_lit 327, o209) :: (nat_lit 334, b7 P) :: (nat_lit 336, o214) :: (nat_lit 337, b7 P) :: (nat_lit 339, o216) :: (nat_lit 340, o217) :: (nat_lit 341, b7 P) :: (nat_lit 343, o218) :: (nat_lit 344, b7 P) :: (nat_lit 346, o220) :: (nat_lit 347, o221) :: (nat_lit 348, o222) :: (nat_lit 349, o223 P) :: (nat_lit 350, o224) :: (nat_lit 353, o209) :: (nat_lit 360, b7 P) :: (nat_lit 362, o231) :: (nat_lit 363, b7 P) :: (nat_lit 365, o233) :: (nat_lit 366, o234) :: (nat_lit 367, b7 P) :: (nat_lit 369, o235) :: (nat_lit 370, b7 P) :: (nat_lit 372, o237) :: (nat_lit 373, o238) :: (nat_lit 374, o239) :: (nat_lit 375, o240 P) :: (nat_lit 376, o241) :: (nat_lit 379, o209) :: (nat_lit 386, b7 P) :: (nat_lit 388, o248) :: (nat_lit 389, b7 P) :: (nat_lit 391, o250) :: (nat_lit 392, o251) :: (nat_lit 393, b7 P) :: (nat_lit 396, o253) :: (nat_lit 397, o254) :: (nat_lit 398, o255) :: (nat_lit 399, o256 P) :: (nat_lit 400, o257) :: (nat_lit 403, o209) :: (nat_lit 410, b7 P) :: (nat_lit 412, o264) :: (nat_lit 413, b7 P) :: (nat_lit 415, o266) :: (nat_lit 416, o267) :: (nat_lit 417, b7 P) :: (nat_lit 419, o268) :: (nat_lit 420, b7 P) :: (nat_lit 422, o270) :: (nat_lit 423, o271) :: (nat_lit 424, o272) :: (nat_lit 425, o273 P) :: (nat_lit 426, o274) :: (nat_lit 429, b7 P) :: (nat_lit 431, o277) :: (nat_lit 432, b7 P) :: (nat_lit 434, o279) :: (nat_lit 435, o280) :: (nat_lit 436, b7 P) :: (nat_lit 438, o281) :: (nat_lit 439, b7 P) :: (nat_lit 441, o283) :: (nat_lit 442, o284) :: (nat_lit 443, b7 P) :: (nat_lit 445, o285) :: (nat_lit 446, b7 P) :: (nat_lit 448, o287) :: (nat_lit 449, o288) :: (nat_lit 450, b7 P) :: (nat_lit 452, o289) :: (nat_lit 453, b7 P) :: (nat_lit 455, o291) :: (nat_lit 456, o292) :: (nat_lit 457, b7 P) :: (nat_lit 459, o293) :: (nat_lit 460, b7 P) :: (nat_lit 462, o295) :: (nat_lit 463, o296) :: (nat_lit 471, b7 P) :: (nat_lit 472, o300 P) :: (nat_lit 473, o301) :: (nat_lit 474, o302) :: (nat_lit 475, o303) :: (nat_lit 478, o306) :: (nat_lit 485, b7 P) :: (nat_lit 488, o312) :: (nat_lit 489, o313) :: (nat_lit 490, o314) :: (nat_lit 491, o315 P) :: (nat_lit 492, o316) :: (nat_lit 495, o306) :: (nat_lit 502, b7 P) :: (nat_lit 504, o323) :: (nat_lit 505, b7 P) :: (nat_lit 507, o325) :: (nat_lit 508, o326) :: (nat_lit 509, o327) :: (nat_lit 510, o328 P) :: (nat_lit 511, o329) :: (nat_lit 514, b7 P) :: (nat_lit 516, o332) :: (nat_lit 517, b7 P) :: (nat_lit 519, o334) :: (nat_lit 520, o335) :: (nat_lit 521, b7 P) :: (nat_lit 523, o336) :: (nat_lit 524, b7 P) :: (nat_lit 526, o338) :: (nat_lit 527, o339) :: (nat_lit 528, b7 P) :: (nat_lit 530, o340) :: (nat_lit 531, b7 P) :: (nat_lit 533, o342) :: (nat_lit 534, o343) :: (nat_lit 535, b7 P) :: (nat_lit 537, o344) :: (nat_lit 538, b7 P) :: (nat_lit 540, o346) :: (nat_lit 541, o347) :: (nat_lit 542, b7 P) :: (nat_lit 544, o348) :: (nat_lit 545, b7 P) :: (nat_lit 547, o350) :: (nat_lit 548, o351) :: (nat_lit 549, b7 P) :: (nat_lit 551, o352) :: (nat_lit 552, b7 P) :: (nat_lit 554, o354) :: (nat_lit 555, o355) :: (nat_lit 556, b7 P) :: (nat_lit 558, o356) :: (nat_lit 559, b7 P) :: (nat_lit 561, o358) :: (nat_lit 562, o359) :: (nat_lit 563, b7 P) :: (nat_lit 565, o360) :: (nat_lit 566, b7 P) :: (nat_lit 568, o362) :: (nat_lit 569, o363) :: (nat_lit 577, b7 P) :: (nat_lit 579, o368) :: (nat_lit 580, b7 P) :: (nat_lit 582, o370) :: (nat_lit 583, o371) :: (nat_lit 584, b7 P) :: (nat_lit 586, o372) :: (nat_lit 587, b7 P) :: (nat_lit 589, o374) :: (nat_lit 590, o375) :: (nat_lit 591, b7 P) :: (nat_lit 594, o377) :: (nat_lit 595, o378) :: (nat_lit 596, b7 P) :: (nat_lit 598, o379) :: (nat_lit 599, b7 P) :: (nat_lit 601, o381) :: (nat_lit 602, o382) :: (nat_lit 603, b7 P) :: (nat_lit 606, o384) :: (nat_lit 607, o385) :: (nat_lit 608, o386) :: (nat_lit 609, o387 P) :: (nat_lit 610, o388) :: (nat_lit 611, o389) :: (nat_lit 612, o390) :: (nat_lit 615, b7 P) :: (nat_lit 617, o393) :: (nat_lit 618, b7 P) :: (nat_lit 620, o395) :: (nat_lit 621, o396) :: (nat_lit 622, b7 P) :: (nat_lit 625, o398) :: (nat_lit 626, o399) :: (nat_lit 627, b7 P) :: (nat_lit 629, o400) :: (nat_lit 630, b7 P) :: (nat_lit 632, o402) :: (nat_lit 633, o403) :: (nat_lit 634, b7 P) :: (nat_lit 636, o404) :: (nat_lit 637, b7 P) :: (nat_lit 639, o406) :: (nat_lit 640, o407) :: (nat_lit 641, b7 P) :: (nat_lit 643, o408) :: (nat_lit 644, b7 P) :: (nat_lit 646, o410) :: (nat_lit 647, o411) :: (nat_lit 648, b7 P) :: (nat_lit 650, o412) :: (nat_lit 651, b7 P) :: (nat_lit 653, o414) :: (nat_lit 654, o415) :: (nat_lit 655, b7 P) :: (nat_lit 657, o416) :: (nat_lit 658, b7 P) :: (nat_lit 660, o418) :: (nat_lit 661, o419) :: (nat_lit 662, b7 P) :: (nat_lit 664, o420) :: (nat_lit 665, b7 P) :: (nat_lit 667, o422) :: (nat_lit 668, o423) :: (nat_lit 669, b7 P) :: (nat_lit 671, o424) :: (nat_lit 672, b7 P) :: (nat_lit 674, o426) :: (nat_lit 675, o427) :: (nat_lit 676, b7 P) :: (nat_lit 678, o428) :: (nat_lit 679, b7 P) :: (nat_lit 681, o430) :: (nat_lit 682, o431) :: (nat_lit 683, b7 P) :: (nat_lit 685, o432) :: (nat_lit 686, b7 P) :: (nat_lit 688, o434) :: (nat_lit 689, o435) :: (nat_lit 690, b7 P) :: (nat_lit 692, o436) :: (nat_lit 693, b7 P) :: (nat_lit 695, o438) :: (nat_lit 696, o439) :: (nat_lit 697, b7 P) :: (nat_lit 699, o440) :: (nat_lit 700, b7 P) :: (nat_lit 702, o442) :: (nat_lit 703, o443) :: (nat_lit 704, b7 P) :: (nat_lit 706, b7 P) :: (nat_lit 707, b7 P) :: (nat_lit 709, o445) :: (nat_lit 710, o446) :: (nat_lit 711, b7 P) :: (nat_lit 713, o447) :: (nat_lit 714, b7 P) :: (nat_lit 716, o449) :: (nat_lit 717, o450) :: []
def keysK : List Addr := 2 :: 3 :: 15 :: 22 :: 23 :: 24 :: 25 :: 28 :: 35 :: 36 :: 37 :: 40 :: 47 :: 48 :: 49 :: 52 :: 59 :: 60 :: 61 :: 64 :: 71 :: 72 :: 73 :: 76 :: 83 :: 84 :: 85 :: 88 :: 90 :: 91 :: 93 :: 94 :: 95 :: 97 :: 98 :: 100 :: 101 :: 102 :: 104 :: 105 :: 107 :: 108 :: 109 :: 111 :: 112 :: 114 :: 115 :: 116 :: 118 :: 119 :: 121 :: 122 :: 123 :: 125 :: 126 :: 128 :: 129 :: 130 :: 132 :: 133 :: 135 :: 136 :: 144 :: 146 :: 147 :: 149 :: 150 :: 151 :: 153 :: 154 :: 156 :: 157 :: 158 :: 159 :: 160 :: 161 :: 162 :: 165 :: 172 :: 174 :: 175 :: 177 :: 178 :: 179 :: 181 :: 182 :: 184 :: 185 :: 186 :: 187 :: 188 :: 191 :: 198 :: 200 :: 201 :: 203 :: 204 :: 205 :: 207 :: 208 :: 210 :: 211 :: 212 :: 213 :: 214 :: 217 :: 224 :: 226 :: 227 :: 229 :: 230 :: 231 :: 233 :: 234 :: 236 :: 237 :: 238 :: 239 :: 240 :: 243 :: 245 :: 246 :: 248 :: 249 :: 250 :: 252 :: 253 :: 255 :: 256 :: 257 :: 259 :: 260 :: 262 :: 263 :: 264 :: 266 :: 267 :: 269 :: 270 :: 271 :: 273 :: 274 :: 276 :: 277 :: 278 :: 280 :: 281 :: 283 :: 284 :: 285 :: 287 :: 288 :: 290 :: 291 :: 292 :: 294 :: 295 :: 297 :: 298 :: 306 :: 308 :: 309 :: 311 :: 312 :: 313 :: 315 :: 316 :: 318 :: 319 :: 320 :: 321 :: 322 :: 323 :: 324 :: 327 :: 334 :: 336 :: 337 :: 339 :: 340 :: 341 :: 343 :: 344 :: 346 :: 347 :: 348 :: 349 :: 350 :: 353 :: 360 :: 362 :: 363 :: 365 :: 366 :: 367 :: 369 :: 370 :: 372 :: 373 :: 374 :: 375 :: 376 :: 379 :: 386 :: 388 :: 389 :: 391 :: 392 :: 393 :: 396 :: 397 :: 398 :: 399 :: 400 :: 403 :: 410 :: 412 :: 413 :: 415 :: 416 :: 417 :: 419 :: 420 :: 422 :: 423 :: 424 :: 425 :: 426 :: 429 :: 431 :: 432 :: 434 :: 435 :: 436 :: 438 :: 439 :: 441 :: 442 :: 443 :: 445 :: 446 :: 448 :: 449 :: 450 :: 452 :: 453 :: 455 :: 456 :: 457 :: 459 :: 460 :: 462 :: 463 :: 471 :: 472 :: 473 :: 474 :: 475 :: 478 :: 485 :: 488 :: 489 :: 490 :: 491 :: 492 :: 495 :: 502 :: 504 :: 505 :: 507 :: 508 :: 509 :: 510 :: 511 :: 514 :: 516 :: 517 :: 519 :: 520 :: 521 :: 523 :: 524 :: 526 :: 527 :: 528 :: 530 :: 531 :: 533 :: 534 :: 535 :: 537 :: 538 :: 540 :: 541 :: 542 :: 544 :: 545 :: 547 :: 548 :: 549 :: 551 :: 552 :: 554 :: 555 :: 556 :: 558 :: 559 :: 561 :: 562 :: 563 :: 565 :: 566 :: 568 :: 569 :: 577 :: 579 :: 580 :: 582 :: 583 :: 584 :: 586 :: 587 :: 589 :: 590 :: 591 :: 594 :: 595 :: 596 :: 598 :: 599 :: 601 :: 602 :: 603 :: 606 :: 607 :: 608 :: 609 :: 610 :: 611 :: 612 :: 615 :: 617 :: 618 :: 620 :: 621 :: 622 :: 625 :: 626 :: 627 :: 629 :: 630 :: 632 :: 633 :: 634 :: 636 :: 637 :: 639 :: 640 :: 641 :: 643 :: 644 :: 646 :: 647 :: 648 :: 650 :: 651 :: 653 :: 654 :: 655 :: 657 :: 658 :: 660 :: 661 :: 662 :: 664 :: 665 :: 667 :: 668 :: 669 :: 671 :: 672 :: 674 :: 675 :: 676 :: 678 :: 679 :: 681 :: 682 :: 683 :: 685 :: 686 :: 688 :: 689 :: 690 :: 692 :: 693 :: 695 :: 696 :: 697 :: 699 :: 700 :: 702 :: 703 :: 704 :: 706 :: 707 :: 709 :: 710 :: 711 :: 713 :: 714 :: 716 :: 717 :: []
def loose : List Str := "JugError" :: "BadHouse" :: "BadState" :: "BadMove" :: "BadGoal" :: "BadText" :: "MOST_JUGS" :: "MOST_SIZE" :: "is_number" :: "is_jug" :: "held_in" :: "check_jug" :: "check_jug_moves" :: "check_house_has" :: "check_house_has_moves" :: "check_house_can_tap" :: "with_amount" :: "Move" :: "Pour" :: "Fill" :: "Empty" :: "moves_in" :: "done_all" :: "MOST_AMOUNT" :: "check_jug_goals" :: "check_amount" :: "jugs_in" :: "amounts_in" :: "check_house_has_goals" :: "check_state_of" :: "Goal" :: "Holds" :: "Some" :: "Sum" :: "Whole" :: "check_goal" :: "ways_from" :: "reached" :: "measured" :: "tied" :: "Answer" :: "Poured" :: "Barred" :: "nearest" :: "moves_to" :: "heights_in" :: "fewest" :: "MOST_STATES" :: "sizes_in" :: "count_states" :: "pours_among" :: "with_one_more" :: "House" :: "move_text" :: "routine_text" :: "_law_cell_at" :: "_law_kinds" :: "_law_told" :: "_law_house" :: "_law_with_state" :: "_law_with_move" :: "_law_unfit" :: "_law_with_goal" :: "_law_goal_unfit" :: "_law_all" :: "_law_goals_right" :: "_law_good" :: []
def env : Env := { scope := pg.main.scope, locals := mainNs, globals := mainNs, cells := [], code := (r 13), frame := some 14 }
abbrev cE : Code := .body (behindTheImports pg) env
abbrev pos0 : Pos := (.mk 0 0 0 0)
abbrev posB : Pos := (.mk 0 0 0 0)
abbrev posQ : Pos := (.mk 0 0 0 0)
abbrev ann : Option Value := (some (r 6))
abbrev s0 (w : World) (os : OsState) : Shared := ⟨boot_heap w.params, Array.mk [], boot_drawn, boot_toks, os⟩
theorem pre_ (w : World) (os : OsState) : topGo treeTable pg w 11 ann 12 (s0 w os) (topStub pg) = some (sA w os, ⟨denote treeTable cE, cE, pos0, [topFrame posQ]⟩) := by
 rewrite [Fast.te15667345088766844465, Fast.te14364793385576792824, Fast.te11892475500146522536]
 kernel_rfl
theorem block_ (w : World) (os : OsState) : segRun treeTable pg w 11 ann 1 1 (sA w os) (blockOf (behindTheImports pg) env cE pos0 [topFrame posQ]) = some (.next, (sB w os).abs, cE, posB) := by
 rewrite [Fast.te14374325043358763698, Fast.te14364793385576792824]
 kernel_rfl
abbrev pos_0 : Pos := (.mk 431 0 454 66)
theorem run_0 (w : World) (os : OsState) : segRunT treeTable pg w 11 ann 1 6233 (sB w os) (piecesOf (behindTheImports pg) env cE posB [topFrame posQ]) = some (.next, sC0 w os, cE, pos_0) := by
 rewrite [Fast.te10110043849684766642, Fast.te14364793385576792824]
 kernel_rfl
theorem fin_ (w : World) (os : OsState) : topRun treeTable pg w 11 ann 2 (sC0 w os).abs ⟨doneF .next, cE, pos_0, [topFrame posQ]⟩ = some (sF w os) := by
 rewrite [Fast.te14082659384304107361, Fast.te14364793385576792824]
 kernel_rfl
theorem top_ (w : World) (os : OsState) : topRun treeTable pg w 11 ann (12 + (1 + (6233 + 2))) (s0 w os) (topStub pg) = some (sF w os) := by
 refine go_top (pre_ w os) (piece_block (block_ w os) ?_)
 have h := piece_app (segRun_of (run_0 w os)) (piece_nil (fin_ w os))
 rwa [List.append_nil] at h
def qq : Program := { pg with main := { pg.main with body := [st 78] } }
theorem keys_ (P : Params) : keysK = (KK P).map (·.1) := by kernel_rfl
theorem open_ : ∀ w : World, (fencedOpening treeTable pg w 12590).map (fun s => (s.heap, s.gens, s.drawn, s.toks)) = some (boot_heap w.params, Array.mk [], boot_drawn, boot_toks) :=
 boot_open (by kernel_rfl) (by decide) (fun s => by kernel_rfl)
theorem size_ (w : World) : ((boot_heap w.params).isNs mainGlobals && (Array.mk [] : Array GenState).size == 0, (boot_heap w.params).objs.size, (boot_heap w.params).nsMap mainGlobals "__annotations__") = (true, 11, ann) := by kernel_rfl
abbrev rr : RowW := OpenRow.toRowW (OpenLaw.row PySem.Challenge.rw_jughouse_k08_refused)
def Xt (s : Shared) : Bool := xlAt qq [] s && recOk (RowW.records rr) s
theorem look1 (w : World) (os : OsState) : (staticsOk (importedModules pg.main.body) (boot_heap w.params) (hF w.params) && namesBound pg (hF w.params) && gensDone (sF w os) && laidKept (boot_heap w.params) (hF w.params)) = true := by kernel_rfl
theorem look2 (w : World) (os : OsState) : openSeen qq loose (importedModules pg.main.body) Xt true (sF w os) = openGood qq loose := by
 rewrite [Fast.te4187177175401517315]
 kernel_rfl
theorem look3 (w : World) (os : OsState) : Hook.obs (kmHook KK keysK keys_ [712, 698]) (sF w os) = Hook.val (kmHook KK keysK keys_ [712, 698]) w := by kernel_rfl
theorem left_ : LeftO pg qq loose Xt (Hook.obs (kmHook KK keysK keys_ [712, 698])) (Hook.val (kmHook KK keysK keys_ [712, 698])) 12590 :=
 LeftO.of_pieces open_ size_ top_ (by decide) (fun w => funext fun os => looks_pair (look1 w os) (looks_pair (look2 w os) (look3 w os)))
end Hd
end
open PySem PySem.W PyProof.Rows
set_option maxRecDepth 100000 in
set_option maxHeartbeats 0 in
theorem PySem.Challenge.cw_jughouse_k08_refused_holds : PySem.Challenge.rw_jughouse_k08_refused.Holds := by
 w_on; o_law
 refine holds_open (N := 12590)
   (q := Hd.qq) (loose := Hd.loose) (Xt := Hd.Xt)
   (XP := XL Hd.qq []) (YP := Hook.says (kmHook Hd.KK Hd.keysK Hd.keys_ [712, 698]))
   Hd.left_ (Hook.of (kmHook Hd.KK Hd.keysK Hd.keys_ [712, 698])) (Hook.keeps (kmHook Hd.KK Hd.keysK Hd.keys_ [712, 698]))
   (fun s e => xl_of s (Bool.and_eq_true_iff.mp e).1)
   XL.keeps (by rfl) (by rfl) (by rfl)
   (fun s e => recFacts_of (Bool.and_eq_true_iff.mp e).2)
   (by rfl) (by assumption) (by decide +kernel)
   ⟨rfl, rfl, rfl, rfl, rfl, by decide +kernel⟩ ?hw ?hc
 (case hw => w_witness2)
 k_fill
 refine Jug.walk (l := PySem.Challenge.rw_jughouse_k08_refused) rfl rfl (fun w h Y => ⟨km_in_of Y, km_tabs_of Y 712 (by simp), km_tabs_of Y 698 (by simp), codeHd_of_K (km_in_of Y) (by kernel_rfl), codeHd_of_K (km_in_of Y) (by kernel_rfl), by kernel_rfl, by kernel_rfl⟩) ?F
 case F =>
   intro w mg fa h KX G hmg
   refine' Jug.all_mk KX G hmg ?_ ?_ ?_ ?_ ?_ ?_ ?_ ?_ ?_ ?_ ?_ ?_ ?_ ?_ ?_ ?_ ?_ ?_ ?_ ?_ ?_ ?_ ?_ ?_ ?_ ?_ ?_ ?_ ?_ ?_ ?_ ?_ ?_ ?_ ?_ ?_ ?_ ?_ ?_ ?_ ?_ ?_ ?_ ?_ ?_ ?_ ?_ ?_ ?_ ?_ ?_ ?_ ?_ ?_ ?_ ?_ ?_ ?_ ?_ ?_ ?_ ?_ ?_ ?_ ?_ ?_ ?_ ?_ ?_ ?_ ?_ ?_ ?_ ?_ ?_ ?_ ?_ ?_ ?_ ?_ ?_ ?_ ?_ ?_ ?_ ?_ ?_ ?_ ?_ ?_ ?_ ?_ ?_ ?_ ?_ ?_ ?_ ?_ ?_ ?_ ?_ ?_ ?_ ?_ ?_ ?_ ?_ ?_ ?_ ?_ ?_ ?_ ?_ ?_ ?_ ?_ ?_ ?_ ?_ ?_ ?_ ?_ ?_ ?_ ?_ ?_ ?_ ?_ ?_ ?_ ?_ ?_ ?_ ?_ ?_ ?_ ?_ ?_ ?_ ?_ ?_ ?_ ?_ ?_ ?_ ?_ ?_ ?_ ?_ ?_ ?_ ?_ ?_ ?_ ?_ ?_ ?_ ?_ ?_ ?_ ?_ ?_ ?_ ?_ ?_ ?_ ?_ ?_ ?_ ?_ ?_ ?_ ?_ ?_ ?_ ?_ ?_ ?_ ?_ ?_ ?_ ?_ ?_ ?_ ?_ ?_ ?_ ?_ ?_ ?_ ?_ ?_ ?_ ?_ ?_ ?_ ?_ ?_ ?_ ?_ ?_ ?_ ?_ ?_ ?_ ?_ ?_ ?_ ?_ ?_ ?_ ?_ ?_ ?_ ?_ ?_ ?_ ?_ ?_ ?_ ?_ ?_ ?_ ?_ ?_ ?_ ?_ ?_ ?_ ?_ ?_ ?_ ?_ ?_ ?_ ?_ ?_ ?_ ?_ ?_ ?_ ?_ ?_ ?_ ?_ ?_ ?_ ?_ ?_ ?_ ?_ ?_ ?_ ?_ ?_ ?_ ?_ ?_ ?_ ?_ ?_ ?_ ?_ ?_ ?_ ?_ ?_ ?_ ?_ ?_ ?_ ?_ ?_ ?_ ?_ ?_ ?_ ?_ ?_ ?_ ?_ ?_ ?_ ?_ ?_ ?_ ?_ ?_ ?_ ?_ ?_ ?_ ?_ ?_ ?_ ?_ ?_ ?_ ?_ ?_ ?_ ?_ ?_ ?_ ?_ ?_ ?_ ?_ ?_ ?_ ?_ ?_ ?_ ?_ ?_ ?_ ?_ ?_ ?_ ?_ ?_ ?_ ?_ ?_ ?_ ?_ ?_ ?_ ?_ ?_ ?_ ?_ ?_ ?_ ?_ ?_ ?_ ?_ ?_ ?_ ?_ ?_ ?_ ?_ ?_ ?_ ?_ ?_ ?_ ?_ ?_ ?_ ?_ ?_ ?_ ?_ ?_ ?_ ?_ ?_ ?_ ?_ ?_ ?_ ?_ ?_ ?_ ?_ ?_ ?_ ?_ ?_ ?_ ?_ ?_ ?_ ?_ ?_ ?_ ?_ ?_ ?_ ?_ ?_ ?_ ?_ ?_ ?_ ?_ ?_ ?_ ?_ ?_ ?_ ?_ ?_ ?_ ?_ ?_ ?_ ?_ ?_ ?_ ?_ ?_ ?_ ?_ ?_ ?_ ?_ ?_ ?_ ?_ ?_ ?_ ?_ ?_ ?_ ?_ ?_ ?_ ?_ ?_ ?_ ?_ ?_ ?_ ?_ ?_ ?_ ?_ ?_ ?_ ?_ ?_ ?_ ?_ ?_ ?_ ?_ ?_ ?_ ?_ ?_ ?_ ?_ ?_ ?_ ?_ ?_ ?_ ?_ ?_ ?_ ?_ ?_ ?_ ?_ ?_ ?_ ?_ ?_ ?_ ?_ ?_
   all_goals (try first | k_is | kit_is | kernel_rfl)
