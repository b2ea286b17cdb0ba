import PyProof.Rows.All
import Wide.All
import OpenK.AllK
import Wide.FinOn
import Lean
import PyProof.EqAt
import PyProof.EqKinds
import PyProof.TupleCall
import PyProof.NeKinds
import PyProof.Rows.ZipGen
import KE.KIntText
import PyProof.ListRange
import KE.LcSums
import PyProof.Rows.SetFrom
import PyProof.SetRoads
import KE.KDictList
import KE.KDictSum
import KE.KRevIter
import KE.KRangeStep
import KE.KSorted
import KE.KItemsList
import PyProof.Rows.MinMaxN
import PyProof.Rows.Range3
import PySem.Challenge.RW_jughouse_k05_whole_fewest
set_option Elab.async false
set_option linter.all false
set_option maxRecDepth 100000
namespace L2
open PySem PySem.Spec PyProof.Rows
abbrev Key := Sum Int Str
def keyIs : Key → Value → Bool
 | .inl k, v => Value.isInt k v
 | .inr x, v => Value.isStrOf x v
def keyH (w : World) : Key → Int
 | .inl k => hashInt k
 | .inr x => hashStr w x
theorem keyIs_shape : ∀ {k : Key} {v : Value}, keyIs k v = true → (∃ i t, k = Sum.inl i ∧ v = Value.int i t) ∨ (∃ x t, k = Sum.inr x ∧ v = Value.str x t)
 | .inl i, v, h => by
   obtain ⟨t, e⟩ := Value.isInt_shape (k := i) (v := v) h
   exact .inl ⟨i, t, rfl, e⟩
 | .inr x, v, h => by
   obtain ⟨t, e⟩ := Value.isStrOf_shape (x := x) (v := v) h
   exact .inr ⟨x, t, rfl, e⟩
theorem keyIs_int (i : Int) (t : Tok) : keyIs (.inl i) (.int i t) = true := by simp [keyIs, Value.isInt]
theorem keyIs_str (x : Str) (t : Tok) : keyIs (.inr x) (.str x t) = true := by simp [keyIs, Value.isStrOf]
theorem key_ll (a b : Int) : decide ((Sum.inl a : Key) = Sum.inl b) = (a == b) := by
 by_cases e : a = b
 · subst e; simp
 · have h : ¬ (Sum.inl a : Key) = Sum.inl b := fun q => e (Sum.inl.inj q)
   rw [decide_eq_false h]
   exact (beq_eq_false_iff_ne.mpr e).symm
theorem key_rr (a b : Str) : decide ((Sum.inr a : Key) = Sum.inr b) = decide (a = b) := by
 by_cases e : a = b
 · subst e; simp
 · have h : ¬ (Sum.inr a : Key) = Sum.inr b := fun q => e (Sum.inr.inj q)
   rw [decide_eq_false h, decide_eq_false e]
theorem key_lr (a : Int) (b : Str) : decide ((Sum.inl a : Key) = Sum.inr b) = false := decide_eq_false (fun q => nomatch q)
theorem key_rl (a : Str) (b : Int) : decide ((Sum.inr a : Key) = Sum.inl b) = false := decide_eq_false (fun q => nomatch q)
def mixKind (prog : Program) (w : World) : PySem.KeyKind prog w Key where
 is := keyIs
 hash := keyH w
 inj := fun v a b ha hb => by
   rcases keyIs_shape ha with ⟨i, t, rfl, rfl⟩ | ⟨x, t, rfl, rfl⟩
   · rcases keyIs_shape hb with ⟨j, u, rfl, e⟩ | ⟨y, u, rfl, e⟩
     · injection e with e1 _; rw [e1]
     · exact nomatch e
   · rcases keyIs_shape hb with ⟨j, u, rfl, e⟩ | ⟨y, u, rfl, e⟩
     · exact nomatch e
     · injection e with e1 _; rw [e1]
 byValue := fun k v h => by
   rcases keyIs_shape h with ⟨i, t, rfl, rfl⟩ | ⟨x, t, rfl, rfl⟩ <;> rfl
 pyHash := fun hv h => by
   rcases keyIs_shape hv with ⟨i, t, rfl, rfl⟩ | ⟨x, t, rfl, rfl⟩
   · exact wpAny_pyHash_int h
   · exact wpAny_pyHash_str h
 eqBool := fun hu hv h => by
   rcases keyIs_shape hu with ⟨i, t, rfl, rfl⟩ | ⟨x, t, rfl, rfl⟩
   · rcases keyIs_shape hv with ⟨j, u, rfl, rfl⟩ | ⟨y, u, rfl, rfl⟩
     · rw [key_ll] at h; exact wpAny_eqBool_int h
     · rw [key_lr] at h; exact SeqAt.EqAt.int_str i t y u _ _ _ _ h
   · rcases keyIs_shape hv with ⟨j, u, rfl, rfl⟩ | ⟨y, u, rfl, rfl⟩
     · rw [key_rl] at h; exact SeqAt.EqAt.str_int x t j u _ _ _ _ h
     · rw [key_rr] at h; exact wpAny_eqBool_str h
 «strs» := fun k x t v h => by
   rcases keyIs_shape h with ⟨i, u, rfl, e⟩ | ⟨y, u, rfl, e⟩
   · exact nomatch e
   · injection e with e1 _
     subst e1
     cases v <;> rfl
theorem mixKind_int (prog : Program) (w : World) (i : Int) (t : Tok) : (mixKind prog w).is (.inl i) (.int i t) = true := keyIs_int i t
theorem mixKind_str (prog : Program) (w : World) (x : Str) (t : Tok) : (mixKind prog w).is (.inr x) (.str x t) = true := keyIs_str x t
end L2
namespace L2
open PySem PySem.Spec PyProof.Rows
inductive V where
 | non | bl (b : Bool) | int (i : Int) | str (x : Str) | byt (b : Array UInt8) | flt (b : UInt64) | ref (a : Addr) | ty (n : String)
 deriving DecidableEq
def RelV : V → Value → Prop
 | .non, u => u = Value.none
 | .bl b, u => u = Value.bool b
 | .int i, u => ∃ t, u = Value.int i t
 | .str x, u => ∃ t, u = Value.str x t
 | .byt b, u => ∃ t, u = Value.bytes b t
 | .flt b, u => ∃ t, u = Value.float b t
 | .ref a, u => u = Value.ref a
 | .ty n, u => u = Value.type n
abbrev Vals : List V → List Value → Prop := Paired RelV
theorem Vals.length {xs : List V} {us : List Value} (r : Vals xs us) : xs.length = us.length := Paired.length r
theorem Vals.get : ∀ {xs : List V} {us : List Value} {i : Nat} {x : V}, Vals xs us → xs[i]? = some x → ∃ u, us[i]? = some u ∧ RelV x u
 | _, _, _, _, .nil, e => by simp at e
 | _, _, 0, _, .cons r _, e => by simp at e; subst e; exact ⟨_, rfl, r⟩
 | _, _, i + 1, x, .cons _ t, e => by
   obtain ⟨u, h1, h2⟩ := Vals.get (i := i) (x := x) t (by simpa using e)
   exact ⟨u, by simpa using h1, h2⟩
theorem Vals.set {x : V} {u : Value} (r : RelV x u) : ∀ {xs : List V} {us : List Value} (i : Nat), Vals xs us → Vals (xs.set i x) (us.set i u)
 | _, _, _, .nil => .nil
 | _, _, 0, .cons _ t => .cons r t
 | _, _, i + 1, .cons q t => .cons q (Vals.set r i t)
theorem Vals.append : ∀ {xs ys : List V} {us ws : List Value}, Vals xs us → Vals ys ws → Vals (xs ++ ys) (us ++ ws)
 | _, _, _, _, .nil, s => s
 | _, _, _, _, .cons r t, s => .cons r (Vals.append t s)
theorem Vals.take : ∀ {xs : List V} {us : List Value} (n : Nat), Vals xs us → Vals (xs.take n) (us.take n)
 | _, _, 0, _ => .nil
 | _, _, _ + 1, .nil => .nil
 | _, _, n + 1, .cons r t => .cons r (Vals.take n t)
theorem Vals.drop : ∀ {xs : List V} {us : List Value} (n : Nat), Vals xs us → Vals (xs.drop n) (us.drop n)
 | _, _, 0, r => r
 | _, _, _ + 1, .nil => .nil
 | _, _, n + 1, .cons _ t => Vals.drop n t
def RelO : Option V → Option Value → Prop
 | some v, some u => RelV v u
 | none, none => True
 | _, _ => False
def KV {κ : Type} : List (κ × V) → List (κ × Value) → Prop := Paired fun (p : κ × V) (q : κ × Value) => p.1 = q.1 ∧ RelV p.2 q.2
def kV : Key → V
 | .inl i => .int i
 | .inr x => .str x
inductive HO where
 | lst (xs : List V)
 | tup (xs : List V)
 | dK (kvs : List (Key × V)) | dT (kvs : List (List Key × V))
 | set (S : Int → Bool) (n : Nat)
 | ins (C dx : Addr) (fs : List (Str × V))
 | own (x : Addr)
 | xd (fs : List (Str × V))
 | met (f x : Addr)
 | rng (lo hi : Int)
 | frz (o : Obj) (u : HO)
 | tbl (ps : Array Value)
 | ext (φ : Heap → Prop)
abbrev Hp := Addr → Option HO
def upd (H : Hp) (a : Addr) (o : HO) : Hp := fun b => if b = a then some o else H b
theorem uS {H : Hp} {a : Addr} {o : HO} : upd H a o a = some o := by unfold upd; rw [if_pos rfl]
theorem uN {H : Hp} {a b : Addr} {o : HO} (h : b ≠ a) : upd H a o b = H b := by unfold upd; rw [if_neg h]
theorem upd_upd {H : Hp} {a : Addr} {o u : HO} : upd (upd H a o) a u = upd H a u := by
 funext b; unfold upd; split <;> rfl
theorem ne_of {H : Hp} {a b : Addr} {o u : HO} (h : H a = some o) (h' : H b = some u) (d : o ≠ u) : a ≠ b := by
 intro e; subst e; rw [h] at h'; exact d (Option.some.inj h')
theorem nN {H : Hp} {a b : Addr} {o : HO} (h : H a = some o) (h' : H b = none) : a ≠ b := by
 intro e; subst e; rw [h] at h'; cases h'
section
variable (P : Program) (w : World)
def ObjOk (H : Hp) (h : Heap) (a : Addr) : HO → Prop
 | .lst xs => xs.length ≤ sizeLine ∧ ∃ (its : List Value) (n : Nat), Vals xs its ∧ h.get? a = some { cls := .type "list", data := .seq its.toArray n }
 | .tup xs => xs.length ≤ sizeLine ∧ ∃ its : List Value, Vals xs its ∧ IsTup h a its.toArray
 | .dK kvs => kvs.length ≤ sizeLine ∧ (a == sysModules) = false ∧ ∃ vs, KV kvs vs ∧ h.DictOf (mixKind P w) a vs
 | .dT kvs => kvs.length ≤ sizeLine ∧ (a == sysModules) = false ∧ ∃ xs : List (List Key × Addr × Value),
     Paired (fun (p : List Key × V) (q : List Key × Addr × Value) => p.1 = q.1 ∧ H q.2.1 = some (.tup (p.1.map kV)) ∧ RelV p.2 q.2.2) kvs xs ∧
     ∃ o es ep, h.get? a = some o ∧ o.ExactDict ∧ o.data = .dict es ep ∧ es.toList = xs.map (entryOfKey (tupleKind (mixKind P w))) ∧ (xs.map (·.1)).Nodup
 | .set S n => h.SetOf (intKind P w) a S n
 | .ins C dx fs => H dx = some (.own a) ∧ fs.length ≤ 1000 ∧ dx ≠ a ∧ h.get? a = some (PySem.W.instObj C dx) ∧
     ∃ mA, h.Ns1 dx mA ∧ (∀ f, RelO (fs.lookup f) (mA f)) ∧ PySem.Within mA (fs.map (·.1))
 | .own _ => ∃ o, h.get? a = some o
 | .xd fs => ∃ mA, h.Ns1 a mA ∧ ∀ f, RelO (fs.lookup f) (mA f)
 | .rng lo hi => ∃ t u v, h.get? a = some { cls := .type "range", data := .fields #[.int lo t, .int hi u, .int 1 v] }
 | .frz o u => h.get? a = some o ∧ ObjOk H h a u
 | .tbl ps => h.get? a = some { cls := .none, data := .fields ps }
 | .met f x => h.get? a = some (PySem.W.methodObj (.ref f) (.ref x))
 | .ext φ => φ h ∧ (∃ o, h.get? a = some o) ∧ ∀ h1 h2 : Heap, φ h1 → (∀ o, h1.get? a = some o → h2.get? a = some o) → φ h2
def HOk (H : Hp) (h : Heap) : Prop := ∀ a o, H a = some o → ObjOk P w H h a o
end
section
variable {P : Program} {w : World} {H H' : Hp} {h h' : Heap} {a : Addr} {o : HO}
theorem ObjOk.lt (x : ObjOk P w H h a o) : a < h.objs.size := by
 cases o with
 | lst xs => obtain ⟨_, _, _, _, e⟩ := x; exact Heap.lt_size e
 | tup xs => obtain ⟨_, _, _, p⟩ := x; exact p.lt
 | dK kvs => obtain ⟨_, _, _, _, o, _, _, e, _⟩ := x; exact Heap.lt_size e
 | dT kvs => obtain ⟨_, _, _, _, o, _, _, e, _⟩ := x; exact Heap.lt_size e
 | set S n => obtain ⟨o, _, _, _, e, _⟩ := x; exact Heap.lt_size e
 | ins C dx fs => obtain ⟨_, _, _, e, _⟩ := x; exact Heap.lt_size e
 | own y => obtain ⟨_, e⟩ := x; exact Heap.lt_size e
 | xd fs => obtain ⟨_, ⟨_, _, _, e, _⟩, _⟩ := x; exact Heap.lt_size e
 | rng lo hi => obtain ⟨_, _, _, e⟩ := x; exact Heap.lt_size e
 | frz ob u => obtain ⟨e, _⟩ := x; exact Heap.lt_size e
 | tbl ps => exact Heap.lt_size (show h.get? a = some _ from x)
 | met f y => exact Heap.lt_size (show h.get? a = some _ from x)
 | ext φ => obtain ⟨_, ⟨_, e⟩, _⟩ := x; exact Heap.lt_size e
theorem Paired.mapP {α β : Type} {F G : α → β → Prop} : ∀ {l₁ : List α} {l₂ : List β}, Paired F l₁ l₂ → (∀ a b, F a b → G a b) → Paired G l₁ l₂
 | _, _, .nil, _ => .nil
 | _, _, .cons r t, f => .cons (f _ _ r) (Paired.mapP t f)
theorem ObjOk.stay (x : ObjOk P w H h a o) (k : ∀ b u, (b = a ∨ H b = some (.own a)) → h.get? b = some u → h'.get? b = some u)
   (ho : ∀ b, H b = some (.own a) → H' b = some (.own a)) (ht : ∀ b xs, H b = some (.tup xs) → H' b = some (.tup xs)) : ObjOk P w H' h' a o := by
 induction o with
 | lst xs => obtain ⟨z, its, n, r, e⟩ := x; exact ⟨z, its, n, r, k _ _ (.inl rfl) e⟩
 | tup xs => obtain ⟨z, its, r, ob, e, c⟩ := x; exact ⟨z, its, r, ob, k _ _ (.inl rfl) e, c⟩
 | dK kvs => obtain ⟨z, y, vs, r, ob, es, ep, e, c⟩ := x; exact ⟨z, y, vs, r, ob, es, ep, k _ _ (.inl rfl) e, c⟩
 | dT kvs =>
   obtain ⟨z, y, xs, r, ob, es, ep, e, c⟩ := x
   exact ⟨z, y, xs, Paired.mapP r fun p q z => ⟨z.1, ht _ _ z.2.1, z.2.2⟩, ob, es, ep, k _ _ (.inl rfl) e, c⟩
 | set S n => obtain ⟨ob, es, ep, t, e, c⟩ := x; exact ⟨ob, es, ep, t, k _ _ (.inl rfl) e, c⟩
 | ins C dx fs =>
   obtain ⟨d, z, ne, e, mA, ⟨od, es, ep, e2, c⟩, r⟩ := x
   exact ⟨ho _ d, z, ne, k _ _ (.inl rfl) e, mA, ⟨od, es, ep, k _ _ (.inr d) e2, c⟩, r⟩
 | own y => obtain ⟨ob, e⟩ := x; exact ⟨ob, k _ _ (.inl rfl) e⟩
 | xd fs => obtain ⟨mA, ⟨od, es, ep, e, c⟩, r⟩ := x; exact ⟨mA, ⟨od, es, ep, k _ _ (.inl rfl) e, c⟩, r⟩
 | rng lo hi => obtain ⟨t, u, v, e⟩ := x; exact ⟨t, u, v, k _ _ (.inl rfl) e⟩
 | frz ob u ih => obtain ⟨e, q⟩ := x; exact ⟨k _ _ (.inl rfl) e, ih q⟩
 | tbl ps =>
   have e : h.get? a = some { cls := .none, data := .fields ps } := x
   show h'.get? a = some { cls := .none, data := .fields ps }
   exact k a _ (.inl rfl) e
 | met f y =>
   have e : h.get? a = some (PySem.W.methodObj (.ref f) (.ref y)) := x
   show h'.get? a = some (PySem.W.methodObj (.ref f) (.ref y))
   exact k a _ (.inl rfl) e
 | ext φ => obtain ⟨p, ⟨o, e⟩, st⟩ := x; exact ⟨st _ _ p fun o q => k _ _ (.inl rfl) q, ⟨o, k _ _ (.inl rfl) e⟩, st⟩
theorem HOk.lt (x : HOk P w H h) (e : H a = some o) : a < h.objs.size := (x a o e).lt
theorem HOk.fresh (x : HOk P w H h) (e : h.objs.size ≤ a) : H a = none := by
 cases q : H a with
 | none => rfl
 | some u => exact absurd (Nat.lt_of_lt_of_le (x.lt q) e) (Nat.lt_irrefl _)
theorem HOk.kept (x : HOk P w H h) (k : ∀ b u, h.get? b = some u → h'.get? b = some u) : HOk P w H h' := fun a o e =>
 (x a o e).stay (fun b u _ q => k b u q) (fun _ q => q) fun _ _ q => q
theorem HOk.laid (x : HOk P w H h) (k : ∀ b u, h.get? b = some u → h'.get? b = some u) (hp : h.objs.size ≤ a) (new : ObjOk P w (upd H a o) h' a o) : HOk P w (upd H a o) h' := fun b u e => by
 have hn := x.fresh hp
 by_cases hb : b = a
 · subst hb; rw [uS] at e; cases e; exact new
 · rw [uN hb] at e
   exact (x b u e).stay (fun c v _ q => k c v q) (fun c q => by rw [uN (nN q hn)]; exact q) fun c xs q => by rw [uN (nN q hn)]; exact q
end
def Rd (H : Hp) (a : Addr) (u : HO) : Prop := H a = some u ∨ ∃ o, H a = some (.frz o u)
theorem Rd.ok {P : Program} {w : World} {H : Hp} {h : Heap} {a : Addr} {u : HO} (r : Rd H a u) (x : HOk P w H h) : ObjOk P w H h a u := by
 rcases r with r | ⟨o, r⟩
 · exact x a u r
 · obtain ⟨_, q⟩ := x a _ r
   exact q
def Mut : Option HO → Prop
 | some (.lst _) => True
 | some (.dK _) => True
 | some (.dT _) => True
 | some (.set _ _) => True
 | some (.ins _ _ _) => True
 | some (.ext _) => True
 | _ => False
section
variable {P : Program} {w : World} {H : Hp} {h h' : Heap} {x e : Addr} {o' : HO}
theorem HOk.write (ok : HOk P w H h) (mu : Mut (H x)) (he : e = x ∨ H e = some (.own x)) (k : ∀ b u, b ≠ e → h.get? b = some u → h'.get? b = some u) (heo : ∃ u, h'.get? e = some u)
   (new : ObjOk P w (upd H x o') h' x o') : HOk P w (upd H x o') h' := fun b u q => by
 have nown : ∀ c y, H c = some (.own y) → c ≠ x := fun c y r z => by subst z; rw [r] at mu; exact mu
 have ntup : ∀ c xs, H c = some (.tup xs) → c ≠ x := fun c xs r z => by subst z; rw [r] at mu; exact mu
 by_cases hb : b = x
 · subst hb; rw [uS] at q; cases q; exact new
 · rw [uN hb] at q
   by_cases hbe : b = e
   · have q' : H b = some (.own x) := by
       rcases he with z | z
       · exact absurd (hbe.trans z) hb
       · rw [hbe]; exact z
     rw [q] at q'; cases q'
     obtain ⟨v, hv⟩ := heo
     exact ⟨v, by rw [hbe]; exact hv⟩
   · refine (ok b u q).stay (fun c v hc r => k c v ?_ r) (fun c r => by rw [uN (nown c b r)]; exact r) fun c xs r => by rw [uN (ntup c xs r)]; exact r
     rcases hc with rfl | hc
     · exact hbe
     · rintro rfl
       rcases he with z | z
       · exact nown c b hc z
       · rw [hc] at z; cases z; exact hb rfl
end
structure Un (fs ex : List Addr) (H H' : Hp) (h h' : Heap) : Prop where
 keep : ∀ b o, h.get? b = some o → H b = none → b ∉ fs → b ∉ ex → h'.get? b = some o
 slot : ∀ b o, h.get? b = some o → H b = none → b ∈ fs → b ∉ ex → ∃ sl, h'.get? b = some { o with slots := sl }
 free : ∀ b o, h.get? b = some o → H b = none → b ∉ ex → H' b = none
 there : ∀ b o, h.get? b = some o → b ∉ ex → ∃ o', h'.get? b = some o'
 tups : ∀ b xs, H b = some (.tup xs) → H' b = some (.tup xs)
 frzs : ∀ b o u, H b = some (.frz o u) → H' b = some (.frz o u)
 tbls : ∀ b ps, H b = some (.tbl ps) → ∃ more, H' b = some (.tbl (ps ++ more))
section
variable {fs fs' ex ex' : List Addr} {H H1 H2 : Hp} {h h1 h2 h' : Heap} {a x e : Addr} {o : HO}
theorem Un.any (u : Un fs ex H H1 h h1) {b : Addr} {ob : Obj} (q : h.get? b = some ob) (n : H b = none) (hx : b ∉ ex) : ∃ sl, h1.get? b = some { ob with slots := sl } := by
 by_cases hb : b ∈ fs
 · exact u.slot b ob q n hb hx
 · exact ⟨ob.slots, u.keep b ob q n hb hx⟩
theorem Un.kept (k : ∀ b u, h.get? b = some u → h'.get? b = some u) : Un fs ex H H h h' :=
 ⟨fun b ob q _ _ _ => k b ob q, fun b ob q _ _ _ => ⟨ob.slots, k b ob q⟩, fun _ _ _ n _ => n, fun b ob q _ => ⟨ob, k b ob q⟩, fun _ _ q => q, fun _ _ _ q => q, fun _ ps q => ⟨#[], by rw [q]; simp⟩⟩
theorem Un.refl : Un fs ex H H h h := Un.kept fun _ _ q => q
theorem Un.laid (k : ∀ b u, h.get? b = some u → h'.get? b = some u) (hp : h.objs.size ≤ a) (hn : H a = none) : Un fs ex H (upd H a o) h h' where
 keep := fun b u q _ _ _ => k b u q
 slot := fun b u q _ _ _ => ⟨u.slots, k b u q⟩
 free := fun b u q n _ => by rw [uN (Nat.ne_of_lt (Nat.lt_of_lt_of_le (Heap.lt_size q) hp))]; exact n
 there := fun b u q _ => ⟨u, k b u q⟩
 tups := fun b xs q => by rw [uN (nN q hn)]; exact q
 frzs := fun b u xs q => by rw [uN (nN q hn)]; exact q
 tbls := fun b ps q => ⟨#[], by rw [uN (nN q hn), q]; simp⟩
theorem Un.write (mu : Mut (H x)) (he : e = x ∨ H e = some (.own x)) (k : ∀ b u, b ≠ e → h.get? b = some u → h'.get? b = some u) (heo : ∃ u, h'.get? e = some u) : Un fs ex H (upd H x o) h h' := by
 have hx : ∀ b, H b = none → b ≠ x := fun b n z => by subst z; rw [n] at mu; exact mu
 have hb : ∀ b, H b = none → b ≠ e := fun b n z => by
   subst z
   rcases he with r | r
   · exact hx b n r
   · rw [n] at r; cases r
 have hm : ∀ b u, H b = some u → ¬ Mut (some u) → b ≠ x := fun b u q nm z => by subst z; rw [q] at mu; exact nm mu
 refine ⟨fun b u q n _ _ => k b u (hb b n) q, fun b u q n _ _ => ⟨u.slots, k b u (hb b n) q⟩, fun b u q n _ => by rw [uN (hx b n)]; exact n, fun b u q _ => ?_,
   fun b xs q => by rw [uN (hm b _ q fun z => z)]; exact q, fun b u xs q => by rw [uN (hm b _ q fun z => z)]; exact q, fun b ps q => ⟨#[], by rw [uN (hm b _ q fun z => z), q]; simp⟩⟩
 by_cases hbe : b = e
 · subst hbe; exact heo
 · exact ⟨u, k b u hbe q⟩
end
def trk (h : Heap) (H : Hp) : List Addr := (List.range h.objs.size).filter fun a => (H a).isSome
def hidT (h : Heap) (H : Hp) : Heap := PySem.W.hideAll h (trk h H)
theorem hidT_size (h : Heap) (H : Hp) : (hidT h H).objs.size = h.objs.size := PySem.W.hideAll_size _ _
theorem hidT_get {h : Heap} {H : Hp} {b : Addr} {o : Obj} (e : h.get? b = some o) (n : H b = none) : (hidT h H).get? b = some o :=
 PySem.W.hideAll_get _ e fun hm => by
   have q : (H b).isSome = true := (List.mem_filter.mp hm).2
   rw [n] at q; simp at q
theorem of_hidT {h : Heap} {H : Hp} {b : Addr} {o : Obj} (e : (hidT h H).get? b = some o) : h.get? b = some o ∧ H b = none := by
 have e' : h.get? b = some o := PySem.W.of_hideAll (trk h H) e
 refine ⟨e', ?_⟩
 cases q : H b with
 | none => rfl
 | some x =>
   have hm : b ∈ trk h H := List.mem_filter.mpr ⟨List.mem_range.mpr (Heap.lt_size e'), by simp [q]⟩
   have z : (hidT h H).get? b = none := PySem.W.hideAll_none (trk h H) hm
   rw [z] at e; cases e
end L2
namespace L2
open PySem PySem.Spec PyProof.Rows
structure Mod (K : PySem.W.Frag) (mg : Str → Option Value) (base : Heap) : Prop where
 kin : K.In base
 glob : base.Ns mainGlobals mg
 blt : ∃ mb, base.Ns builtinsNs mb ∧ ∀ x : Str, x ≠ "__name__" → mb x = bootBuiltins x
 nolimit : base.NoLimit
structure Cx where
 prog : Program
 w : World
 K : PySem.W.Frag
 mg : Str → Option Value
 base : Heap
 A : Around
 N : List Str
 s₀ : Shared
 H₀ : Hp
 env : Env
 outer : List Env
 stack : List Env
 ex : List Addr
 fn : Str → Bool
 calm : Bool
 pn : List (Addr × Obj)
 xe : Value → Shared → Prop
def frs (l : List Env) : List Addr := l.filterMap (·.frame)
abbrev Cx.fs (X : Cx) : List Addr := frs X.outer
def Vis (sc : Scope) (x : Str) : Prop := sc.names.lookup x = some .local ∨ sc.names.lookup x = some .cell ∨ sc.names.lookup x = some .free
def Loc (sc : Scope) (x : Str) : Prop := sc.names.lookup x = some .local ∨ sc.names.lookup x = some .cell
def Look (env : Env) (h : Heap) (m : Str → Option Value) (x : Str) (u : Value) : Prop :=
 (env.kindOf x = some .local ∧ m x = some u) ∨ ((env.kindOf x = some .cell ∨ env.kindOf x = some .free) ∧ ∃ c, env.cells.lookup x = some c ∧ h.IsCell c (some u))
structure Cx.Ok (X : Cx) : Prop where
 mod : Mod X.K X.mg X.base
 kind : X.env.scope.kind = .function
 glob : X.env.globals = mainGlobals
 blt : X.env.builtins = builtinsNs
 above : X.s₀.heap.objs.size ≤ X.env.locals
 inj : ∀ x y c, X.env.cells.lookup x = some c → X.env.cells.lookup y = some c → x = y
 has : ∀ x, (X.env.kindOf x = some .cell ∨ X.env.kindOf x = some .free) → ∃ c, X.env.cells.lookup x = some c
 cab : ∀ x c, X.fn x = true → X.env.cells.lookup x = some c → X.s₀.heap.objs.size ≤ c
 hd : X.calm = true → X.A.handled = none
 frames : X.A.frames = some X.stack
 stk : X.stack = X.outer ∨ (X.stack = X.env :: X.outer ∧ X.env.frame = some X.env.locals)
 exf : ∀ b ∈ X.ex, b ≠ X.env.locals ∧ ∀ x c, X.env.cells.lookup x = some c → c ≠ b
 bs : ∀ b o, X.base.get? b = some o → X.s₀.heap.get? b = some o ∧ X.H₀ b = none
 bsz : X.base.objs.size ≤ X.s₀.heap.objs.size
 noex : ∀ b o, X.base.get? b = some o → b ∉ X.ex
 exfs : ∀ b ∈ X.ex, b ∉ X.fs
 funs : X.s₀.heap.FunFrames X.base X.outer
 frf : ∀ b ∈ X.fs, X.H₀ b = none
structure Inv (X : Cx) (pins : List (Addr × Obj)) (σ : List (Option V)) (H : Hp) (s : Shared) : Prop where
 ok : X.Ok
 os : s.os = X.s₀.os
 bare : AllBare s.gens
 base : Un X.fs X.ex X.H₀ H X.s₀.heap s.heap
 loc : ∃ m, s.heap.Ns X.env.locals m ∧ ∀ (i : Nat) (x : Str) (v : V), X.N[i]? = some x → σ[i]? = some (some v) → Vis X.env.scope x → ∃ u, RelV v u ∧ Look X.env s.heap m x u
 cell : ∀ x c, X.env.cells.lookup x = some c → ∃ v, s.heap.IsCell c v
 free : H X.env.locals = none
 freeC : ∀ x c, X.env.cells.lookup x = some c → H c = none
 pin : ∀ p ∈ X.pn ++ pins, s.heap.get? p.1 = some p.2 ∧ H p.1 = none ∧ p.1 ≠ X.env.locals ∧ p.1 ∉ X.fs ∧ ∀ v, p.2.data ≠ .cell v
 hok : HOk X.prog X.w H s.heap
 len : σ.length = X.N.length
section
variable {X : Cx} {pins : List (Addr × Obj)} {σ : List (Option V)} {H H' : Hp} {s : Shared} {h' : Heap}
theorem Cx.Ok.nofr (ok : X.Ok) {b : Addr} {o : Obj} (e : X.base.get? b = some o) : b ∉ X.fs := fun hb => by
 have := (ok.funs.mem hb).1
 rw [e] at this; cases this
theorem Inv.bs (I : Inv X pins σ H s) : ∀ b o, X.base.get? b = some o → s.heap.get? b = some o ∧ H b = none := fun b o e =>
 ⟨I.base.keep b o (I.ok.bs b o e).1 (I.ok.bs b o e).2 (I.ok.nofr e) (I.ok.noex b o e), I.base.free b o (I.ok.bs b o e).1 (I.ok.bs b o e).2 (I.ok.noex b o e)⟩
theorem Inv.bk (I : Inv X pins σ H s) : ∀ b o, X.base.get? b = some o → s.heap.get? b = some o := fun b o e => (I.bs b o e).1
theorem Inv.mod (I : Inv X pins σ H s) : Mod X.K X.mg X.base := I.ok.mod
theorem Inv.kIn (I : Inv X pins σ H s) : X.K.In s.heap := I.ok.mod.kin.keeps I.bk
theorem Inv.lt (I : Inv X pins σ H s) : X.env.locals < s.heap.objs.size := let ⟨_, hn, _⟩ := I.loc; hn.lt
theorem Inv.sz (I : Inv X pins σ H s) : X.s₀.heap.objs.size ≤ s.heap.objs.size := Nat.le_trans I.ok.above (Nat.le_of_lt I.lt)
theorem Inv.nofs (I : Inv X pins σ H s) {a : Addr} (h : s.heap.objs.size ≤ a) : a ∉ X.fs := fun hb => by
 obtain ⟨_, o, ho, _⟩ := I.ok.funs.mem hb
 exact absurd (Nat.lt_of_lt_of_le (Heap.lt_size ho) (Nat.le_trans I.sz h)) (Nat.lt_irrefl _)
theorem Inv.cne (I : Inv X pins σ H s) : ∀ x c, X.env.cells.lookup x = some c → c ≠ X.env.locals := fun x c e z => by
 obtain ⟨v, o, ho, hd⟩ := I.cell x c e
 obtain ⟨m, ⟨o', es, ep, ho', hd', _⟩, _⟩ := I.loc
 rw [z, ho'] at ho; cases ho; rw [hd'] at hd; cases hd
theorem Inv.funs (I : Inv X pins σ H s) : s.heap.FunFrames X.base X.outer := by
 have all : ∀ (l : List Env), (∀ b ∈ frs l, b ∈ X.fs) → X.s₀.heap.FunFrames X.base l → s.heap.FunFrames X.base l := by
   intro l
   induction l with
   | nil => intro _ _; trivial
   | cons env r ih =>
     intro hs hl
     obtain ⟨hk, ⟨L, o, hf, hn, ho, hd⟩, hr⟩ := hl
     have hL : L ∈ X.fs := hs L (by unfold frs; rw [List.filterMap_cons, hf]; exact List.mem_cons_self)
     obtain ⟨sl, e⟩ := I.base.slot L o ho (I.ok.frf L hL) hL fun z => I.ok.exfs L z hL
     exact ⟨hk, ⟨L, _, hf, hn, e, hd⟩, ih (fun b hb => hs b (by unfold frs; rw [List.filterMap_cons, hf]; exact List.mem_cons_of_mem _ hb)) hr⟩
 exact all X.outer (fun _ hb => hb) I.ok.funs
theorem Inv.stack (I : Inv X pins σ H s) : s.heap.FunFrames X.base X.stack := by
 rcases I.ok.stk with e | ⟨e, hf⟩
 · rw [e]; exact I.funs
 · rw [e]
   obtain ⟨m, hn, _⟩ := I.loc
   refine .cons (by rw [I.ok.kind]; decide) hf hn ?_ I.funs
   exact Heap.get?_none_of_le (Nat.le_trans I.ok.bsz I.ok.above)
theorem Inv.stkSub (I : Inv X pins σ H s) : ∀ b ∈ frs X.stack, b ∈ X.env.locals :: X.fs := fun b hb => by
 rcases I.ok.stk with e | ⟨e, hf⟩
 · rw [e] at hb; exact List.mem_cons_of_mem _ hb
 · rw [e] at hb
   unfold frs at hb
   rw [List.filterMap_cons, hf] at hb
   exact hb
theorem Inv.stkFree (I : Inv X pins σ H s) : ∀ b ∈ frs X.stack, H b = none := fun b hb => by
 rcases List.mem_cons.mp (I.stkSub b hb) with e | hb
 · rw [e]; exact I.free
 · obtain ⟨_, o, ho, _⟩ := I.ok.funs.mem hb
   exact I.base.free b o ho (I.ok.frf b hb) fun z => I.ok.exfs b z hb
theorem Inv.step {g' : Array GenState} {t' : Nat} {d' : Drawn} {ch : List Addr} (I : Inv X pins σ H s)
   (hch : ∀ b ∈ ch, (b ∈ X.ex ∨ X.s₀.heap.objs.size ≤ b) ∧ b ≠ X.env.locals ∧ (∀ x c, X.env.cells.lookup x = some c → c ≠ b) ∧ ∀ p ∈ X.pn ++ pins, p.1 ≠ b)
   (keep : ∀ b o, b ≠ X.env.locals → b ∉ X.fs → b ∉ ch → s.heap.get? b = some o → H b = none → h'.get? b = some o)
   (slot : ∀ b o, b ≠ X.env.locals → b ∈ X.fs → b ∉ ch → s.heap.get? b = some o → H b = none → ∃ sl, h'.get? b = some { o with slots := sl }) (free : ∀ b o, b ∉ ch → s.heap.get? b = some o → H b = none → H' b = none)
   (there : ∀ b o, b ∉ ch → s.heap.get? b = some o → ∃ o', h'.get? b = some o')
   (tups : ∀ b xs, H b = some (.tup xs) → H' b = some (.tup xs)) (frzs : ∀ b o u, H b = some (.frz o u) → H' b = some (.frz o u)) (tbls : ∀ b ps, H b = some (.tbl ps) → ∃ more, H' b = some (.tbl (ps ++ more)))
   (ns : ∀ m, s.heap.Ns X.env.locals m → h'.Ns X.env.locals m) (hok : HOk X.prog X.w H' h') (hg : AllBare g') :
   Inv X pins σ H' { s with heap := h', gens := g', drawn := d', toks := t' } := by
 have neL : ∀ b o, X.s₀.heap.get? b = some o → b ≠ X.env.locals := fun b o e => Nat.ne_of_lt (Nat.lt_of_lt_of_le (Heap.lt_size e) I.ok.above)
 have neC : ∀ b o, X.s₀.heap.get? b = some o → b ∉ X.ex → b ∉ ch := fun b o e hx hb => by
   rcases (hch b hb).1 with z | z
   · exact hx z
   · exact absurd (Nat.lt_of_lt_of_le (Heap.lt_size e) z) (Nat.lt_irrefl _)
 have cellK : ∀ x c, X.env.cells.lookup x = some c → ∀ v, s.heap.IsCell c v → h'.IsCell c v := fun x c e v ⟨o, ho, hd⟩ => by
   have nch : c ∉ ch := fun z => (hch c z).2.2.1 x c e rfl
   by_cases hc : c ∈ X.fs
   · obtain ⟨sl, q⟩ := slot c o (I.cne x c e) hc nch ho (I.freeC x c e)
     exact ⟨_, q, hd⟩
   · exact ⟨o, keep c o (I.cne x c e) hc nch ho (I.freeC x c e), hd⟩
 refine ⟨I.ok, I.os, hg, ⟨fun b o e n hb hx => ?_, fun b o e n hb hx => ?_, fun b o e n hx => ?_, fun b o e hx => ?_, fun b xs e => tups b xs (I.base.tups b xs e), fun b o xs e => frzs b o xs (I.base.frzs b o xs e), fun b ps e => ?_⟩, ?_, fun x c e => ?_, ?_, fun x c e => ?_, fun p hp => ?_, hok, I.len⟩
 · exact keep b o (neL b o e) hb (neC b o e hx) (I.base.keep b o e n hb hx) (I.base.free b o e n hx)
 · obtain ⟨sl, e1⟩ := I.base.slot b o e n hb hx
   obtain ⟨sl', e2⟩ := slot b _ (neL b o e) hb (neC b o e hx) e1 (I.base.free b o e n hx)
   exact ⟨sl', e2⟩
 · obtain ⟨o', e1⟩ := I.base.there b o e hx
   exact free b o' (neC b o e hx) e1 (I.base.free b o e n hx)
 · obtain ⟨o', e1⟩ := I.base.there b o e hx
   exact there b o' (neC b o e hx) e1
 · obtain ⟨m1, e1⟩ := I.base.tbls b ps e
   obtain ⟨m2, e2⟩ := tbls b _ e1
   exact ⟨m1 ++ m2, by rw [e2, Array.append_assoc]⟩
 · obtain ⟨m, hn, hl⟩ := I.loc
   refine ⟨m, ns m hn, fun i x v e1 e2 e3 => ?_⟩
   obtain ⟨u, r, l⟩ := hl i x v e1 e2 e3
   refine ⟨u, r, ?_⟩
   rcases l with l | ⟨k, c, e, z⟩
   · exact .inl l
   · exact .inr ⟨k, c, e, cellK x c e _ z⟩
 · obtain ⟨v, z⟩ := I.cell x c e
   exact ⟨v, cellK x c e v z⟩
 · obtain ⟨m, ⟨o, _, _, ho, _⟩, _⟩ := I.loc
   exact free _ o (fun z => (hch _ z).2.1 rfl) ho I.free
 · obtain ⟨v, o, ho, hd⟩ := I.cell x c e
   exact free c o (fun z => (hch c z).2.2.1 x c e rfl) ho (I.freeC x c e)
 · obtain ⟨e, n, ne, nf, d⟩ := I.pin p hp
   have nch : p.1 ∉ ch := fun z => (hch p.1 z).2.2.2 p hp rfl
   exact ⟨keep p.1 p.2 ne nf nch e n, free p.1 p.2 nch e n, ne, nf, d⟩
theorem Inv.un {t' : Nat} (I : Inv X pins σ H s) (u : Un X.fs [] H H' s.heap h') (hok : HOk X.prog X.w H' h') : Inv X pins σ H' { s with heap := h', toks := t' } := by
 obtain ⟨m, ⟨o, es, ep, ho, r⟩, _⟩ := id I.loc
 obtain ⟨sl, hL⟩ := u.any ho I.free (by simp)
 exact I.step (g' := s.gens) (d' := s.drawn) (ch := []) (fun _ z => nomatch z) (fun b o _ hb _ e n => u.keep b o e n hb (by simp)) (fun b o _ hb _ e n => u.slot b o e n hb (by simp)) (fun b o _ e n => u.free b o e n (by simp)) (fun b o _ e => u.there b o e (by simp)) u.tups u.frzs u.tbls (fun m' hm => by
   obtain ⟨o', es', ep', ho', r'⟩ := hm
   rw [ho] at ho'; cases ho'
   exact ⟨_, es', ep', hL, r'⟩) hok I.bare
theorem Inv.call {g' : Array GenState} {t' : Nat} {d' : Drawn} {ch : List Addr} (I : Inv X pins σ H s) (u : Un (frs X.stack) ch H H' s.heap h') (hok : HOk X.prog X.w H' h') (hg : AllBare g')
   (hch : ∀ b ∈ ch, (b ∈ X.ex ∨ X.s₀.heap.objs.size ≤ b) ∧ b ≠ X.env.locals ∧ (∀ x c, X.env.cells.lookup x = some c → c ≠ b) ∧ ∀ p ∈ X.pn ++ pins, p.1 ≠ b) :
   Inv X pins σ H' { s with heap := h', gens := g', drawn := d', toks := t' } := by
 obtain ⟨m, ⟨o, es, ep, ho, r⟩, _⟩ := id I.loc
 obtain ⟨sl, hL⟩ := u.any ho I.free fun z => (hch _ z).2.1 rfl
 exact I.step (ch := ch) hch (fun b o hL hb hc e n => u.keep b o e n (fun z => (List.mem_cons.mp (I.stkSub b z)).elim hL hb) hc) (fun b o _ _ hc e n => u.any e n hc) (fun b o hc e n => u.free b o e n hc) (fun b o hc e => u.there b o e hc) u.tups u.frzs u.tbls (fun m' hm => by
   obtain ⟨o', es', ep', ho', r'⟩ := hm
   rw [ho] at ho'; cases ho'
   exact ⟨_, es', ep', hL, r'⟩) hok hg
theorem Inv.turned {t' : Nat} {it : Addr} (I : Inv X pins σ H s) (k : ∀ b o, b ≠ it → s.heap.get? b = some o → h'.get? b = some o) (hn : H it = none) (hL : it ≠ X.env.locals)
   (h1 : it ∈ X.ex ∨ X.s₀.heap.objs.size ≤ it) (h2 : ∀ x c, X.env.cells.lookup x = some c → c ≠ it) (h3 : ∀ p ∈ X.pn ++ pins, p.1 ≠ it) : Inv X pins σ H { s with heap := h', toks := t' } := by
 have nit : ∀ b u, H b = some u → b ≠ it := fun b u e z => by rw [z, hn] at e; cases e
 refine I.step (g' := s.gens) (d' := s.drawn) (ch := [it]) (fun b hb => ?_) (fun b o _ _ hc e _ => k b o (fun z => hc (by simp [z])) e) (fun b o _ _ hc e _ => ⟨o.slots, k b o (fun z => hc (by simp [z])) e⟩) (fun _ _ _ _ n => n)
   (fun b o hc e => ⟨o, k b o (fun z => hc (by simp [z])) e⟩) (fun _ _ e => e) (fun _ _ _ e => e) (fun b ps e => ⟨#[], by rw [e]; simp⟩) (fun m hm => ?_) (fun b u e => ?_) I.bare
 · have e : b = it := by simpa using hb
   subst e
   exact ⟨h1, hL, h2, h3⟩
 · obtain ⟨o, es, ep, ho, r⟩ := hm
   exact ⟨o, es, ep, k _ o (Ne.symm hL) ho, r⟩
 · refine (I.hok b u e).stay (fun c v hc q => k c v ?_ q) (fun _ q => q) fun _ _ q => q
   rcases hc with z | z
   · rw [z]; exact nit b u e
   · exact nit c _ z
theorem Inv.tok (I : Inv X pins σ H s) (t : Nat) : Inv X pins σ H { s with toks := t } := I.un (h' := s.heap) (t' := t) Un.refl I.hok
theorem Inv.kept {t' : Nat} (I : Inv X pins σ H s) (k : ∀ b u, s.heap.get? b = some u → h'.get? b = some u) : Inv X pins σ H { s with heap := h', toks := t' } := I.un (Un.kept k) (I.hok.kept k)
theorem Inv.laid {a : Addr} {o : HO} {t' : Nat} (I : Inv X pins σ H s) (k : ∀ b u, s.heap.get? b = some u → h'.get? b = some u) (hp : s.heap.objs.size ≤ a) (new : ObjOk X.prog X.w (upd H a o) h' a o) :
   Inv X pins σ (upd H a o) { s with heap := h', toks := t' } := I.un (Un.laid k hp (I.hok.fresh hp)) (I.hok.laid k hp new)
theorem Inv.write {x e : Addr} {o : HO} {t' : Nat} (I : Inv X pins σ H s) (mu : Mut (H x)) (he : e = x ∨ H e = some (.own x)) (k : ∀ b u, b ≠ e → s.heap.get? b = some u → h'.get? b = some u) (heo : ∃ u, h'.get? e = some u)
   (new : ObjOk X.prog X.w (upd H x o) h' x o) : Inv X pins σ (upd H x o) { s with heap := h', toks := t' } := I.un (Un.write mu he k heo) (I.hok.write mu he k heo new)
theorem Inv.weak {σ' : List (Option V)} (I : Inv X pins σ H s) (hl : σ'.length = σ.length) (w : ∀ (i : Nat) v, σ'[i]? = some (some v) → σ[i]? = some (some v)) : Inv X pins σ' H s :=
 ⟨I.ok, I.os, I.bare, I.base, let ⟨m, hn, hl'⟩ := I.loc; ⟨m, hn, fun i x v e1 e2 e3 => hl' i x v e1 (w i v e2) e3⟩, I.cell, I.free, I.freeC, I.pin, I.hok, hl.trans I.len⟩
theorem Inv.pins_of {pins' : List (Addr × Obj)} (I : Inv X pins σ H s) (h : ∀ p ∈ pins', s.heap.get? p.1 = some p.2 ∧ H p.1 = none ∧ p.1 ≠ X.env.locals ∧ p.1 ∉ X.fs ∧ ∀ v, p.2.data ≠ .cell v) : Inv X pins' σ H s :=
 ⟨I.ok, I.os, I.bare, I.base, I.loc, I.cell, I.free, I.freeC, fun p hp => (List.mem_append.mp hp).elim (fun z => I.pin p (List.mem_append_left _ z)) (h p), I.hok, I.len⟩
theorem nodup_ix {N : List Str} (hN : N.Nodup) {i j : Nat} {x : Str} (a : N[i]? = some x) (b : N[j]? = some x) : i = j := by
 obtain ⟨h1, e1⟩ := List.getElem?_eq_some_iff.mp a
 obtain ⟨h2, e2⟩ := List.getElem?_eq_some_iff.mp b
 exact (List.getElem_inj hN).mp (e1.trans e2.symm)
theorem store_ok2 {M : Model} {A : Around} {E : Value → Shared → Prop} {i : Nat} {x : Str} {v : V} {u : Value} {Q : Unit → Shared → Prop} (I : Inv X pins σ H s) (hN : X.N.Nodup) (hi : X.N[i]? = some x) (hx : Loc X.env.scope x) (r : RelV v u)
   (h : ∀ s', Inv X pins (σ.set i (some v)) H s' → (∃ a, Heap.SameBut a s.heap s'.heap ∧ (a = X.env.locals ∨ X.env.cells.lookup x = some a)) → Q () s') (hf : X.fn x = true ∨ X.env.scope.names.lookup x = some .local := by first | exact .inl rfl | exact .inr rfl | assumption) : wpAny M A (storeName X.env x u) Q E s := by
 obtain ⟨m, hn, hl⟩ := id I.loc
 have hcls : (X.env.scope.kind == .class || (X.env.scope.kind == .module && X.env.locals != X.env.globals)) = false := by rw [I.ok.kind]; rfl
 have hiσ : i < σ.length := by rw [I.len]; exact (List.getElem?_eq_some_iff.mp hi).1
 have cne := I.cne
 have tracked : ∀ {a : Addr} {h' : Heap}, (∃ o, s.heap.get? a = some o ∧ H a = none) → Heap.SameBut a s.heap h' → HOk X.prog X.w H h' := fun {a h'} ha hs b ob e => by
   obtain ⟨_, _, hfree⟩ := ha
   refine (I.hok b ob e).stay (fun c w' hc q => (hs.2 c ?_).trans q) (fun _ q => q) fun _ _ q => q
   rintro rfl
   rcases hc with rfl | hc
   · rw [hfree] at e; cases e
   · rw [hfree] at hc; cases hc
 rcases hx with hk | hk
 · refine wpAny_storeName_local hk hn (fun h' hn' hs => ?_) hcls
   obtain ⟨oL, _, _, hoL, _⟩ := id hn
   refine h _ ⟨I.ok, I.os, I.bare, ⟨fun b o e n hb hx => ?_, fun b o e n hb hx => ?_, I.base.free, fun b o e hx => ?_, I.base.tups, I.base.frzs, I.base.tbls⟩, ⟨_, hn', fun j y v' e1 e2 e3 => ?_⟩, fun y c e => ?_, I.free, I.freeC, fun p hp => ?_, tracked ⟨oL, hoL, I.free⟩ hs, by simpa using I.len⟩ ⟨_, hs, .inl rfl⟩
   · exact (hs.2 b (Nat.ne_of_lt (Nat.lt_of_lt_of_le (Heap.lt_size e) I.ok.above))).trans (I.base.keep b o e n hb hx)
   · obtain ⟨sl, e1⟩ := I.base.slot b o e n hb hx
     exact ⟨sl, (hs.2 b (Nat.ne_of_lt (Nat.lt_of_lt_of_le (Heap.lt_size e) I.ok.above))).trans e1⟩
   · obtain ⟨o', e1⟩ := I.base.there b o e hx
     exact ⟨o', (hs.2 b (Nat.ne_of_lt (Nat.lt_of_lt_of_le (Heap.lt_size e) I.ok.above))).trans e1⟩
   · by_cases hj : j = i
     · subst hj
       rw [hi] at e1; cases e1
       rw [List.getElem?_set_self hiσ] at e2
       cases e2
       exact ⟨u, r, .inl ⟨hk, by simp⟩⟩
     · rw [List.getElem?_set_ne (Ne.symm hj)] at e2
       obtain ⟨u', r', q⟩ := hl j y v' e1 e2 e3
       refine ⟨u', r', ?_⟩
       rcases q with ⟨k, e⟩ | ⟨k, c, e, z⟩
       · refine .inl ⟨k, ?_⟩
         have : y ≠ x := fun e => hj (nodup_ix hN e1 (e ▸ hi))
         simp [this, e]
       · exact .inr ⟨k, c, e, z.sameBut hs (cne y c e)⟩
   · obtain ⟨w', z⟩ := I.cell y c e
     exact ⟨w', z.sameBut hs (cne y c e)⟩
   · obtain ⟨e, n, ne, nf, d⟩ := I.pin p hp
     exact ⟨(hs.2 p.1 ne).trans e, n, ne, nf, d⟩
 · have hfn : X.fn x = true := by
     rcases hf with z | z
     · exact z
     · rw [z] at hk; cases hk
   obtain ⟨c, hc⟩ := I.ok.has x (.inl hk)
   obtain ⟨w', z⟩ := I.cell x c hc
   refine wpAny_storeName_cell I.ok.kind hk hc z (fun h' hc' hs => ?_)
   obtain ⟨oc, hoc, hocd⟩ := id z
   refine h { s with heap := h' } ⟨I.ok, I.os, I.bare, ⟨fun b o e n hb hx => ?_, fun b o e n hb hx => ?_, I.base.free, fun b o e hx => ?_, I.base.tups, I.base.frzs, I.base.tbls⟩, ⟨m, hn.sameBut hs (Ne.symm (cne x c hc)), fun j y v' e1 e2 e3 => ?_⟩, fun y c' e => ?_, I.free, I.freeC, fun p hp => ?_, tracked ⟨oc, hoc, I.freeC x c hc⟩ hs, by simpa using I.len⟩ ⟨c, hs, .inr hc⟩
   · exact (hs.2 b (Nat.ne_of_lt (Nat.lt_of_lt_of_le (Heap.lt_size e) (I.ok.cab x c hfn hc)))).trans (I.base.keep b o e n hb hx)
   · obtain ⟨sl, e1⟩ := I.base.slot b o e n hb hx
     exact ⟨sl, (hs.2 b (Nat.ne_of_lt (Nat.lt_of_lt_of_le (Heap.lt_size e) (I.ok.cab x c hfn hc)))).trans e1⟩
   · obtain ⟨o', e1⟩ := I.base.there b o e hx
     exact ⟨o', (hs.2 b (Nat.ne_of_lt (Nat.lt_of_lt_of_le (Heap.lt_size e) (I.ok.cab x c hfn hc)))).trans e1⟩
   · by_cases hj : j = i
     · subst hj
       rw [hi] at e1; cases e1
       rw [List.getElem?_set_self hiσ] at e2
       cases e2
       exact ⟨u, r, .inr ⟨.inl hk, c, hc, hc'⟩⟩
     · rw [List.getElem?_set_ne (Ne.symm hj)] at e2
       obtain ⟨u', r', q⟩ := hl j y v' e1 e2 e3
       refine ⟨u', r', ?_⟩
       rcases q with q | ⟨k, c', e, z'⟩
       · exact .inl q
       · refine .inr ⟨k, c', e, z'.sameBut hs ?_⟩
         rintro rfl
         exact hj (nodup_ix hN e1 (I.ok.inj _ _ _ e hc ▸ hi))
   · by_cases hcc : c' = c
     · subst hcc; exact ⟨_, hc'⟩
     · obtain ⟨w2, z2⟩ := I.cell y c' e
       exact ⟨w2, z2.sameBut hs hcc⟩
   · obtain ⟨e, n, ne, nf, d⟩ := I.pin p hp
     refine ⟨(hs.2 p.1 ?_).trans e, n, ne, nf, d⟩
     intro q
     rw [q, hoc] at e
     have q' : oc = p.2 := Option.some.inj e
     exact d w' (by rw [← q']; exact hocd)
theorem store_ok {M : Model} {A : Around} {E : Value → Shared → Prop} {i : Nat} {x : Str} {v : V} {u : Value} {Q : Unit → Shared → Prop} (I : Inv X pins σ H s) (hN : X.N.Nodup) (hi : X.N[i]? = some x) (hx : Loc X.env.scope x) (r : RelV v u)
   (h : ∀ s', Inv X pins (σ.set i (some v)) H s' → Q () s') (hf : X.fn x = true ∨ X.env.scope.names.lookup x = some .local := by first | exact .inl rfl | exact .inr rfl | assumption) : wpAny M A (storeName X.env x u) Q E s :=
 store_ok2 I hN hi hx r (fun s' I' _ => h s' I') hf
theorem Inv.call' {s' : Shared} {ch : List Addr} (I : Inv X pins σ H s) (ho : s'.os = s.os) (u : Un (frs X.stack) ch H H' s.heap s'.heap) (hok : HOk X.prog X.w H' s'.heap) (hg : AllBare s'.gens)
   (hch : ∀ b ∈ ch, (b ∈ X.ex ∨ X.s₀.heap.objs.size ≤ b) ∧ b ≠ X.env.locals ∧ (∀ x c, X.env.cells.lookup x = some c → c ≠ b) ∧ ∀ p ∈ X.pn ++ pins, p.1 ≠ b) : Inv X pins σ H' s' := by
 obtain ⟨h', g', d', t', o'⟩ := s'
 have e : o' = s.os := ho
 subst e
 exact I.call (g' := g') (t' := t') (d' := d') u hok hg hch
end
abbrev XK := Value → Option Addr → Hp → Prop
abbrev St := List (Option V)
abbrev VK := V → Hp → Prop
abbrev TE := St → Hp → VK → Prop
abbrev TT := St → Hp → (Bool → Hp → Prop) → Prop
abbrev TA := St → Hp → (List V → Hp → Prop) → Prop
structure Ends where
 nx : St → Hp → Prop
 rt : VK
 bk : St → Hp → Prop := fun _ _ => False
 ct : St → Hp → Prop := fun _ _ => False
abbrev TS := Ends → St → Hp → Prop
def EP (X : Cx) (pins : List (Addr × Obj)) (σ : St) (Q : VK) (u : Value) (s' : Shared) : Prop := ∃ v H', Inv X pins σ H' s' ∧ RelV v u ∧ Q v H'
def TP (X : Cx) (pins : List (Addr × Obj)) (σ : St) (Q : Bool → Hp → Prop) (b : Bool) (s' : Shared) : Prop := ∃ H', Inv X pins σ H' s' ∧ Q b H'
def AP (X : Cx) (pins : List (Addr × Obj)) (σ : St) (Q : List V → Hp → Prop) (us : List Value) (s' : Shared) : Prop := ∃ vs H', Inv X pins σ H' s' ∧ Vals vs us ∧ Q vs H'
def SP (X : Cx) (pins : List (Addr × Obj)) (D : Ends) (f : Flow) (s' : Shared) : Prop :=
 match f with
 | .next => ∃ σ' H', Inv X pins σ' H' s' ∧ D.nx σ' H'
 | .brk => ∃ σ' H', Inv X pins σ' H' s' ∧ D.bk σ' H'
 | .cont => ∃ σ' H', Inv X pins σ' H' s' ∧ D.ct σ' H'
 | .ret u => ∃ v σ' H', Inv X pins σ' H' s' ∧ RelV v u ∧ D.rt v H'
def PE (X : Cx) (e : Expr) (t : TE) : Prop :=
 ∀ (pins : List (Addr × Obj)) (s : Shared) (σ : St) (H : Hp) (Q : VK), Inv X pins σ H s → t σ H Q → wpAny (model X.prog X.w) X.A (eval e X.env) (EP X pins σ Q) X.xe s
def PT (X : Cx) (e : Expr) (t : TT) : Prop :=
 ∀ (pins : List (Addr × Obj)) (s : Shared) (σ : St) (H : Hp) (Q : Bool → Hp → Prop), Inv X pins σ H s → t σ H Q → wpAny (model X.prog X.w) X.A (isTrue e X.env (eval e X.env)) (TP X pins σ Q) X.xe s
def PW (X : Cx) (e : Expr) (t : TT) : Prop :=
 ∀ (whole : Sem Value) (pins : List (Addr × Obj)) (s : Shared) (σ : St) (H : Hp) (Q : Bool → Hp → Prop), Inv X pins σ H s → t σ H Q → wpAny (model X.prog X.w) X.A (isTrue e X.env whole) (TP X pins σ Q) X.xe s
theorem PW.pt {X : Cx} {e : Expr} {t : TT} (h : PW X e t) : PT X e t := h _
def PA (X : Cx) (es : List Expr) (t : TA) : Prop :=
 ∀ (pos : Pos) (pins : List (Addr × Obj)) (s : Shared) (σ : St) (H : Hp) (Q : List V → Hp → Prop), Inv X pins σ H s → t σ H Q → wpAny (model X.prog X.w) X.A (spliced (backTo pos (starEach es X.env))) (AP X pins σ Q) X.xe s
def PS (X : Cx) (st : Stmt) (t : TS) : Prop :=
 ∀ (pins : List (Addr × Obj)) (s : Shared) (σ : St) (H : Hp) (D : Ends), Inv X pins σ H s → t D σ H → wpAny (model X.prog X.w) X.A (exec st X.env) (SP X pins D) X.xe s
def PSs (X : Cx) (st : List Stmt) (t : TS) : Prop :=
 ∀ (pins : List (Addr × Obj)) (s : Shared) (σ : St) (H : Hp) (D : Ends), Inv X pins σ H s → t D σ H → wpAny (model X.prog X.w) X.A (execs st X.env) (SP X pins D) X.xe s
theorem thn {α : Type} {t : Sem α} {Q Q' : α → Shared → Prop} {M : Model} {A : Around} {E : Value → Shared → Prop} {s : Shared} (h : wpAny M A t Q E s) (hQ : ∀ a s, Q a s → Q' a s) : wpAny M A t Q' E s := wpAny_mono h hQ fun _ _ x => x
end L2
namespace L2
open PySem PySem.Spec PyProof.Rows
section
variable {X : Cx}
def tVar (i : Nat) : TE := fun σ H Q => ∃ v, σ[i]? = some (some v) ∧ Q v H
def tC (v : V) : TE := fun _ H Q => Q v H
theorem pe_var {i : Nat} {x : Str} {pos : Pos} (hN : X.N[i]? = some x) (hv : Vis X.env.scope x) (hd : (x == ("__debug__" : Str)) = false := by decide) (hcd : (x == ("__classdict__" : Str)) = false := by decide) : PE X (.Name x pos) (tVar i) := by
 intro pins s σ H Q I h
 obtain ⟨v, e, h⟩ := h
 obtain ⟨m, hn, hl⟩ := I.loc
 obtain ⟨u, r, l⟩ := hl i x v hN e hv
 have fin : EP X pins σ Q u s := ⟨v, H, I, r, h⟩
 rcases l with ⟨hk, hm⟩ | ⟨hk, c, hc, hcell⟩
 · exact wpAny_Name (wpAny_loadName_local I.ok.kind hk hn hm fin) hd
 · rcases hk with hk | hk
   · exact wpAny_Name (wpAny_loadName_cell I.ok.kind hk hc hcell fin) hd
   · exact wpAny_Name (wpAny_loadName_free I.ok.kind hk hc hcell fin hcd) hd
theorem eI {i j pos} : PE X (.Constant (.int i) j pos) (tC (.int i)) := fun _ _ _ H _ I h => wpAny_Constant_int ⟨.int i, H, I.tok _, ⟨_, rfl⟩, h⟩
theorem pe_bl {b j pos} : PE X (.Constant (.bool b) j pos) (tC (.bl b)) := fun _ _ _ H _ I h => Constant_bool ⟨.bl b, H, I, rfl, h⟩
theorem pe_non {j pos} : PE X (.Constant .none j pos) (tC .non) := fun _ _ _ H _ I h => Constant_none ⟨.non, H, I, rfl, h⟩
theorem pe_str {x j pos} : PE X (.Constant (.str x) j pos) (tC (.str x)) := fun _ _ _ H _ I h => Calls.Constant_str ⟨.str x, H, I.tok _, ⟨_, rfl⟩, h⟩
def Gl (X : Cx) (x : Str) : Prop := X.env.kindOf x = some .globalImplicit
theorem ld_glob {E : Value → Shared → Prop} {pins : List (Addr × Obj)} {s : Shared} {σ : St} {H : Hp} {x : Str} {u : Value} {pos : Pos} {Q : Value → Shared → Prop} (I : Inv X pins σ H s) (hg : Gl X x) (hm : X.mg x = some u) (h : Q u s)
   (hd : (x == ("__debug__" : Str)) = false := by decide) : wpAny (model X.prog X.w) X.A (eval (.Name x pos) X.env) Q E s :=
 Calls.Name_function_global I.ok.kind hg (Calls.loadGlobal_global (by rw [I.ok.glob]; exact I.mod.glob.keeps I.bk) hm h) hd
theorem ld_blt {E : Value → Shared → Prop} {pins : List (Addr × Obj)} {s : Shared} {σ : St} {H : Hp} {x : Str} {u : Value} {pos : Pos} {Q : Value → Shared → Prop} (I : Inv X pins σ H s) (hg : Gl X x) (hm : X.mg x = none) (hv : bootBuiltins x = some u) (h : Q u s)
   (hn : x ≠ "__name__" := by decide) (hd : (x == ("__debug__" : Str)) = false := by decide) : wpAny (model X.prog X.w) X.A (eval (.Name x pos) X.env) Q E s := by
 obtain ⟨mb, h1, h2⟩ := I.mod.blt
 exact Calls.Name_function_global I.ok.kind hg (Calls.loadGlobal_builtin (by rw [I.ok.glob]; exact I.mod.glob.keeps I.bk) hm (by rw [I.ok.blt]; exact h1.keeps I.bk) ((h2 x hn).trans hv) h) hd
theorem pe_glob {x : Str} {v : V} {u : Value} {pos : Pos} (hg : Gl X x) (hm : X.mg x = some u) (r : RelV v u) (hd : (x == ("__debug__" : Str)) = false := by decide) : PE X (.Name x pos) (tC v) :=
 fun _ _ _ H _ I h => ld_glob I hg hm ⟨v, H, I, r, h⟩ hd
theorem pe_bltn {x : Str} {v : V} {u : Value} {pos : Pos} (hg : Gl X x) (hm : X.mg x = none) (hv : bootBuiltins x = some u) (r : RelV v u) (hn : x ≠ "__name__" := by decide) (hd : (x == ("__debug__" : Str)) = false := by decide) : PE X (.Name x pos) (tC v) :=
 fun _ _ _ H _ I h => ld_blt I hg hm hv ⟨v, H, I, r, h⟩ hn hd
variable {a b : Expr} {ta tb : TE} {pos : Pos}
def PC (X : Cx) (op : CmpOp) (a b : Expr) (t : TE) : Prop :=
 ∀ (pins : List (Addr × Obj)) (s : Shared) (σ : St) (H : Hp) (Q : VK), Inv X pins σ H s → t σ H Q →
   wpAny (model X.prog X.w) X.A (eval a X.env) (fun v s₁ => wpAny (model X.prog X.w) X.A (eval b X.env) (fun u s₂ => wpAny (model X.prog X.w) X.A (compareOp op v u) (EP X pins σ Q) X.xe s₂) X.xe s₁) X.xe s
theorem nobehind (b : Expr) {op : CmpOp} (h : op ≠ .In) (h2 : op ≠ .NotIn) : behindInMarks op b = false := by
 have e1 : (op == CmpOp.In) = false := by cases op <;> first | rfl | exact absurd rfl h
 have e2 : (op == CmpOp.NotIn) = false := by cases op <;> first | rfl | exact absurd rfl h2
 cases b <;> simp [behindInMarks, e1, e2]
def tIsN (ta : TE) : TE := fun σ H Q => ta σ H fun x H1 => Q (.bl (decide (x = .non))) H1
def tNotN (ta : TE) : TE := fun σ H Q => ta σ H fun x H1 => Q (.bl (!decide (x = .non))) H1
theorem RelV.none_iff {x : V} {v : Value} (r : RelV x v) : (v == Value.none) = decide (x = .non) := by
 cases x with
 | non => cases r; rfl
 | bl _ => cases r; rfl
 | int _ => obtain ⟨t, rfl⟩ := r; rfl
 | str _ => obtain ⟨t, rfl⟩ := r; rfl
 | byt _ => obtain ⟨t, rfl⟩ := r; rfl
 | flt _ => obtain ⟨t, rfl⟩ := r; rfl
 | ref _ => cases r; rfl
 | ty _ => cases r; rfl
theorem pc_isN {j pos'} (ha : PE X a ta) : PC X .Is a (.Constant .none j pos') (tIsN ta) := by
 intro pins s σ H Q I h
 refine thn (ha pins s σ H _ I h) fun v s1 ⟨x, H1, I1, r1, q1⟩ => ?_
 exact Constant_none (is_none_gen ⟨.bl _, H1, I1, by rw [r1.none_iff]; rfl, q1⟩)
theorem pc_notN {j pos'} (ha : PE X a ta) : PC X .IsNot a (.Constant .none j pos') (tNotN ta) := by
 intro pins s σ H Q I h
 refine thn (ha pins s σ H _ I h) fun v s1 ⟨x, H1, I1, r1, q1⟩ => ?_
 exact Constant_none (isnot_none_gen ⟨.bl _, H1, I1, by rw [r1.none_iff]; rfl, q1⟩)
def tB (t : TE) : TT := fun σ H Q => t σ H fun x H1 => ∃ c, x = .bl c ∧ Q c H1
theorem pe_cmp {op : CmpOp} {t : TE} (h : PC X op a b t) (h1 : behindInMarks op b = false := by first | exact nobehind _ (by decide) (by decide) | rfl) : PE X (.Compare a [op] [b] pos) t := fun pins s σ H Q I hw => wpAny_Compare1 (h pins s σ H Q I hw) h1
theorem pt_cmp {op : CmpOp} {t : TE} (h : PC X op a b t) (h1 : behindInMarks op b = false := by first | exact nobehind _ (by decide) (by decide) | rfl) : PT X (.Compare a [op] [b] pos) (tB t) := by
 intro pins s σ H Q I hw
 refine wpAny_isTrue_Compare1 (thn (h pins s σ H _ I hw) fun v s1 h1 => thn h1 fun u s2 h2 => thn h2 fun c s3 ⟨x, H1, I1, r1, q1⟩ => ?_) h1
 obtain ⟨d, rfl, q⟩ := q1
 cases r1
 exact wpAny_truthy_bool ⟨H1, I1, q⟩
theorem pt_val {e : Expr} {t : TE} (h : PE X e t) (he : ∀ whole, isTrue e X.env whole = (do let v ← whole; standAt e.pos; holding [v] (truthy v)) := by intro _; rfl) : PT X e (tB t) := by
 intro pins s σ H Q I hw
 refine isTrue_plain (thn (h pins s σ H _ I hw) fun v s1 ⟨x, H1, I1, r1, q1⟩ => ?_) (he _)
 obtain ⟨d, rfl, q⟩ := q1
 cases r1
 exact wpAny_truthy_bool ⟨H1, I1, q⟩
variable {tA tB' : TT} {rest : List Expr}
def tOr (t u : TT) : TT := fun σ H Q => t σ H fun c H1 => if c = true then Q true H1 else u σ H1 Q
def tNot (t : TT) : TT := fun σ H Q => t σ H fun c H1 => Q (!c) H1
theorem pw_or1 (ha : PT X a tA) : PW X (.BoolOp .Or [a] pos) tA := by
 intro wh pins s σ H Q I h
 refine isTrue_or (thn (ha pins s σ H Q I h) fun c s1 e => ?_)
 cases c with
 | false => exact isTrue_or_nil e
 | true => exact e
theorem pw_or (ha : PT X a tA) (hb : PW X (.BoolOp .Or (b :: rest) pos) tB') : PW X (.BoolOp .Or (a :: b :: rest) pos) (tOr tA tB') := by
 intro wh pins s σ H Q I h
 refine isTrue_or (thn (ha pins s σ H _ I h) fun c s1 ⟨H1, I1, q1⟩ => ?_)
 cases c with
 | true => exact ⟨H1, I1, q1⟩
 | false => exact hb wh pins s1 σ H1 Q I1 q1
theorem pt_not (ha : PT X a tA) : PT X (.UnaryOp .Not a pos) (tNot tA) := by
 intro pins s σ H Q I h
 exact isTrue_not (ha pins s σ H (fun c H1 => Q (!c) H1) I h)
def tAndV (ta tb : TE) : TE := fun σ H Q => ta σ H fun x H1 => ∃ c, x = .bl c ∧ if c = true then tb σ H1 Q else Q (.bl false) H1
def tNotV (ta : TE) : TE := fun σ H Q => ta σ H fun x H1 => ∃ c, x = .bl c ∧ Q (.bl (!c)) H1
theorem pe_one {op} {t : TE} (h : PE X a t) : PE X (.BoolOp op [a] pos) t := fun pins s σ H Q I hw => BoolOp_one (h pins s σ H Q I hw)
theorem pe_and (ha : PE X a ta) (hb : PE X (.BoolOp .And (b :: rest) pos) tb) : PE X (.BoolOp .And (a :: b :: rest) pos) (tAndV ta tb) := by
 intro pins s σ H Q I h
 refine BoolOp_and (thn (ha pins s σ H _ I h) fun v s1 ⟨x, H1, I1, r1, q1⟩ => ?_)
 obtain ⟨c, rfl, q1⟩ := q1
 cases r1
 refine wpAny_truthy_bool ?_
 cases c with
 | true => exact hb pins s1 σ H1 Q I1 q1
 | false => exact ⟨.bl false, H1, I1, rfl, q1⟩
theorem pe_not (ha : PE X a ta) : PE X (.UnaryOp .Not a pos) (tNotV ta) := by
 intro pins s σ H Q I h
 refine UnaryOp_ (thn (ha pins s σ H _ I h) fun v s1 ⟨x, H1, I1, r1, q1⟩ => ?_)
 obtain ⟨c, rfl, q1⟩ := q1
 cases r1
 exact not_of (wpAny_truthy_bool ⟨.bl (!c), H1, I1, rfl, q1⟩)
def tIf (t : TT) (ta tb : TE) : TE := fun σ H Q => t σ H fun c H1 => if c = true then ta σ H1 Q else tb σ H1 Q
theorem pe_ifExp {c : Expr} (hc : PT X c tA) (ha : PE X a ta) (hb : PE X b tb) : PE X (.IfExp c a b pos) (tIf tA ta tb) := by
 intro pins s σ H Q I h
 refine wpAny_IfExp (thn (hc pins s σ H _ I h) fun d s1 ⟨H1, I1, q1⟩ => ?_)
 cases d with
 | true => exact ha pins s1 σ H1 Q I1 q1
 | false => exact hb pins s1 σ H1 Q I1 q1
end
end L2
namespace L2
open PySem PySem.Spec PyProof.Rows
def SqL (K : PySem.W.Frag) (H : Hp) (a : Addr) (xs : List V) : Prop :=
 Rd H a (.lst xs) ∨
   ∃ (o : Obj) (its : Array Value) (n : Nat), K.lookup a = some o ∧ o.cls = .type "list" ∧ o.dict = none ∧ o.data = .seq its n ∧ its.size ≤ sizeLine ∧ Vals xs its.toList
def SqT (K : PySem.W.Frag) (H : Hp) (a : Addr) (xs : List V) : Prop :=
 Rd H a (.tup xs) ∨
   ∃ (o : Obj) (its : Array Value) (n : Nat), K.lookup a = some o ∧ o.cls = .type "tuple" ∧ o.data = .seq its n ∧ its.size ≤ sizeLine ∧ Vals xs its.toList
def absV : Value → Option V
 | .none => some .non
 | .bool b => some (.bl b)
 | .int i _ => some (.int i)
 | .str x _ => some (.str x)
 | .bytes b _ => some (.byt b)
 | .float b _ => some (.flt b)
 | .ref a => some (.ref a)
 | .type n => some (.ty n)
 | _ => none
theorem RelV.abs {x : V} {u : Value} (r : RelV x u) : absV u = some x := by
 cases x with
 | non => cases r; rfl
 | bl _ => cases r; rfl
 | int _ => obtain ⟨t, rfl⟩ := r; rfl
 | str _ => obtain ⟨t, rfl⟩ := r; rfl
 | byt _ => obtain ⟨t, rfl⟩ := r; rfl
 | flt _ => obtain ⟨t, rfl⟩ := r; rfl
 | ref _ => cases r; rfl
 | ty _ => cases r; rfl
theorem RelV.inj {x y : V} {u : Value} (r : RelV x u) (q : RelV y u) : x = y := Option.some.inj (r.abs.symm.trans q.abs)
theorem Vals.inj : ∀ {xs ys : List V} {us : List Value}, Vals xs us → Vals ys us → xs = ys
 | _, _, _, .nil, .nil => rfl
 | _, _, _, .cons r t, .cons r' t' => by rw [r.inj r', Vals.inj t t']
section
variable {X : Cx} {pins : List (Addr × Obj)} {σ : St} {H : Hp} {s : Shared} {a : Addr} {xs ys : List V}
theorem SqL.of {K : PySem.W.Frag} (h : H a = some (.lst xs)) : SqL K H a xs := .inl (.inl h)
theorem SqT.of {K : PySem.W.Frag} (h : H a = some (.tup xs)) : SqT K H a xs := .inl (.inl h)
theorem Inv.list (I : Inv X pins σ H s) (h : SqL X.K H a xs) : ∃ its : List Value, Vals xs its ∧ PlainL s.heap a its.toArray ∧ xs.length ≤ sizeLine := by
 rcases h with h | ⟨o, its, n, hk, hc, hd, hs, hz, r⟩
 · obtain ⟨z, its, n, r, e⟩ := h.ok I.hok
   exact ⟨its, r, ⟨_, n, e, rfl, rfl, rfl⟩, z⟩
 · refine ⟨its.toList, r, ⟨o, n, I.kIn a o hk, hc, hd, by simpa using hs⟩, ?_⟩
   have e := r.length
   simp only [Array.length_toList] at e
   omega
theorem Inv.tuple (I : Inv X pins σ H s) (h : SqT X.K H a xs) : ∃ its : List Value, Vals xs its ∧ IsTup s.heap a its.toArray ∧ xs.length ≤ sizeLine := by
 rcases h with h | ⟨o, its, n, hk, hc, hs, hz, r⟩
 · obtain ⟨z, its, r, p⟩ := h.ok I.hok
   exact ⟨its, r, p, z⟩
 · refine ⟨its.toList, r, ⟨o, I.kIn a o hk, hc, n, by simpa using hs⟩, ?_⟩
   have e := r.length
   simp only [Array.length_toList] at e
   omega
theorem Inv.list_inj (I : Inv X pins σ H s) (h : SqL X.K H a xs) (h' : SqL X.K H a ys) : xs = ys := by
 obtain ⟨its, r, ⟨o, n, e, _, _, d⟩, _⟩ := I.list h
 obtain ⟨its', r', ⟨o', n', e', _, _, d'⟩, _⟩ := I.list h'
 rw [e] at e'; cases e'
 rw [d] at d'
 injection d' with d1 _
 have : its = its' := by simpa using congrArg Array.toList d1
 subst this
 exact r.inj r'
theorem Inv.tuple_inj (I : Inv X pins σ H s) (h : SqT X.K H a xs) (h' : SqT X.K H a ys) : xs = ys := by
 obtain ⟨its, r, ⟨o, e, _, n, d⟩, _⟩ := I.tuple h
 obtain ⟨its', r', ⟨o', e', _, n', d'⟩, _⟩ := I.tuple h'
 rw [e] at e'; cases e'
 rw [d] at d'
 injection d' with d1 _
 have : its = its' := by simpa using congrArg Array.toList d1
 subst this
 exact r.inj r'
end
abbrev Cx.wish (X : Cx) (E : Value → Shared → Prop) : Cx := { X with xe := E }
abbrev Cx.nox (X : Cx) : Cx := X.wish fun _ _ => False
theorem Cx.Ok.wish {X : Cx} (ok : X.Ok) (E : Value → Shared → Prop) : (X.wish E).Ok :=
 ⟨ok.mod, ok.kind, ok.glob, ok.blt, ok.above, ok.inj, ok.has, ok.cab, ok.hd, ok.frames, ok.stk, ok.exf, ok.bs, ok.bsz, ok.noex, ok.exfs, ok.funs, ok.frf⟩
theorem Cx.Ok.unwish {X : Cx} {E : Value → Shared → Prop} (ok : (X.wish E).Ok) : X.Ok :=
 ⟨ok.mod, ok.kind, ok.glob, ok.blt, ok.above, ok.inj, ok.has, ok.cab, ok.hd, ok.frames, ok.stk, ok.exf, ok.bs, ok.bsz, ok.noex, ok.exfs, ok.funs, ok.frf⟩
section
variable {X : Cx} {pins : List (Addr × Obj)} {σ : St} {H : Hp} {s : Shared} {E : Value → Shared → Prop}
theorem Inv.wish (I : Inv X pins σ H s) (E : Value → Shared → Prop) : Inv (X.wish E) pins σ H s := ⟨I.ok.wish E, I.os, I.bare, I.base, I.loc, I.cell, I.free, I.freeC, I.pin, I.hok, I.len⟩
theorem Inv.unwish (I : Inv (X.wish E) pins σ H s) : Inv X pins σ H s := ⟨I.ok.unwish, I.os, I.bare, I.base, I.loc, I.cell, I.free, I.freeC, I.pin, I.hok, I.len⟩
theorem SP.unwish {D : Ends} {f : Flow} {s' : Shared} (h : SP (X.wish E) pins D f s') : SP X pins D f s' := by
 cases f with
 | next => obtain ⟨σ', H', I, q⟩ := h; exact ⟨σ', H', I.unwish, q⟩
 | brk => obtain ⟨σ', H', I, q⟩ := h; exact ⟨σ', H', I.unwish, q⟩
 | cont => obtain ⟨σ', H', I, q⟩ := h; exact ⟨σ', H', I.unwish, q⟩
 | ret u => obtain ⟨v, σ', H', I, r, q⟩ := h; exact ⟨v, σ', H', I.unwish, r, q⟩
theorem PSs.nox {st : List Stmt} {t : TS} (h : PSs X.nox st t) : PSs X st t := fun pins s σ H D I hw =>
 wpAny_mono (h pins s σ H D (I.wish _) hw) (fun _ _ q => q.unwish) fun _ _ z => False.elim z
end
section
variable {X : Cx} {st : Stmt} {rest : List Stmt} {t u : TS} {e : Expr} {te : TE} {pos : Pos}
def tNext : TS := fun D σ H => D.nx σ H
def tSeq (t u : TS) : TS := fun D σ H => t { D with nx := u D } σ H
theorem sN : PSs X [] tNext := fun _ _ σ H _ I h => wpAny_execs_nil ⟨σ, H, I, h⟩
theorem sK (h1 : PS X st t) (h2 : PSs X rest u) : PSs X (st :: rest) (tSeq t u) := by
 intro pins s σ H D I h
 refine wpAny_execs_cons (thn (h1 pins s σ H { D with nx := u D } I h) fun f s1 q => ?_)
 cases f with
 | next =>
   obtain ⟨σ', H', I', q⟩ := q
   exact h2 pins s1 σ' H' D I' q
 | ret v => exact q
 | brk => exact q
 | cont => exact q
theorem s1' (h1 : PS X st t) : PSs X [st] t := by
 intro pins s σ H D I h
 refine wpAny_execs_cons (thn (h1 pins s σ H D I h) fun f s1 q => ?_)
 cases f with
 | next => exact wpAny_execs_nil q
 | ret v => exact q
 | brk => exact q
 | cont => exact q
theorem Inv.quiet {pins : List (Addr × Obj)} {σ : St} {H : Hp} {s : Shared} (I : Inv X pins σ H s) : interactive X.env = false := by simp [interactive, I.ok.kind]
def tDrop (te : TE) : TS := fun D σ H => te σ H fun _ H1 => D.nx σ H1
theorem ps_expr (he : PE X e te) (hs : swapsWith e none pos.line X.env = pure false := by rfl) : PS X (.Expr e pos) (tDrop te) := by
 intro pins s σ H D I h
 exact wpAny_Expr_any (thn (he pins s σ H _ I h) fun v s1 ⟨x, H1, I1, r1, q1⟩ => ⟨σ, H1, I1, q1⟩) I.quiet hs
def tRet (te : TE) : TS := fun D σ H => te σ H D.rt
theorem sR (he : PE X e te) : PS X (.Return (some e) pos) (tRet te) := by
 intro pins s σ H D I h
 exact wpAny_Return_some (thn (he pins s σ H _ I h) fun v s1 ⟨x, H1, I1, r1, q1⟩ => ⟨x, σ, H1, I1, r1, q1⟩)
def tIfS (c : TT) (t u : TS) : TS := fun D σ H => c σ H fun b H1 => if b = true then t D σ H1 else u D σ H1
theorem ps_if {c : Expr} {a b : List Stmt} {tc : TT} (hc : PT X c tc) (ha : PSs X a t) (hb : PSs X b u) : PS X (.If c a b pos) (tIfS tc t u) := by
 intro pins s σ H D I h
 refine wpAny_If (thn (hc pins s σ H _ I h) fun d s1 ⟨H1, I1, q1⟩ => ?_)
 cases d with
 | true => exact ha pins s1 σ H1 D I1 q1
 | false => exact hb pins s1 σ H1 D I1 q1
def tNever : TS := fun _ _ _ => False
theorem sV {sts : List Stmt} : PSs X sts tNever := fun _ _ _ _ _ _ h => h.elim
end
abbrev TG := V → St → Hp → (St → Hp → Prop) → Prop
abbrev TGs := List V → St → Hp → (St → Hp → Prop) → Prop
def PG (X : Cx) (target : Expr) (t : TG) : Prop :=
 ∀ (pins : List (Addr × Obj)) (s : Shared) (σ : St) (H : Hp) (v : V) (u : Value) (Q : St → Hp → Prop), Inv X pins σ H s → RelV v u → t v σ H Q →
   wpAny (model X.prog X.w) X.A (assign target X.env u) (fun _ s' => ∃ σ' H', Inv X pins σ' H' s' ∧ Q σ' H') X.xe s
def PGs (X : Cx) (ts : List Expr) (t : TGs) : Prop :=
 ∀ (pins : List (Addr × Obj)) (s : Shared) (σ : St) (H : Hp) (vs : List V) (us : List Value) (Q : St → Hp → Prop), Inv X pins σ H s → Vals vs us → t vs σ H Q →
   wpAny (model X.prog X.w) X.A (assignInOrder ((assignEach ts X.env).map (·.2)) us) (fun _ s' => ∃ σ' H', Inv X pins σ' H' s' ∧ Q σ' H') X.xe s
abbrev TSet := V → V → V → Hp → (Hp → Prop) → Prop
def PSet (X : Cx) (t : TSet) : Prop :=
 ∀ (pins : List (Addr × Obj)) (s : Shared) (σ : St) (H : Hp) (o i v : V) (ov iv u : Value) (Q : Hp → Prop), Inv X pins σ H s → RelV o ov → RelV i iv → RelV v u → t o i v H Q →
   wpAny (model X.prog X.w) X.A (setItem ov iv u) (fun _ s' => ∃ H', Inv X pins σ H' s' ∧ Q H') X.xe s
abbrev TIp := V → V → Hp → VK → Prop
def PIp (X : Cx) (op : Operator) (t : TIp) : Prop :=
 ∀ (pins : List (Addr × Obj)) (s : Shared) (σ : St) (H : Hp) (x y : V) (v u : Value) (Q : VK), Inv X pins σ H s → RelV x v → RelV y u → t x y H Q →
   wpAny (model X.prog X.w) X.A (inplaceOp op v u) (EP X pins σ Q) X.xe s
section
variable {X : Cx} {pos : Pos}
def gName (i : Nat) : TG := fun v σ H Q => Q (σ.set i (some v)) H
theorem pg_name {i : Nat} {x : Str} (hN : X.N.Nodup) (hi : X.N[i]? = some x) (hx : Loc X.env.scope x) (hf : X.fn x = true ∨ X.env.scope.names.lookup x = some .local := by first | exact .inl rfl | exact .inr rfl | assumption) : PG X (.Name x pos) (gName i) := by
 intro pins s σ H v u Q I r h
 exact wpAny_assign_Name (store_ok I hN hi hx r (fun s' I' => ⟨_, H, I', h⟩) hf)
def gNil : TGs := fun vs σ H Q => vs = [] ∧ Q σ H
def gCons (t : TG) (u : TGs) : TGs := fun vs σ H Q => ∃ v r, vs = v :: r ∧ t v σ H fun σ' H' => u r σ' H' Q
theorem pgs_nil : PGs X [] gNil := by
 intro pins s σ H vs us Q I r h
 obtain ⟨e, h⟩ := h
 subst e
 cases r
 exact assignInOrder_nil ⟨σ, H, I, h⟩
theorem pgs_cons {e : Expr} {es : List Expr} {t : TG} {u : TGs} (h1 : PG X e t) (h2 : PGs X es u)
   (hs : (assignEach (e :: es) X.env).map (·.2) = assign e X.env :: (assignEach es X.env).map (·.2) := by rfl) : PGs X (e :: es) (gCons t u) := by
 intro pins s σ H vs us Q I r h
 obtain ⟨v, vr, e1, h⟩ := h
 subst e1
 cases r with
 | cons r rr =>
   rw [hs]
   refine assignInOrder_cons (thn (h1 pins s σ H _ _ _ I r h) fun _ s1 ⟨σ1, H1, I1, q1⟩ => ?_)
   exact h2 pins s1 σ1 H1 _ _ Q I1 rr q1
def gTup (K : PySem.W.Frag) (n : Nat) (t : TGs) : TG := fun v σ H Q => ∃ a xs, v = .ref a ∧ SqT K H a xs ∧ xs.length = n ∧ t xs σ H Q
theorem pg_tup {es : List Expr} {k : Nat} {t : TGs} {n : Nat} (hc : X.calm = true) (h : PGs X es t)
   (hn : (assignEach es X.env).length = n := by rfl) (hst : (assignEach es X.env).findIdx? (·.1) = none := by rfl) : PG X (.Tuple es k pos) (gTup X.K n t) := by
 intro pins s σ H v u Q I r hw
 obtain ⟨a, xs, e1, hq, hl, hw⟩ := hw
 subst e1
 cases r
 obtain ⟨its, rv, ht, hz⟩ := I.tuple hq
 refine assign_Tuple_tuple (I.ok.hd hc) ht (by simp [hn, ← hl, rv.length]) hst fun h' hx => ?_
 have I1 : Inv X pins σ H { s with heap := h' } := I.kept (t' := s.toks) fun b o e => hx b o (Nat.ne_of_lt (Heap.lt_size e)) e
 exact h pins _ σ H xs _ Q I1 (by simpa using rv) hw
def gSub (to ti : TE) (t : TSet) : TG := fun v σ H Q => to σ H fun o H1 => ti σ H1 fun i H2 => t o i v H2 fun H3 => Q σ H3
theorem pg_sub {o i : Expr} {to ti : TE} {t : TSet} (ho : PE X o to) (hi : PE X i ti) (hs : PSet X t)
   (ha : ∀ v, assign (.Subscript o i pos) X.env v = (do
     let ov ← holding [v] (eval o X.env)
     let iv ← holding [v, ov] (eval i X.env)
     standAt pos
     holding [v, ov, iv] (setItem ov iv v)
     release [v, ov, iv] []) := by intro _; rfl) : PG X (.Subscript o i pos) (gSub to ti t) := by
 intro pins s σ H v u Q I r h
 rw [ha]
 refine wpAny_bind (wpAny_holding (thn (ho pins s σ H _ I h) fun ov s1 ⟨x, H1, I1, r1, q1⟩ => ?_))
 refine wpAny_bind (wpAny_holding (thn (hi pins s1 σ H1 _ I1 q1) fun iv s2 ⟨y, H2, I2, r2, q2⟩ => ?_))
 refine wpAny_bind (wpAny_standAt (wpAny_bind (wpAny_holding (thn (hs pins s2 σ H2 x y v ov iv u _ I2 r1 r2 r q2) fun _ s3 ⟨H3, I3, q3⟩ => ?_))))
 exact wpAny_release ⟨σ, H3, I3, q3⟩
def tAsg (te : TE) (g : TG) : TS := fun D σ H => te σ H fun x H1 => g x σ H1 D.nx
theorem ps_asg {tg e : Expr} {te : TE} {g : TG} (he : PE X e te) (hg : PG X tg g) (hs : swapsWithSole [tg] e pos.line X.env = pure false := by rfl) (hw : swappedStores [tg] e X.env = pure none := by rfl)
   (h1 : (assignEach [tg] X.env).map (·.2) = [assign tg X.env] := by rfl) : PS X (.Assign [tg] e pos) (tAsg te g) := by
 intro pins s σ H D I h
 refine wpAny_Assign_stores (thn (he pins s σ H _ I h) fun v s1 ⟨x, H1, I1, r1, q1⟩ => ?_) hs hw
 rw [h1]
 exact thn (hg pins s1 σ H1 x v _ I1 r1 q1) fun _ s2 q => q
theorem sS {i : Nat} {x : Str} {e : Expr} {te : TE} {pos' : Pos} (hN : X.N.Nodup) (hi : X.N[i]? = some x) (hx : Loc X.env.scope x) (he : PE X e te) (hs : swapsWith e (some (.Name x pos')) pos.line X.env = pure false := by rfl) (hf : X.fn x = true ∨ X.env.scope.names.lookup x = some .local := by first | exact .inl rfl | exact .inr rfl | assumption) :
   PS X (.Assign [.Name x pos'] e pos) (tAsg te (gName i)) := by
 intro pins s σ H D I h
 refine wpAny_Assign_Name (thn (he pins s σ H _ I h) fun v s1 ⟨y, H1, I1, r1, q1⟩ => ?_) hs
 exact store_ok I1 hN hi hx r1 (fun s2 I2 => ⟨_, H1, I2, q1⟩) hf
def tPar (i j : Nat) (ta : TA) : TS := fun D σ H => ta σ H fun vs H1 => ∃ v w, vs = [v, w] ∧ D.nx ((σ.set i (some v)).set j (some w)) H1
theorem ps_par {i j : Nat} {x y : Str} {a b : Expr} {ta : TA} {px py pt : Pos} {kt k2 pt2} (hc : X.calm = true) (hN : X.N.Nodup) (hi : X.N[i]? = some x) (hj : X.N[j]? = some y) (hij : i ≠ j)
   (hx : X.env.scope.names.lookup x = some .local) (hy : X.env.scope.names.lookup y = some .local) (ha : PA X [a, b] ta)
   (hw : swappedStores [.Tuple [.Name x px, .Name y py] kt pt] (.Tuple [a, b] k2 pt2) X.env = pure (some [x, y]))
   (hs : swapsWithSole [.Tuple [.Name x px, .Name y py] kt pt] (.Tuple [a, b] k2 pt2) pos.line X.env = pure false := by rfl) :
   PS X (.Assign [.Tuple [.Name x px, .Name y py] kt pt] (.Tuple [a, b] k2 pt2) pos) (tPar i j ta) := by
 intro pins s σ H D I h
 rw [exec_Assign_arm]
 refine wpAny_bind (wpAny_standAt ?_)
 rw [hs]
 refine wpAny_bind (wpAny_pure ?_)
 rw [if_neg (by decide)]
 refine wpAny_bind (Tuple_ (thn (ha _ pins s σ H _ I h) fun us s1 ⟨vs, H1, I1, r1, q1⟩ => ?_))
 obtain ⟨v, w, e1, q1⟩ := q1
 subst e1
 obtain ⟨u1, u2, rfl, rv, rw'⟩ : ∃ u1 u2, us = [u1, u2] ∧ RelV v u1 ∧ RelV w u2 := by
   cases r1 with
   | cons p q =>
     cases q with
     | cons p' q' =>
       cases q'
       exact ⟨_, _, rfl, p, p'⟩
 refine wpAny_newObj_type ?_ (by show 2 ≤ sizeLine; decide)
 have I2 : Inv X pins σ H1 { s1 with heap := s1.heap.push { cls := .type "tuple", data := .seq [u1, u2].toArray } } := I1.kept (t' := s1.toks) fun b o e => Heap.get?_push_of_some _ e
 rw [hw]
 refine wpAny_bind (wpAny_pure ?_)
 show wpAny (model X.prog X.w) X.A (do rule "assign.swapped-stores"; let items ← unpackItems (.ref s1.heap.objs.size) 2 none; assignInOrder [fun v => bindName X.env y v, fun v => bindName X.env x v] items.reverse; pure Flow.next) _ _ _
 refine wpAny_bind (wpAny_rule (wpAny_bind (unpackItems_tuple (items := #[u1, u2]) (I.ok.hd hc) (IsTup.new s1.heap _) fun h' hx' => ?_)))
 have I3 := I2.kept (h' := h') (t' := s1.toks) fun b o e => hx' b o (Nat.ne_of_lt (Heap.lt_size e)) e
 show wpAny _ _ (assignInOrder [fun v => bindName X.env y v, fun v => bindName X.env x v] [u2, u1] >>= fun _ => pure Flow.next) _ _ _
 refine wpAny_bind (assignInOrder_cons (wpAny_bindName (store_ok I3 hN hj (.inl hy) rw' (fun s2 I4 => ?_) (.inr hy))))
 refine assignInOrder_cons (wpAny_bindName (store_ok I4 hN hi (.inl hx) rv (fun s3 I5 => assignInOrder_nil (wpAny_pure ?_)) (.inr hx)))
 rw [List.set_comm _ _ (Ne.symm hij)] at I5
 exact ⟨_, H1, I5, q1⟩
def tAug (i : Nat) (te : TE) (ti : TIp) : TS := fun D σ H => ∃ x, σ[i]? = some (some x) ∧ te σ H fun y H1 => ti x y H1 fun z H2 => D.nx (σ.set i (some z)) H2
theorem ps_aug {i : Nat} {x : Str} {e : Expr} {te : TE} {op : Operator} {ti : TIp} {pos' : Pos} (hN : X.N.Nodup) (hi : X.N[i]? = some x) (hx : Loc X.env.scope x) (he : PE X e te) (ho : PIp X op ti) (hf : X.fn x = true ∨ X.env.scope.names.lookup x = some .local := by first | exact .inl rfl | exact .inr rfl | assumption) :
   PS X (.AugAssign (.Name x pos') op e pos) (tAug i te ti) := by
 intro pins s σ H D I h
 obtain ⟨v, e1, h⟩ := h
 obtain ⟨m, hn, hl⟩ := I.loc
 have vis : Vis X.env.scope x := by rcases hx with k | k; exact .inl k; exact .inr (.inl k)
 obtain ⟨u, r, l⟩ := hl i x v hi e1 vis
 refine wpAny_AugAssign_Name ?_
 have go : wpAny (model X.prog X.w) X.A (eval e X.env) (fun w s₂ => wpAny (model X.prog X.w) X.A (inplaceOp op u w) (fun r s₃ => wpAny (model X.prog X.w) X.A (storeName X.env x r) (fun _ => SP X pins D .next) X.xe s₃) X.xe s₂) X.xe s := by
   refine thn (he pins s σ H _ I h) fun w s1 ⟨y, H1, I1, r1, q1⟩ => ?_
   refine thn (ho pins s1 σ H1 v y u w _ I1 r r1 q1) fun z s2 ⟨zv, H2, I2, r2, q2⟩ => ?_
   exact store_ok I2 hN hi hx r2 (fun s3 I3 => ⟨_, H2, I3, q2⟩) hf
 rcases l with ⟨hk, hm⟩ | ⟨hk, c, hc, hcell⟩
 · exact wpAny_loadName_local I.ok.kind hk hn hm go
 · rcases hk with hk | hk
   · exact wpAny_loadName_cell I.ok.kind hk hc hcell go
   · rcases hx with k | k
     · have : X.env.scope.names.lookup x = some .free := hk
       rw [k] at this; cases this
     · have : X.env.scope.names.lookup x = some .free := hk
       rw [k] at this; cases this
def ipI (f : Int → Int → Int) : TIp := fun x y H Q => ∃ i j, x = .int i ∧ y = .int j ∧ Q (.int (f i j)) H
theorem ip_add : PIp X .Add (ipI fun i j => i + j) := by
 intro pins s σ H x y v u Q I r1 r2 h
 obtain ⟨i, j, e1, e2, q⟩ := h
 subst e1; subst e2
 obtain ⟨t, rfl⟩ := r1
 obtain ⟨t', rfl⟩ := r2
 exact iadd_int ⟨.int _, H, I.tok _, ⟨_, rfl⟩, q⟩
end
section
variable {X : Cx} {pos : Pos}
def tWhile (c : TT) (tb : TS) : TS := fun D σ H => ∃ W : Nat → St → Hp → Prop, (∃ m, W m σ H) ∧ ∀ m σ H, W m σ H →
 c σ H fun b H1 => if b = true then ∃ N : St → Hp → Prop, (∀ σ' H', N σ' H' → ∃ m', m' < m ∧ W m' σ' H') ∧ tb { D with nx := N, ct := N, bk := D.nx } σ H1 else D.nx σ H1
theorem ps_while {c : Expr} {body : List Stmt} {tc : TT} {tb : TS} (hp : PassesOwn (model X.prog X.w) X.A X.env X.xe) (hc : PT X c tc) (hb : PSs X body tb) : PS X (.While c body [] pos) (tWhile tc tb) := by
 intro pins s σ H D I h
 obtain ⟨W, ⟨m0, w0⟩, turn⟩ := h
 refine wpAny_While (codeAny_whileLoop (fun n s' => ∃ σ' H', Inv X pins σ' H' s' ∧ W n σ' H') ?_ m0 ⟨σ, H, I, w0⟩)
 rintro n s1 ⟨σ1, H1, I1, w1⟩
 refine wpAny_passesOwn hp (thn (hc pins s1 σ1 H1 _ I1 (turn n σ1 H1 w1)) fun b s2 ⟨H2, I2, q2⟩ => ?_)
 cases b with
 | true =>
   obtain ⟨N, hN, q2⟩ := q2
   rw [if_pos rfl]
   refine wpAny_passesOwn hp (thn (hb pins s2 σ1 H2 _ I2 q2) fun f s3 q3 => ?_)
   cases f with
   | next =>
     obtain ⟨σ3, H3, I3, n3⟩ := q3
     obtain ⟨m', hm, w3⟩ := hN σ3 H3 n3
     exact ⟨m', hm, σ3, H3, I3, w3⟩
   | cont =>
     obtain ⟨σ3, H3, I3, n3⟩ := q3
     obtain ⟨m', hm, w3⟩ := hN σ3 H3 n3
     exact ⟨m', hm, σ3, H3, I3, w3⟩
   | brk => exact q3
   | ret v => exact q3
 | false =>
   rw [if_neg Bool.false_ne_true]
   exact wpAny_execs_nil ⟨σ1, H2, I2, q2⟩
end
structure It where
 go : Nat → Hp → Prop
 yld : Nat → Hp → V → Hp → Prop
 stop : Nat → Hp → Prop
def FpOk (X : Cx) (pins : List (Addr × Obj)) (H : Hp) (b : Addr) : Prop :=
 H b = none ∧ b ≠ X.env.locals ∧ b ∉ X.fs ∧ (b ∈ X.ex ∨ X.s₀.heap.objs.size ≤ b) ∧ (∀ x c, X.env.cells.lookup x = some c → c ≠ b) ∧ ∀ p ∈ X.pn ++ pins, p.1 ≠ b
theorem Inv.fpOk {X : Cx} {pins : List (Addr × Obj)} {σ : St} {H H' : Hp} {s : Shared} {b : Addr} (I : Inv X pins σ H s) (hb : s.heap.objs.size ≤ b) (hn : H' b = none) : FpOk X pins H' b := by
 refine ⟨hn, Nat.ne_of_gt (Nat.lt_of_lt_of_le I.lt hb), I.nofs hb, .inr (Nat.le_trans I.sz hb), fun x c e z => ?_, fun p hp z => ?_⟩
 · obtain ⟨v, q⟩ := I.cell x c e
   exact absurd (Nat.lt_of_lt_of_le q.lt (by rw [z]; exact hb)) (Nat.lt_irrefl _)
 · exact absurd (Nat.lt_of_lt_of_le (Heap.lt_size (I.pin p hp).1) (by rw [z]; exact hb)) (Nat.lt_irrefl _)
structure Turn (P : Program) (w : World) (K : PySem.W.Frag) (tg : Expr) (J : It) (fp : List Addr) (it : Addr) (tn : Nat → Heap → Prop) : Prop where
 mem : it ∈ fp
 obj : ∀ i h, tn i h → ∀ b ∈ fp, ∃ o, h.get? b = some o ∧ ∀ v, o.data ≠ .cell v
 keep : ∀ i h h', tn i h → (∀ b ∈ fp, ∀ o, h.get? b = some o → h'.get? b = some o) → tn i h'
 item : ∀ (X : Cx), X.prog = P → X.w = w → X.K = K → X.calm = true → ∀ (i : Nat) (pins : List (Addr × Obj)) (s : Shared) (σ : St) (H : Hp) (E : Value → Shared → Prop), Inv X pins σ H s → (∀ b ∈ fp, FpOk X pins H b) → tn i s.heap → J.go i H →
   wpAny (model P w) X.A (pyNext (.ref it)) (fun r s1 => ∃ u, r = some u ∧
     wpAny (model P w) X.A (letOwnedTupleGo tg (.ref it) u) (fun _ s2 => ∃ x H', Inv X pins σ H' s2 ∧ RelV x u ∧ J.yld i H x H' ∧ tn (i + 1) s2.heap ∧ ∀ b ∈ fp, H' b = none) E s1) E s
 done : ∀ (X : Cx), X.prog = P → X.w = w → X.K = K → X.calm = true → ∀ (i : Nat) (pins : List (Addr × Obj)) (s : Shared) (σ : St) (H : Hp) (E : Value → Shared → Prop), Inv X pins σ H s → (∀ b ∈ fp, FpOk X pins H b) → tn i s.heap → J.stop i H →
   wpAny (model P w) X.A (pyNext (.ref it)) (fun r s1 => r = none ∧ Inv X pins σ H s1) E s
 self : ∀ (A : Around) (i : Nat) (s : Shared) (Q : Value → Shared → Prop) (E : Value → Shared → Prop), tn i s.heap → Q (.ref it) s → wpAny (model P w) A (pyIter (.ref it)) Q E s
abbrev TI := St → Hp → (It → Hp → Prop) → Prop
def PIE (X : Cx) (pins : List (Addr × Obj)) (σ : St) (tg : Expr) (R : It → Hp → Prop) (itv : Value) (s2 : Shared) : Prop :=
 ∃ (it : Addr) (fp : List Addr) (tn : Nat → Heap → Prop) (J : It) (H' : Hp), itv = .ref it ∧ Inv X pins σ H' s2 ∧ Turn X.prog X.w X.K tg J fp it tn ∧ tn 0 s2.heap ∧ (∀ b ∈ fp, FpOk X pins H' b) ∧ R J H'
def PI (X : Cx) (tg iter : Expr) (wi : TI) : Prop :=
 ∀ (pins : List (Addr × Obj)) (s : Shared) (σ : St) (H : Hp) (R : It → Hp → Prop), Inv X pins σ H s → wi σ H R →
   wpAny (model X.prog X.w) X.A (eval iter X.env) (fun v s1 => wpAny (model X.prog X.w) X.A (pyIter v) (PIE X pins σ tg R) X.xe s1) X.xe s
theorem go_of {M : Model} {A : Around} {E : Value → Shared → Prop} {s : Shared} {tg : Expr} {it : Addr} {u : Value} {o : Obj} {n : String} {vs : Array Value} {Q : Unit → Shared → Prop} (ho : s.heap.get? it = some o) (hc : o.cls = .type n) (hd : o.data = .fields vs)
   (hn : ["enumerate", "zip", "dict_itemiterator", "dict_reverseitemiterator", "odict_iterator", "itertools.zip_longest", "itertools.pairwise"].contains n = false) (hQ : Q () s) : wpAny M A (letOwnedTupleGo tg (.ref it) u) Q E s := by
 unfold letOwnedTupleGo
 cases tg <;> first
   | exact wpAny_pure hQ
   | (cases u <;> first
       | exact wpAny_pure hQ
       | (refine wpAny_bind (wpAny_load ho ?_)
          rw [hc, hd]
          show wpAny M A (if (["enumerate", "zip", "dict_itemiterator", "dict_reverseitemiterator", "odict_iterator", "itertools.zip_longest", "itertools.pairwise"].contains n && vs[0]? == some (rawInt _)) = true then _ else _) Q E s
          rw [if_neg (by intro h; rw [hn, Bool.false_and] at h; cases h)]
          exact wpAny_pure hQ))
def Itl (K : PySem.W.Frag) (a : Addr) : It :=
 ⟨fun i H => ∃ xs x, SqL K H a xs ∧ xs[i]? = some x, fun i H x H' => H' = H ∧ ∀ xs, SqL K H a xs → xs[i]? = some x, fun i H => ∃ xs, SqL K H a xs ∧ xs.length ≤ i⟩
def Itt (K : PySem.W.Frag) (a : Addr) : It :=
 ⟨fun i H => ∃ xs x, SqT K H a xs ∧ xs[i]? = some x, fun i H x H' => H' = H ∧ ∀ xs, SqT K H a xs → xs[i]? = some x, fun i H => ∃ xs, SqT K H a xs ∧ xs.length ≤ i⟩
def Itr (lo : Int) (n : Nat) : It := ⟨fun i _ => i < n, fun i H x H' => H' = H ∧ x = .int (lo + i), fun i _ => n ≤ i⟩
theorem turn_list {P : Program} {w : World} {K : PySem.W.Frag} {tg : Expr} (a it : Addr) : Turn P w K tg (Itl K a) [it] it (fun i h => h.IsListIter it a i) where
 mem := by simp
 obj := fun i h st b hb => by
   have e : b = it := by simpa using hb
   subst e
   obtain ⟨o, e, c, d⟩ := st
   exact ⟨o, e, fun v z => by rw [d] at z; cases z⟩
 keep := fun i h h' st k => st.at fun o e => k it (by simp) o e
 item := by
   intro X hP hw hK hc i pins s σ H E I hf st hg
   subst hP hw hK
   obtain ⟨xs, x, hq, hx⟩ := hg
   obtain ⟨its, rv, p, hz⟩ := I.list hq
   obtain ⟨u, hu, ru⟩ := rv.get hx
   obtain ⟨f0, f1, f2, f3, f4, f5⟩ := hf it (by simp)
   refine wpAny_pyNext_list_item st p.isList (x := u) (by simpa using hu) fun h' st' sb => ?_
   have I1 : Inv X pins σ H { s with heap := h' } := I.turned (t' := s.toks) (fun b o hb e => (sb.2 b hb).trans e) f0 f1 f3 f4 f5
   obtain ⟨o, e, c, d⟩ := id st'
   exact ⟨u, rfl, go_of (s := { s with heap := h' }) e c d (by decide) ⟨x, H, I1, ru, ⟨rfl, fun ys hy => by rw [I.list_inj hy hq]; exact hx⟩, st', fun b hb => (hf b hb).1⟩⟩
 done := by
   intro X hP hw hK hc i pins s σ H E I hf st hg
   subst hP hw hK
   obtain ⟨xs, hq, hx⟩ := hg
   obtain ⟨its, rv, p, hz⟩ := I.list hq
   obtain ⟨f0, f1, f2, f3, f4, f5⟩ := hf it (by simp)
   have hl := rv.length
   exact wpAny_pyNext_list_end (I.ok.hd hc) st p.isList (by simp; omega) fun h' eb => ⟨rfl, I.turned (t' := s.toks) (fun b o hb e => eb b o hb e) f0 f1 f3 f4 f5⟩
 self := fun _ _ _ _ _ st h => wpAny_pyIter_listiter st h
theorem turn_tuple {P : Program} {w : World} {K : PySem.W.Frag} {tg : Expr} (a it : Addr) : Turn P w K tg (Itt K a) [it] it (fun i h => h.IsTupleIter it a i) where
 mem := by simp
 obj := fun i h st b hb => by
   have e : b = it := by simpa using hb
   subst e
   obtain ⟨o, e, c, d⟩ := st
   exact ⟨o, e, fun v z => by rw [d] at z; cases z⟩
 keep := fun i h h' st k => st.at fun o e => k it (by simp) o e
 item := by
   intro X hP hw hK hc i pins s σ H E I hf st hg
   subst hP hw hK
   obtain ⟨xs, x, hq, hx⟩ := hg
   obtain ⟨its, rv, p, hz⟩ := I.tuple hq
   obtain ⟨u, hu, ru⟩ := rv.get hx
   obtain ⟨f0, f1, f2, f3, f4, f5⟩ := hf it (by simp)
   refine wpAny_pyNext_tuple_item st (show s.heap.IsTuple a its.toArray from p) (x := u) (by simpa using hu) fun h' st' sb => ?_
   have I1 : Inv X pins σ H { s with heap := h' } := I.turned (t' := s.toks) (fun b o hb e => (sb.2 b hb).trans e) f0 f1 f3 f4 f5
   obtain ⟨o, e, c, d⟩ := id st'
   exact ⟨u, rfl, go_of (s := { s with heap := h' }) e c d (by decide) ⟨x, H, I1, ru, ⟨rfl, fun ys hy => by rw [I.tuple_inj hy hq]; exact hx⟩, st', fun b hb => (hf b hb).1⟩⟩
 done := by
   intro X hP hw hK hc i pins s σ H E I hf st hg
   subst hP hw hK
   obtain ⟨xs, hq, hx⟩ := hg
   obtain ⟨its, rv, p, hz⟩ := I.tuple hq
   obtain ⟨f0, f1, f2, f3, f4, f5⟩ := hf it (by simp)
   have hl := rv.length
   exact wpAny_pyNext_tuple_end (I.ok.hd hc) st (show s.heap.IsTuple a its.toArray from p) (by simp; omega) fun h' eb => ⟨rfl, I.turned (t' := s.toks) (fun b o hb e => eb b o hb e) f0 f1 f3 f4 f5⟩
 self := fun _ _ _ _ _ st h => wpAny_pyIter_tupleiter st h
theorem turn_range {P : Program} {w : World} {K : PySem.W.Frag} {tg : Expr} (it : Addr) (lo : Int) (n : Nat) : Turn P w K tg (Itr lo n) [it] it (fun i h => IsRangeIter h it (lo + (i : Nat) * 1) ((n : Int) - (i : Nat)) 1) where
 mem := by simp
 obj := fun i h st b hb => by
   have e : b = it := by simpa using hb
   subst e
   exact ⟨_, st, fun v z => by
     have z' : Data.fields _ = Data.cell v := z
     cases z'⟩
 keep := fun i h h' st k => k it (by simp) _ st
 item := by
   intro X hP hw hK hc i pins s σ H E I hf st hg
   subst hP hw hK
   obtain ⟨f0, f1, f2, f3, f4, f5⟩ := hf it (by simp)
   have W := Walks.range (prog := X.prog) (w := X.w) (I.ok.hd hc) it lo 1 n
   refine W.item i s _ _ hg st fun v h' tk hv st' kk => ?_
   obtain ⟨t, rfl⟩ := hv
   have I1 : Inv X pins σ H { s with heap := h', toks := tk } := I.turned (fun b o hb e => kk b o (by simpa using hb) e) f0 f1 f3 f4 f5
   refine ⟨_, rfl, go_of (s := { s with heap := h', toks := tk }) (n := "range_iterator") st' rfl rfl (by decide) ⟨.int (lo + i), H, I1, ⟨t, ?_⟩, ⟨rfl, rfl⟩, st', fun b hb => (hf b hb).1⟩⟩
   rw [Int.mul_one]
 done := by
   intro X hP hw hK hc i pins s σ H E I hf st hg
   subst hP hw hK
   obtain ⟨f0, f1, f2, f3, f4, f5⟩ := hf it (by simp)
   exact wpAny_pyNext_range_end (I.ok.hd hc) st (by have : n ≤ i := hg; omega) fun h' eb => ⟨rfl, I.turned (t' := s.toks) (fun b o hb e => eb b o hb e) f0 f1 f3 f4 f5⟩
 self := fun _ _ _ _ _ st h => wpAny_pyIter_rangeiter st h
end L2
namespace L2
open PySem PySem.Spec PyProof.Rows
section
variable {X : Cx} {tg : Expr}
def iList (K : PySem.W.Frag) (tl : TE) : TI := fun σ H R => tl σ H fun x H1 => ∃ a, x = .ref a ∧ (∃ xs, SqL K H1 a xs) ∧ R (Itl K a) H1
def iTup (K : PySem.W.Frag) (tl : TE) : TI := fun σ H R => tl σ H fun x H1 => ∃ a, x = .ref a ∧ (∃ xs, SqT K H1 a xs) ∧ R (Itt K a) H1
theorem pi_list {l : Expr} {tl : TE} (hl : PE X l tl) : PI X tg l (iList X.K tl) := by
 intro pins s σ H R I h
 refine thn (hl pins s σ H _ I h) fun v s1 ⟨x, H1, I1, r1, q1⟩ => ?_
 obtain ⟨a, e, ⟨xs, hq⟩, q⟩ := q1
 subst e
 cases r1
 obtain ⟨its, rv, p, hz⟩ := I1.list hq
 refine wpAny_pyIter_list p.isList ?_
 refine ⟨s1.heap.objs.size, [s1.heap.objs.size], _, _, H1, rfl, I1.kept (t' := s1.toks) fun b o e => Heap.get?_push_of_some _ e, turn_list a _, ⟨_, Heap.get?_push_size _ rfl, rfl, rfl⟩, fun b hb => ?_, q⟩
 have e : b = s1.heap.objs.size := by simpa using hb
 subst e
 exact I1.fpOk (Nat.le_refl _) (I1.hok.fresh (Nat.le_refl _))
theorem pi_tup {l : Expr} {tl : TE} (hl : PE X l tl) : PI X tg l (iTup X.K tl) := by
 intro pins s σ H R I h
 refine thn (hl pins s σ H _ I h) fun v s1 ⟨x, H1, I1, r1, q1⟩ => ?_
 obtain ⟨a, e, ⟨xs, hq⟩, q⟩ := q1
 subst e
 cases r1
 obtain ⟨its, rv, p, hz⟩ := I1.tuple hq
 refine wpAny_pyIter_tuple (show s1.heap.IsTuple a its.toArray from p) ?_
 refine ⟨s1.heap.objs.size, [s1.heap.objs.size], _, _, H1, rfl, I1.kept (t' := s1.toks) fun b o e => Heap.get?_push_of_some _ e, turn_tuple a _, ⟨_, Heap.get?_push_size _ rfl, rfl, rfl⟩, fun b hb => ?_, q⟩
 have e : b = s1.heap.objs.size := by simpa using hb
 subst e
 exact I1.fpOk (Nat.le_refl _) (I1.hok.fresh (Nat.le_refl _))
theorem range_it {pins : List (Addr × Obj)} {σ : St} {H : Hp} {s : Shared} {R : It → Hp → Prop} {E : Value → Shared → Prop} {lo hi : Int} {t u v : Tok} {tk : Nat} (I : Inv X pins σ H s) (h1 : -(2 ^ 62) ≤ lo) (h2 : lo < 2 ^ 62) (h3 : -(2 ^ 62) ≤ hi) (h4 : hi < 2 ^ 62)
   (q : R (Itr lo (hi - lo).toNat) H) : wpAny (model X.prog X.w) X.A (pyIter (.ref s.heap.objs.size)) (PIE X pins σ tg R) E { s with heap := s.heap.push { cls := .type "range", data := .fields #[.int lo t, .int hi u, .int 1 v] }, toks := tk } := by
 refine wpAny_pyIter_range (IsRange.new ..) (small_one h1 h2 h3 h4) ?_
 have I1 : Inv X pins σ H { s with heap := s.heap.push { cls := .type "range", data := .fields #[.int lo t, .int hi u, .int 1 v] }, toks := tk } := I.kept fun b o e => Heap.get?_push_of_some _ e
 refine ⟨(s.heap.push { cls := .type "range", data := .fields #[.int lo t, .int hi u, .int 1 v] }).objs.size, [(s.heap.push { cls := .type "range", data := .fields #[.int lo t, .int hi u, .int 1 v] }).objs.size], _, _, H, rfl,
   I1.kept (t' := tk) fun b o e => Heap.get?_push_of_some _ e, turn_range _ lo (hi - lo).toNat, ?_, fun b hb => ?_, q⟩
 · have e1 : lo + ((0 : Nat) : Int) * 1 = lo := by simp
   have e2 : (((hi - lo).toNat : Nat) : Int) - ((0 : Nat) : Int) = Builtin.Range.rangeSize lo hi 1 := by rw [rangeSize_one]; split <;> omega
   show IsRangeIter _ _ (lo + ((0 : Nat) : Int) * 1) ((((hi - lo).toNat : Nat) : Int) - ((0 : Nat) : Int)) 1
   rw [e1, e2]
   exact Heap.get?_push_size _ rfl
 · have e : b = (s.heap.push { cls := .type "range", data := .fields #[.int lo t, .int hi u, .int 1 v] }).objs.size := by simpa using hb
   subst e
   exact I1.fpOk (Nat.le_refl _) (I1.hok.fresh (Nat.le_refl _))
def iRng1 (ta : TA) : TI := fun σ H R => ta σ H fun vs H1 => ∃ j : Int, vs = [.int j] ∧ -(2 ^ 62) ≤ j ∧ j < 2 ^ 62 ∧ R (Itr 0 j.toNat) H1
theorem pi_range1 {a : Expr} {ta : TA} {p pos : Pos} (hg : Gl X "range") (hm : X.mg "range" = none) (ha : PA X [a] ta) (hs : starEach [a] X.env = [(false, eval a X.env)] := by rfl) : PI X tg (.Call (.Name "range" p) [a] [] pos) (iRng1 ta) := by
 intro pins s σ H R I h
 refine Call_ (ld_blt I hg hm boot_range (PyProof.Rows.callWith_type1 (thn (ha pos pins s σ H _ I h) fun us s1 ⟨vs, H1, I1, r1, q1⟩ => ?_) hs rfl))
 obtain ⟨j, e, q1, q2, q⟩ := q1
 subst e
 cases r1 with
 | cons r rr =>
   cases rr
   obtain ⟨t, rfl⟩ := r
   exact call_range_1 (range_it I1 (by omega) (by omega) q1 q2 (by simpa using q))
def tFor (wi : TI) (g : TG) (tb : TS) : TS := fun D σ H => wi σ H fun J H1 => ∃ W : Nat → Nat → St → Hp → Prop, (∃ m, W 0 m σ H1) ∧ ∀ i m σ H, W i m σ H →
 (J.stop i H ∧ D.nx σ H) ∨ (J.go i H ∧ ∃ N : St → Hp → Prop, (∀ σ' H', N σ' H' → ∃ m', m' < m ∧ W (i + 1) m' σ' H') ∧ ∀ x H', J.yld i H x H' → g x σ H' fun σ2 H2 => tb { D with nx := N, ct := N, bk := D.nx } σ2 H2)
def pinsAt (fp : List Addr) (h : Heap) : List (Addr × Obj) := fp.filterMap fun b => (h.get? b).map fun o => (b, o)
theorem mem_pinsAt {fp : List Addr} {h : Heap} {b : Addr} {o : Obj} (hb : b ∈ fp) (e : h.get? b = some o) : (b, o) ∈ pinsAt fp h := List.mem_filterMap.mpr ⟨b, hb, by rw [e]; rfl⟩
theorem of_pinsAt {fp : List Addr} {h : Heap} {p : Addr × Obj} (hp : p ∈ pinsAt fp h) : p.1 ∈ fp ∧ h.get? p.1 = some p.2 := by
 obtain ⟨b, hb, e⟩ := List.mem_filterMap.mp hp
 cases q : h.get? b with
 | none => rw [q] at e; cases e
 | some o =>
   rw [q] at e
   have e' : (b, o) = p := Option.some.inj e
   subst e'
   exact ⟨hb, q⟩
theorem Inv.pinned {pins : List (Addr × Obj)} {σ : St} {H : Hp} {s : Shared} {fp : List Addr} (I : Inv X pins σ H s) (hf : ∀ b ∈ fp, FpOk X pins H b) (ho : ∀ b ∈ fp, ∃ o, s.heap.get? b = some o ∧ ∀ v, o.data ≠ .cell v) : Inv X (pins ++ pinsAt fp s.heap) σ H s :=
 I.pins_of fun p hp => (List.mem_append.mp hp).elim (fun z => I.pin p (List.mem_append_right _ z)) fun z => by
   obtain ⟨hb, e⟩ := of_pinsAt z
   obtain ⟨f0, f1, f2, _⟩ := hf p.1 hb
   obtain ⟨o, e', d⟩ := ho p.1 hb
   rw [e] at e'; cases e'
   exact ⟨e, f0, f1, f2, d⟩
theorem Inv.unpinned {pins pl : List (Addr × Obj)} {σ : St} {H : Hp} {s : Shared} (I : Inv X (pins ++ pl) σ H s) : Inv X pins σ H s := I.pins_of fun p hp => I.pin p (List.mem_append_right _ (List.mem_append_left _ hp))
theorem ps_for {iter : Expr} {body : List Stmt} {wi : TI} {g : TG} {tb : TS} {pos : Pos} (hp : PassesOwn (model X.prog X.w) X.A X.env X.xe) (hc : X.calm = true) (hi : PI X tg iter wi) (hg : PG X tg g) (hb : PSs X body tb)
   (hs : ∀ x, foldedSetIterable iter X.env x = pure x := by intro _; rfl) : PS X (.For tg iter body [] pos) (tFor wi g tb) := by
 intro pins s σ H D I h
 refine wpAny_For (thn (hi pins s σ H _ I h) fun v s1 h1 => thn h1 fun itv s2 h2 => ?_) hs
 obtain ⟨it, fp, tn, J, H2, e, I2, T, st2, f2, W, ⟨m0, w0⟩, turn⟩ := h2
 subst e
 have stat : ∀ {H' : Hp}, (∀ b ∈ fp, H' b = none) → ∀ b ∈ fp, FpOk X pins H' b := fun hn b hb => ⟨hn b hb, (f2 b hb).2⟩
 refine codeAny_forLoop_any (fun n s' => ∃ i σ' H', Inv X pins σ' H' s' ∧ tn i s'.heap ∧ (∀ b ∈ fp, H' b = none) ∧ W i n σ' H') ?_ m0 ⟨0, σ, H2, I2, st2, fun b hb => (f2 b hb).1, w0⟩
 rintro n s3 ⟨i, σ3, H3, I3, st3, fr3, w3⟩
 rcases turn i n σ3 H3 w3 with ⟨stop, qn⟩ | ⟨go, N, hN, step⟩
 · refine wpAny_passesOwn hp (thn (T.done X rfl rfl rfl hc i pins s3 σ3 H3 X.xe I3 (stat fr3) st3 stop) fun r s4 ⟨hr, I4⟩ => ?_)
   subst hr
   exact wpAny_execs_nil ⟨σ3, H3, I4, qn⟩
 · refine wpAny_passesOwn hp (thn (T.item X rfl rfl rfl hc i pins s3 σ3 H3 X.xe I3 (stat fr3) st3 go) fun r s4 ⟨u, hr, h4⟩ => ?_)
   subst hr
   refine wpAny_passesOwn hp (thn h4 fun _ s5 ⟨x, H5, I5, r5, y5, st5, fr5⟩ => ?_)
   have I5' := I5.pinned (stat fr5) (T.obj _ _ st5)
   refine wpAny_passesOwn hp (thn (hg _ s5 σ3 H5 x u _ I5' r5 (step x H5 y5)) fun _ s6 ⟨σ6, H6, I6, q6⟩ => ?_)
   refine wpAny_passesOwn hp (thn (hb _ s6 σ6 H6 _ I6 q6) fun f s7 q7 => ?_)
   have again : ∀ {σ7 : St} {H7 : Hp}, Inv X (pins ++ pinsAt fp s5.heap) σ7 H7 s7 → N σ7 H7 → ∃ m, m < n ∧ ∃ i σ' H', Inv X pins σ' H' s7 ∧ tn i s7.heap ∧ (∀ b ∈ fp, H' b = none) ∧ W i m σ' H' := fun {σ7 H7} I7 n7 => by
     obtain ⟨m', hm, w7⟩ := hN σ7 H7 n7
     refine ⟨m', hm, i + 1, σ7, H7, I7.unpinned, T.keep _ _ _ st5 fun b hb o e => (I7.pin (b, o) (List.mem_append_right _ (List.mem_append_right _ (mem_pinsAt hb e)))).1, fun b hb => ?_, w7⟩
     obtain ⟨o, e, d⟩ := T.obj _ _ st5 b hb
     exact (I7.pin (b, o) (List.mem_append_right _ (List.mem_append_right _ (mem_pinsAt hb e)))).2.1
   cases f with
   | next => obtain ⟨σ7, H7, I7, n7⟩ := q7; exact again I7 n7
   | cont => obtain ⟨σ7, H7, I7, n7⟩ := q7; exact again I7 n7
   | brk => obtain ⟨σ7, H7, I7, q7⟩ := q7; exact ⟨σ7, H7, I7.unpinned, q7⟩
   | ret v => obtain ⟨x7, σ7, H7, I7, r7, q7⟩ := q7; exact ⟨x7, σ7, H7, I7.unpinned, r7, q7⟩
end
theorem for_list {K : PySem.W.Frag} {a : Addr} {xs : List V} {g : TG} {tb : TS} {D : Ends} {σ : St} {H : Hp} (Pv : Nat → St → Hp → Prop) (h0 : Pv 0 σ H) (hl : ∀ i σ H, i ≤ xs.length → Pv i σ H → SqL K H a xs)
   (hs : ∀ i x σ H, xs[i]? = some x → Pv i σ H → g x σ H fun σ2 H2 => tb { D with nx := Pv (i + 1), ct := Pv (i + 1), bk := D.nx } σ2 H2) (hd : ∀ σ H, Pv xs.length σ H → D.nx σ H) :
   ∃ W : Nat → Nat → St → Hp → Prop, (∃ m, W 0 m σ H) ∧ ∀ i m σ H, W i m σ H →
     ((Itl K a).stop i H ∧ D.nx σ H) ∨ ((Itl K a).go i H ∧ ∃ N : St → Hp → Prop, (∀ σ' H', N σ' H' → ∃ m', m' < m ∧ W (i + 1) m' σ' H') ∧ ∀ x H', (Itl K a).yld i H x H' → g x σ H' fun σ2 H2 => tb { D with nx := N, ct := N, bk := D.nx } σ2 H2) := by
 refine ⟨fun i m σ H => m = xs.length - i ∧ i ≤ xs.length ∧ Pv i σ H, ⟨xs.length, by simp, Nat.zero_le _, h0⟩, ?_⟩
 rintro i m σ H ⟨rfl, hi, p⟩
 have q := hl i σ H hi p
 by_cases hlt : i < xs.length
 · refine .inr ⟨⟨xs, xs[i], q, by simp [hlt]⟩, Pv (i + 1), fun σ' H' p' => ⟨xs.length - (i + 1), by omega, rfl, hlt, p'⟩, fun x H' y => ?_⟩
   obtain ⟨e, y⟩ := y
   subst e
   exact hs i x σ _ (y xs q) p
 · have e : i = xs.length := by omega
   subst e
   exact .inl ⟨⟨xs, q, Nat.le_refl _⟩, hd σ H p⟩
theorem for_tup {K : PySem.W.Frag} {a : Addr} {xs : List V} {g : TG} {tb : TS} {D : Ends} {σ : St} {H : Hp} (Pv : Nat → St → Hp → Prop) (h0 : Pv 0 σ H) (hl : ∀ i σ H, i ≤ xs.length → Pv i σ H → SqT K H a xs)
   (hs : ∀ i x σ H, xs[i]? = some x → Pv i σ H → g x σ H fun σ2 H2 => tb { D with nx := Pv (i + 1), ct := Pv (i + 1), bk := D.nx } σ2 H2) (hd : ∀ σ H, Pv xs.length σ H → D.nx σ H) :
   ∃ W : Nat → Nat → St → Hp → Prop, (∃ m, W 0 m σ H) ∧ ∀ i m σ H, W i m σ H →
     ((Itt K a).stop i H ∧ D.nx σ H) ∨ ((Itt K a).go i H ∧ ∃ N : St → Hp → Prop, (∀ σ' H', N σ' H' → ∃ m', m' < m ∧ W (i + 1) m' σ' H') ∧ ∀ x H', (Itt K a).yld i H x H' → g x σ H' fun σ2 H2 => tb { D with nx := N, ct := N, bk := D.nx } σ2 H2) := by
 refine ⟨fun i m σ H => m = xs.length - i ∧ i ≤ xs.length ∧ Pv i σ H, ⟨xs.length, by simp, Nat.zero_le _, h0⟩, ?_⟩
 rintro i m σ H ⟨rfl, hi, p⟩
 have q := hl i σ H hi p
 by_cases hlt : i < xs.length
 · refine .inr ⟨⟨xs, xs[i], q, by simp [hlt]⟩, Pv (i + 1), fun σ' H' p' => ⟨xs.length - (i + 1), by omega, rfl, hlt, p'⟩, fun x H' y => ?_⟩
   obtain ⟨e, y⟩ := y
   subst e
   exact hs i x σ _ (y xs q) p
 · have e : i = xs.length := by omega
   subst e
   exact .inl ⟨⟨xs, q, Nat.le_refl _⟩, hd σ H p⟩
theorem for_range {lo : Int} {n : Nat} {g : TG} {tb : TS} {D : Ends} {σ : St} {H : Hp} (Pv : Nat → St → Hp → Prop) (h0 : Pv 0 σ H)
   (hs : ∀ i σ H, i < n → Pv i σ H → g (.int (lo + i)) σ H fun σ2 H2 => tb { D with nx := Pv (i + 1), ct := Pv (i + 1), bk := D.nx } σ2 H2) (hd : ∀ σ H, Pv n σ H → D.nx σ H) :
   ∃ W : Nat → Nat → St → Hp → Prop, (∃ m, W 0 m σ H) ∧ ∀ i m σ H, W i m σ H →
     ((Itr lo n).stop i H ∧ D.nx σ H) ∨ ((Itr lo n).go i H ∧ ∃ N : St → Hp → Prop, (∀ σ' H', N σ' H' → ∃ m', m' < m ∧ W (i + 1) m' σ' H') ∧ ∀ x H', (Itr lo n).yld i H x H' → g x σ H' fun σ2 H2 => tb { D with nx := N, ct := N, bk := D.nx } σ2 H2) := by
 refine ⟨fun i m σ H => m = n - i ∧ i ≤ n ∧ Pv i σ H, ⟨n, by simp, Nat.zero_le _, h0⟩, ?_⟩
 rintro i m σ H ⟨rfl, hi, p⟩
 by_cases hlt : i < n
 · refine .inr ⟨hlt, Pv (i + 1), fun σ' H' p' => ⟨n - (i + 1), by omega, rfl, hlt, p'⟩, fun x H' y => ?_⟩
   obtain ⟨e, y⟩ := y
   subst e y
   exact hs i σ _ hlt p
 · have e : i = n := by omega
   subst e
   exact .inl ⟨Nat.le_refl _, hd σ H p⟩
end L2
namespace L2
open PySem PySem.Spec PyProof.Rows
abbrev R2 := V → V → Hp → VK → Prop
def OpR (X : Cx) (f : Value → Value → Sem Value) (r : R2) : Prop :=
 ∀ (pins : List (Addr × Obj)) (s : Shared) (σ : St) (H : Hp) (x y : V) (v u : Value) (Q : VK), Inv X pins σ H s → RelV x v → RelV y u → r x y H Q →
   wpAny (model X.prog X.w) X.A (f v u) (EP X pins σ Q) X.xe s
def CallR (X : Cx) (f : Value) (r : List V → Hp → VK → Prop) : Prop :=
 ∀ (pins : List (Addr × Obj)) (s : Shared) (σ : St) (H : Hp) (xs : List V) (us : List Value) (Q : VK), Inv X pins σ H s → Vals xs us → r xs H Q →
   wpAny (model X.prog X.w) X.A (call f us) (EP X pins σ Q) X.xe s
def tOp (r : R2) (ta tb : TE) : TE := fun σ H Q => ta σ H fun x H1 => tb σ H1 fun y H2 => r x y H2 Q
def rI (C : Int → Int → Prop) (g : Int → Int → V) : R2 := fun x y H Q => ∃ i j, x = .int i ∧ y = .int j ∧ C i j ∧ Q (g i j) H
def rI0 (g : Int → Int → V) : R2 := fun x y H Q => ∃ i j, x = .int i ∧ y = .int j ∧ Q (g i j) H
section
variable {X : Cx} {a b c : Expr} {ta tb tc : TE} {pos : Pos}
theorem binT (ha : PE X a ta) (hb : PE X b tb) {pins : List (Addr × Obj)} {s : Shared} {σ : St} {H : Hp} {R : V → V → Hp → Prop} (I : Inv X pins σ H s)
   (h : ta σ H fun x H1 => tb σ H1 fun y H2 => R x y H2) {Q : Value → Shared → Prop} {f : Value → Value → Sem Value}
   (hf : ∀ v u s2 x y H2, Inv X pins σ H2 s2 → RelV x v → RelV y u → R x y H2 → wpAny (model X.prog X.w) X.A (f v u) Q X.xe s2) :
   wpAny (model X.prog X.w) X.A (eval a X.env) (fun v s₁ => wpAny (model X.prog X.w) X.A (eval b X.env) (fun u s₂ => wpAny (model X.prog X.w) X.A (f v u) Q X.xe s₂) X.xe s₁) X.xe s := by
 refine thn (ha pins s σ H _ I h) fun v s1 ⟨x, H1, I1, r1, q1⟩ => ?_
 refine thn (hb pins s1 σ H1 _ I1 q1) fun u s2 ⟨y, H2, I2, r2, q2⟩ => ?_
 exact hf v u s2 x y H2 I2 r1 r2 q2
theorem pe_op {op : Operator} {r : R2} (ho : OpR X (binaryOp op) r) (ha : PE X a ta) (hb : PE X b tb) : PE X (.BinOp a op b pos) (tOp r ta tb) := by
 intro pins s σ H Q I h
 exact wpAny_BinOp (binT ha hb I h fun v u s2 x y H2 I2 rx ry q => ho pins s2 σ H2 x y v u Q I2 rx ry q)
theorem opI {f : Value → Value → Sem Value} {C : Int → Int → Prop} {g : Int → Int → Int}
   (rule : ∀ (i j : Int) (t u : Tok) (s : Shared) (Q : Value → Shared → Prop) (E : Value → Shared → Prop), C i j → Q (.int (g i j) s.toks) { s with toks := s.toks + 1 } → wpAny (model X.prog X.w) X.A (f (.int i t) (.int j u)) Q E s) :
   OpR X f (rI C fun i j => .int (g i j)) := by
 intro pins s σ H x y v u Q I rx ry h
 obtain ⟨i, j, rfl, rfl, hc, q⟩ := h
 obtain ⟨t, rfl⟩ := rx
 obtain ⟨t', rfl⟩ := ry
 exact rule i j t t' s _ _ hc ⟨.int (g i j), H, I.tok _, ⟨_, rfl⟩, q⟩
theorem opI0 {f : Value → Value → Sem Value} {g : Int → Int → Int}
   (rule : ∀ (i j : Int) (t u : Tok) (s : Shared) (Q : Value → Shared → Prop) (E : Value → Shared → Prop), Q (.int (g i j) s.toks) { s with toks := s.toks + 1 } → wpAny (model X.prog X.w) X.A (f (.int i t) (.int j u)) Q E s) :
   OpR X f (rI0 fun i j => .int (g i j)) := by
 intro pins s σ H x y v u Q I rx ry h
 obtain ⟨i, j, rfl, rfl, q⟩ := h
 obtain ⟨t, rfl⟩ := rx
 obtain ⟨t', rfl⟩ := ry
 exact rule i j t t' s _ _ ⟨.int (g i j), H, I.tok _, ⟨_, rfl⟩, q⟩
theorem opB0 {f : Value → Value → Sem Value} {g : Int → Int → Bool}
   (rule : ∀ (i j : Int) (t u : Tok) (s : Shared) (Q : Value → Shared → Prop) (E : Value → Shared → Prop), Q (.bool (g i j)) s → wpAny (model X.prog X.w) X.A (f (.int i t) (.int j u)) Q E s) :
   OpR X f (rI0 fun i j => .bl (g i j)) := by
 intro pins s σ H x y v u Q I rx ry h
 obtain ⟨i, j, rfl, rfl, q⟩ := h
 obtain ⟨t, rfl⟩ := rx
 obtain ⟨t', rfl⟩ := ry
 exact rule i j t t' s _ _ ⟨.bl (g i j), H, I, rfl, q⟩
def CPow (i j : Int) : Prop := 0 ≤ j ∧ j ≤ 1000000 ∧ i.natAbs < 2 ^ 64
def CMul (i j : Int) : Prop := (-(2 ^ 64) < i ∧ i < 2 ^ 64) ∨ (-(2 ^ 64) < j ∧ j < 2 ^ 64)
theorem CMul.ok {i j : Int} (h : CMul i j) : IntMulOk i j := by
 rcases h with ⟨h1, h2⟩ | ⟨h1, h2⟩
 · exact .of_left (intBits_le_64 h1 h2)
 · exact .of_right (intBits_le_64 h1 h2)
theorem two_pow_nn (k : Nat) : (0 : Int) ≤ 2 ^ k := by
 rw [two_pow_cast]
 exact Int.natCast_nonneg _
theorem op_add : OpR X (binaryOp .Add) (rI0 fun i j => .int (i + j)) := opI0 fun _ _ _ _ _ _ _ q => add_int q
theorem op_sub : OpR X (binaryOp .Sub) (rI0 fun i j => .int (i - j)) := opI0 fun _ _ _ _ _ _ _ q => sub_int q
theorem op_mul : OpR X (binaryOp .Mult) (rI CMul fun i j => .int (i * j)) := opI fun _ _ _ _ _ _ _ hc q => mul_int q hc.ok
theorem op_mod : OpR X (binaryOp .Mod) (rI (fun _ j => 0 < j) fun i j => .int (i % j)) := opI fun i j _ _ _ _ _ hc q => by
 have h1 : (0 : Int) < j := hc
 exact mod_int' (by omega) (by rw [Int.fmod_eq_emod_of_nonneg i (by omega)]; exact q)
theorem op_shl : OpR X (binaryOp .LShift) (rI CPow fun i j => .int (i * 2 ^ j.toNat)) := opI fun _ _ _ _ _ _ _ hc q => lshift_int_small hc.1 hc.2.1 hc.2.2 q
theorem op_shr : OpR X (binaryOp .RShift) (rI (fun _ j => 0 ≤ j) fun i j => .int (i / 2 ^ j.toNat)) := opI fun i j _ _ _ _ _ hc q =>
 rshift_int hc (by rw [Int.fdiv_eq_ediv_of_nonneg i (two_pow_nn _)]; exact q)
theorem op_and : OpR X (binaryOp .BitAnd) (rI0 fun i j => .int (Builtin.bitAnd i j)) := opI0 fun _ _ _ _ _ _ _ q => and_int q
end
def scal : V → V → Bool
 | .non, .non => true | .non, .int _ => true | .int _, .non => true | .non, .bl _ => true | .bl _, .non => true | .non, .str _ => true | .str _, .non => true
 | .int _, .int _ => true | .bl _, .bl _ => true | .str _, .str _ => true | .byt _, .byt _ => true
 | .int _, .str _ => true | .str _, .int _ => true | .bl _, .str _ => true | .str _, .bl _ => true
 | _, _ => false
def rEq : R2 := fun x y H Q => scal x y = true ∧ Q (.bl (decide (x = y))) H
def rNe : R2 := fun x y H Q => scal x y = true ∧ Q (.bl (!decide (x = y))) H
theorem dec_int {i j : Int} : decide (V.int i = V.int j) = (i == j) := by
 rw [Bool.eq_iff_iff]
 simp
theorem dec_bl {i j : Bool} : decide (V.bl i = V.bl j) = (i == j) := by
 rw [Bool.eq_iff_iff]
 simp
theorem dec_str {i j : Str} : decide (V.str i = V.str j) = (i == j) := by
 rw [Bool.eq_iff_iff]
 simp
theorem dec_byt {i j : Array UInt8} : decide (V.byt i = V.byt j) = (i.toList == j.toList) := by
 rw [Bool.eq_iff_iff]
 cases i
 cases j
 simp
section
variable {X : Cx} {a b c : Expr} {ta tb tc : TE} {pos : Pos}
theorem fin_bl {pins : List (Addr × Obj)} {σ : St} {H : Hp} {s : Shared} {Q : VK} {k k' : Bool} (I : Inv X pins σ H s) (q : Q (.bl k) H) (e : k = k') : EP X pins σ Q (.bool k') s := by
 subst e
 exact ⟨.bl k, H, I, rfl, q⟩
theorem op_eq : OpR X (compareOp .Eq) rEq := by
 intro pins s σ H x y v u Q I rx ry h
 obtain ⟨hs, q⟩ := h
 cases x with
 | non =>
   cases rx
   cases y with
   | non => cases ry; exact PySem.EqNone.eq_none_none (fin_bl I q (by simp))
   | bl j => cases ry; exact PySem.EqNone.eq_none_bool (fin_bl I q (by simp))
   | int j => obtain ⟨t', rfl⟩ := ry; exact PySem.EqNone.eq_none_int (fin_bl I q (by simp))
   | str j => obtain ⟨t', rfl⟩ := ry; exact PySem.EqNone.eq_none_str (fin_bl I q (by simp))
   | _ => exact absurd (show false = true from hs) Bool.false_ne_true
 | bl i =>
   cases rx
   cases y with
   | non => cases ry; exact PySem.EqNone.eq_bool_none (fin_bl I q (by simp))
   | bl j => cases ry; exact eq_bool (fin_bl I q dec_bl)
   | str j => obtain ⟨t', rfl⟩ := ry; exact PySem.EqMixed.eq_bool_str (fin_bl I q (by simp))
   | _ => exact absurd (show false = true from hs) Bool.false_ne_true
 | int i =>
   obtain ⟨t, rfl⟩ := rx
   cases y with
   | non => cases ry; exact PySem.EqNone.eq_int_none (fin_bl I q (by simp))
   | int j => obtain ⟨t', rfl⟩ := ry; exact eq_int (fin_bl I q dec_int)
   | str j => obtain ⟨t', rfl⟩ := ry; exact PySem.EqMixed.eq_int_str (fin_bl I q (by simp))
   | _ => exact absurd (show false = true from hs) Bool.false_ne_true
 | str i =>
   obtain ⟨t, rfl⟩ := rx
   cases y with
   | non => cases ry; exact PySem.EqNone.eq_str_none (fin_bl I q (by simp))
   | bl j => cases ry; exact PySem.EqMixed.eq_str_bool (fin_bl I q (by simp))
   | int j => obtain ⟨t', rfl⟩ := ry; exact PySem.EqMixed.eq_str_int (fin_bl I q (by simp))
   | str j => obtain ⟨t', rfl⟩ := ry; exact eq_str (fin_bl I q dec_str)
   | _ => exact absurd (show false = true from hs) Bool.false_ne_true
 | byt i =>
   obtain ⟨t, rfl⟩ := rx
   cases y with
   | byt j => obtain ⟨t', rfl⟩ := ry; exact PySem.W.eq_bytes (fin_bl I q dec_byt)
   | _ => exact absurd (show false = true from hs) Bool.false_ne_true
 | _ => cases y <;> exact absurd (show false = true from hs) Bool.false_ne_true
theorem op_ne : OpR X (compareOp .NotEq) rNe := by
 intro pins s σ H x y v u Q I rx ry h
 obtain ⟨hs, q⟩ := h
 cases x with
 | non =>
   cases rx
   cases y with
   | non => cases ry; exact PySem.EqNone.ne_none_none (fin_bl I q (by simp))
   | bl j => cases ry; exact PySem.EqNone.ne_none_bool (fin_bl I q (by simp))
   | int j => obtain ⟨t', rfl⟩ := ry; exact PySem.EqNone.ne_none_int (fin_bl I q (by simp))
   | str j => obtain ⟨t', rfl⟩ := ry; exact PySem.EqNone.ne_none_str (fin_bl I q (by simp))
   | _ => exact absurd (show false = true from hs) Bool.false_ne_true
 | bl i =>
   cases rx
   cases y with
   | non => cases ry; exact PySem.EqNone.ne_bool_none (fin_bl I q (by simp))
   | bl j => cases ry; exact ne_bool (fin_bl I q (congrArg not dec_bl))
   | str j => obtain ⟨t', rfl⟩ := ry; exact PySem.EqMixed.ne_bool_str (fin_bl I q (by simp))
   | _ => exact absurd (show false = true from hs) Bool.false_ne_true
 | int i =>
   obtain ⟨t, rfl⟩ := rx
   cases y with
   | non => cases ry; exact PySem.EqNone.ne_int_none (fin_bl I q (by simp))
   | int j => obtain ⟨t', rfl⟩ := ry; exact ne_int (fin_bl I q (congrArg not dec_int))
   | str j => obtain ⟨t', rfl⟩ := ry; exact PySem.EqMixed.ne_int_str (fin_bl I q (by simp))
   | _ => exact absurd (show false = true from hs) Bool.false_ne_true
 | str i =>
   obtain ⟨t, rfl⟩ := rx
   cases y with
   | non => cases ry; exact PySem.EqNone.ne_str_none (fin_bl I q (by simp))
   | bl j => cases ry; exact PySem.EqMixed.ne_str_bool (fin_bl I q (by simp))
   | int j => obtain ⟨t', rfl⟩ := ry; exact PySem.EqMixed.ne_str_int (fin_bl I q (by simp))
   | str j => obtain ⟨t', rfl⟩ := ry; exact ne_str (fin_bl I q (congrArg not dec_str))
   | _ => exact absurd (show false = true from hs) Bool.false_ne_true
 | byt i =>
   obtain ⟨t, rfl⟩ := rx
   cases y with
   | byt j => obtain ⟨t', rfl⟩ := ry; exact PySem.W.ne_bytes (fin_bl I q (congrArg not dec_byt))
   | _ => exact absurd (show false = true from hs) Bool.false_ne_true
 | _ => cases y <;> exact absurd (show false = true from hs) Bool.false_ne_true
theorem op_lt : OpR X (compareOp .Lt) (rI0 fun i j => .bl (decide (i < j))) := opB0 fun _ _ _ _ _ _ _ q => lt_int q
theorem op_le : OpR X (compareOp .LtE) (rI0 fun i j => .bl (decide (i ≤ j))) := opB0 fun _ _ _ _ _ _ _ q => le_int q
theorem op_gt : OpR X (compareOp .Gt) (rI0 fun i j => .bl (decide (j < i))) := opB0 fun _ _ _ _ _ _ _ q => gt_int q
theorem op_ge : OpR X (compareOp .GtE) (rI0 fun i j => .bl (decide (j ≤ i))) := opB0 fun _ _ _ _ _ _ _ q => ge_int q
theorem nomark (b : Expr) {op : CmpOp} (h : op ≠ .In := by decide) (h2 : op ≠ .NotIn := by decide) : behindInMarks op b = false := by
 have e1 : (op == CmpOp.In) = false := by cases op <;> first | rfl | exact absurd rfl h
 have e2 : (op == CmpOp.NotIn) = false := by cases op <;> first | rfl | exact absurd rfl h2
 cases b <;> simp [behindInMarks, e1, e2]
theorem pe_cmpR {op : CmpOp} {r : R2} (ho : OpR X (compareOp op) r) (ha : PE X a ta) (hb : PE X b tb) (hm : behindInMarks op b = false) : PE X (.Compare a [op] [b] pos) (tOp r ta tb) := by
 intro pins s σ H Q I h
 exact wpAny_Compare1 (binT ha hb I h fun v u s2 x y H2 I2 rx ry q => ho pins s2 σ H2 x y v u Q I2 rx ry q) hm
def tTest (t : TE) : TT := fun σ H Q => t σ H fun x H' => ∃ k, x = .bl k ∧ Q k H'
theorem pt_cmpR {op : CmpOp} {r : R2} (ho : OpR X (compareOp op) r) (ha : PE X a ta) (hb : PE X b tb) (hm : behindInMarks op b = false) : PT X (.Compare a [op] [b] pos) (tTest (tOp r ta tb)) := by
 intro pins s σ H Q I h
 refine wpAny_isTrue_Compare1 (thn (ha pins s σ H _ I h) fun v s1 ⟨x, H1, I1, r1, q1⟩ => thn (hb pins s1 σ H1 _ I1 q1) fun u s2 ⟨y, H2, I2, r2, q2⟩ =>
   thn (ho pins s2 σ H2 x y v u _ I2 r1 r2 q2) fun c s3 ⟨z, H3, I3, r3, k, e, q3⟩ => ?_) hm
 subst e
 cases r3
 exact wpAny_truthy_bool ⟨H3, I3, q3⟩
def tChain (r r' : R2) (ta tb tc : TE) : TE := fun σ H Q => ta σ H fun x H1 => tb σ H1 fun y H2 => r x y H2 fun z H3 => ∃ k, z = .bl k ∧
 (if k = true then tc σ H3 fun w' H4 => r' y w' H4 Q else Q (.bl false) H3)
theorem pe_chain {op op' : CmpOp} {r r' : R2} (ho : OpR X (compareOp op) r) (ho' : OpR X (compareOp op') r') (ha : PE X a ta) (hb : PE X b tb) (hc : PE X c tc)
   (hm : lastMarks [op, op'] [b, c] = false := by with_unfolding_all rfl) : PE X (.Compare a [op, op'] [b, c] pos) (tChain r r' ta tb tc) := by
 intro pins s σ H Q I h
 refine Compare_chain (thn (ha pins s σ H _ I h) fun v s1 ⟨x, H1, I1, r1, q1⟩ => chain_link (thn (hb pins s1 σ H1 _ I1 q1) fun u s2 ⟨y, H2, I2, r2, q2⟩ =>
   thn (ho pins s2 σ H2 x y v u _ I2 r1 r2 q2) fun d s3 ⟨z, H3, I3, r3, k, e, q3⟩ => ?_)) hm
 subst e
 cases r3
 refine wpAny_truthy_bool ?_
 cases k with
 | false => exact ite_ff ⟨.bl false, H3, I3, rfl, q3⟩
 | true => exact ite_tt (chain_last (thn (hc pins s3 σ H3 _ I3 q3) fun w' s4 ⟨z', H4, I4, r4, q4⟩ => ho' pins s4 σ H4 y z' u w' Q I4 r2 r4 q4))
theorem pt_chain {op op' : CmpOp} {r r' : R2} (ho : OpR X (compareOp op) r) (ho' : OpR X (compareOp op') r') (ha : PE X a ta) (hb : PE X b tb) (hc : PE X c tc)
   (hm : lastMarks [op, op'] [b, c] = false := by with_unfolding_all rfl) : PT X (.Compare a [op, op'] [b, c] pos) (tTest (tChain r r' ta tb tc)) := by
 intro pins s σ H Q I h
 refine isTrue_chain (thn (ha pins s σ H _ I h) fun v s1 ⟨x, H1, I1, r1, q1⟩ => test_link (thn (hb pins s1 σ H1 _ I1 q1) fun u s2 ⟨y, H2, I2, r2, q2⟩ =>
   thn (ho pins s2 σ H2 x y v u _ I2 r1 r2 q2) fun d s3 ⟨z, H3, I3, r3, k, e, q3⟩ => ?_)) hm
 subst e
 cases r3
 refine wpAny_truthy_bool ?_
 cases k with
 | false =>
   obtain ⟨k', e', q'⟩ := q3
   cases e'
   exact ite_ff ⟨H3, I3, q'⟩
 | true =>
   refine ite_tt (test_last (thn (hc pins s3 σ H3 _ I3 q3) fun w' s4 ⟨z', H4, I4, r4, q4⟩ => thn (ho' pins s4 σ H4 y z' u w' _ I4 r2 r4 q4) fun d' s5 ⟨z2, H5, I5, r5, k2, e2, q5⟩ => ?_))
   subst e2
   cases r5
   exact wpAny_truthy_bool ⟨H5, I5, q5⟩
theorem line63 : (sizeLine : Nat) < 2 ^ 63 := by rw [sizeLine_eq]; decide
theorem vals1 {x : V} {us : List Value} (r : Vals [x] us) : ∃ u, us = [u] ∧ RelV x u := by
 cases r with
 | cons r1 r2 => cases r2; exact ⟨_, rfl, r1⟩
theorem vals2 {x y : V} {us : List Value} (r : Vals [x, y] us) : ∃ u w', us = [u, w'] ∧ RelV x u ∧ RelV y w' := by
 cases r with
 | cons r1 r2 =>
   cases r2 with
   | cons r3 r4 => cases r4; exact ⟨_, _, rfl, r1, r3⟩
theorem call_min2 (hc : X.calm = true) : CallR X (.builtin "min") (fun xs H Q => ∃ i j, xs = [.int i, .int j] ∧ Q (.int (if j < i then j else i)) H) := by
 intro pins s σ H xs us Q I r h
 obtain ⟨i, j, rfl, q⟩ := h
 obtain ⟨u, w', rfl, ⟨t, rfl⟩, ⟨t', rfl⟩⟩ := vals2 r
 refine min_two_ints (I.ok.hd hc) fun h' tk k => ⟨_, H, I.kept k, ?_, q⟩
 by_cases hj : j < i
 · rw [if_pos hj, if_pos hj]; exact ⟨_, rfl⟩
 · rw [if_neg hj, if_neg hj]; exact ⟨_, rfl⟩
theorem call_str_int : CallR X (.type "str") (fun xs H Q => ∃ i, xs = [.int i] ∧ i.natAbs.log2 < 1920 ∧ Q (.str (toString i)) H) := by
 intro pins s σ H xs us Q I r h
 obtain ⟨i, rfl, hz, q⟩ := h
 obtain ⟨u, rfl, t, rfl⟩ := vals1 r
 exact PySem.P.str_of_int hz ⟨.str _, H, I.tok _, ⟨_, rfl⟩, q⟩
end
end L2
namespace L2
open PySem PySem.Spec PyProof.Rows
structure ObjM (h : Heap) (x dx C : Addr) (mA : Str → Option Value) : Prop where
 obj : h.get? x = some (PySem.W.instObj C dx)
 ns : h.Ns1 dx mA
 ne : dx ≠ x
theorem lookIn_ns {h : Heap} {dx : Addr} {mA : Str → Option Value} (n : h.Ns1 dx mA) : ∃ od, h.get? dx = some od ∧ ∀ name, PySem.W.lookIn name od = some (mA name) := by
 obtain ⟨o, es, ep, ho, hd, hk, _, hm⟩ := n
 refine ⟨o, ho, fun name => ?_⟩
 have e := hm name
 unfold nsFind findBy at e
 rw [← Array.find?_toList] at e
 unfold PySem.W.lookIn
 rw [hd]
 dsimp only
 split
 · rename_i y q
   rw [q] at e
   exact congrArg some e
 · rename_i q
   rw [q] at e
   have a : es.toList.any (·.refKey) = false := by
     rw [List.any_eq_false]
     intro y hy
     obtain ⟨z, t, hkey⟩ := hk y (Array.mem_toList_iff.mp hy)
     simp [DictEntry.refKey, hkey]
   have a' : ¬ es.toList.any (·.refKey) = true := by rw [a]; exact Bool.false_ne_true
   rw [if_neg a']
   exact congrArg some e
theorem ObjM.look {h : Heap} {x dx C : Addr} {mA : Str → Option Value} (I : ObjM h x dx C mA) : ∃ od, PySem.W.InstAt h x (PySem.W.instObj C dx) C (some od) ∧ ∀ name, PySem.W.lookIn name od = some (mA name) :=
 let ⟨od, ho, hl⟩ := lookIn_ns I.ns
 ⟨od, ⟨I.obj, rfl, rfl, ho⟩, hl⟩
section
variable {prog : Program} {w : World} {A : Around} {E : Value → Shared → Prop} {s : Shared} {K : PySem.W.Frag} {x dx C f : Addr} {mA : Str → Option Value} {name : Str} {v : Value}
theorem get_map {expr : Bool} {Q : Value → Shared → Prop} (X : K.In s.heap) (I : ObjM s.heap x dx C mA) (hg : PySem.W.plainGet K C name = true) (hh : PySem.W.hasDictIn K C = true)
   (ha : PySem.W.findIn K (.ref C) name = some none) (hv : mA name = some v) (hv' : PySem.W.handedIn v = true) (h : Q v { s with toks := s.toks + 1 }) :
   wpAny (model prog w) A (getAttr (.ref x) name expr) Q E s := by
 obtain ⟨od, J, hl⟩ := I.look
 exact PySem.W.get_value X J (PySem.W.plainGet_of hg).1 (PySem.W.findObj_own hh ha rfl (by rw [hl, hv])) hv' h
theorem get_meth {pl : Sem Bool} {Q : Value × List Value → Shared → Prop} (X : K.In s.heap) (I : ObjM s.heap x dx C mA) (hg : PySem.W.plainGet K C name = true)
   (hf : PySem.W.findIn K (.ref C) name = some (some (.ref f))) (ht : PySem.W.isFn K (.ref f) = true) (hv : mA name = none) (h : Q (.ref f, [.ref x]) s) :
   wpAny (model prog w) A (getMethod (.ref x) name pl) Q E s := by
 obtain ⟨od, J, hl⟩ := I.look
 exact PySem.W.method_fn X J (PySem.W.plainGet_of hg).1 (PySem.W.plainGet_of hg).2 hf (beq_iff_eq.mp ht) (by show (PySem.W.lookIn name od).map (·.isSome) = some false; rw [hl, hv]; rfl) h
theorem set_map {ns : List Str} {Q : Unit → Shared → Prop} (X : K.In s.heap) (I : ObjM s.heap x dx C mA)
   (hs : PySem.W.findIn K (.ref C) "__setattr__" = some (some (.builtin "object.__setattr__"))) (hp : PySem.W.plainOver K C = true) (ht : PySem.W.takerIn K C name = some none) (hh : PySem.W.hasDictIn K C = true)
   (hw : PySem.Within mA ns) (hsz : ns.length ≤ sizeLine)
   (h : ∀ h', ObjM h' x dx C (fun y => if y = name then some v else mA y) → Heap.SameBut dx s.heap h' → Q () { s with heap := h', toks := s.toks + 2 }) :
   wpAny (model prog w) A (setAttr (.ref x) name v) Q E s := by
 obtain ⟨od, J, hl⟩ := I.look
 refine PySem.W.set_plain X J hs (PySem.W.osa_open (s := { s with toks := s.toks + 1 }) (r := none) X J hp ht fun b => ?_)
 obtain ⟨cd, hc, hd'⟩ := PySem.W.any_some hh
 have hx : s.heap.get? x = some ⟨.ref C, some dx, .plain, #[]⟩ := I.obj
 refine wpAny_bind (wpAny_pure (wpAny_bind (wpAny_bind (wpAny_loadPart hx (wpAny_bind (PySem.W.Looks.here (s := { s with toks := s.toks + 1 }) (PySem.W.looks_clsIn X hc) ?_))))))
 rw [hd']
 refine wpAny_pure (a := some dx) (wpAny_bind (wpAny_pure (wpAny_bind ?_)))
 refine wpAny_nsSet1 (s := { s with toks := s.toks + 1 }) I.ns fun h' hn2 hs2 => ?_
 obtain ⟨oD, esD, epD, hoD, hdD, hcD⟩ := hn2.count (PySem.Within.cons name v hw)
 refine wpAny_bind (wpAny_lookBehind hoD (by rw [hdD]; exact pastItsLine_dict (Nat.le_trans hcD (by rw [List.length_cons]; omega))) ?_)
 exact wpAny_pure (h _ ⟨(hs2.2 _ (Ne.symm I.ne)).trans I.obj, hn2, I.ne⟩ hs2)
theorem make_map {R : Result → Shared → Prop} {vs : List Value} {kw : List (Str × Value)} (X : K.In s.heap) (hm : PySem.W.makesIn K C = true)
   (hi : PySem.W.findIn K (.ref C) "__init__" = some (some (.ref f))) (hf : PySem.W.typeIn K (.ref f) = some (.type "function"))
   (h : codeAny (model prog w) (A.under (.builtin "type.__call__" ⟨.ref C :: vs, kw⟩)) (.call (.ref f) ⟨.ref (s.heap.objs.size + 1) :: vs, kw⟩) (PySem.W.InitBack (s.heap.objs.size + 1) R)
     { s with heap := (s.heap.push PySem.W.emptyDict).push (PySem.W.instObj C s.heap.objs.size) }) :
   codeAny (model prog w) A (.call (.ref C) ⟨vs, kw⟩) R s := by
 obtain ⟨hh, g, d, t, os⟩ := s
 exact PySem.W.make_core (PySem.W.makes_of X hm) (PySem.W.looks_findIn X hi) (fun self => PySem.W.bind_fn X self hf) (.inl rfl) h
end
def putF (f : Str) (v : V) : List (Str × V) → List (Str × V)
 | [] => [(f, v)]
 | (g, x) :: r => if g = f then (g, v) :: r else (g, x) :: putF f v r
theorem lP (f g : Str) (v : V) : ∀ fs : List (Str × V), (putF f v fs).lookup g = if g = f then some v else fs.lookup g
 | [] => by
   show List.lookup g [(f, v)] = _
   by_cases h : g = f
   · have hb : (g == f) = true := beq_iff_eq.mpr h
     simp only [List.lookup, hb, if_pos h]
   · have hb : (g == f) = false := beq_eq_false_iff_ne.mpr h
     simp only [List.lookup, hb, if_neg h]
 | (k, x) :: r => by
   have ih := lP f g v r
   rw [show putF f v ((k, x) :: r) = (if k = f then (k, v) :: r else (k, x) :: putF f v r) from rfl]
   by_cases hk : k = f
   · rw [if_pos hk]
     by_cases h : g = k
     · have hb : (g == k) = true := beq_iff_eq.mpr h
       simp only [List.lookup, hb, if_pos (h.trans hk)]
     · have hb : (g == k) = false := beq_eq_false_iff_ne.mpr h
       simp only [List.lookup, hb, if_neg (fun e : g = f => h (e.trans hk.symm))]
   · rw [if_neg hk]
     by_cases h : g = k
     · have hb : (g == k) = true := beq_iff_eq.mpr h
       simp only [List.lookup, hb, if_neg (fun e : g = f => hk (h.symm.trans e))]
     · have hb : (g == k) = false := beq_eq_false_iff_ne.mpr h
       simp only [List.lookup, hb]
       exact ih
theorem keys_putF (f : Str) (v : V) : ∀ fs : List (Str × V), f ∈ (putF f v fs).map (·.1) ∧ ∀ g, g ∈ fs.map (·.1) → g ∈ (putF f v fs).map (·.1)
 | [] => ⟨by simp [putF], fun g h => by simp at h⟩
 | (k, x) :: r => by
   obtain ⟨i1, i2⟩ := keys_putF f v r
   rw [show putF f v ((k, x) :: r) = (if k = f then (k, v) :: r else (k, x) :: putF f v r) from rfl]
   by_cases hk : k = f
   · rw [if_pos hk]
     subst hk
     exact ⟨by simp, fun g h => by simpa using h⟩
   · rw [if_neg hk]
     refine ⟨?_, fun g h => ?_⟩
     · rw [List.map_cons]
       exact List.mem_cons_of_mem _ i1
     · rw [List.map_cons] at h ⊢
       rcases List.mem_cons.mp h with e | e
       · exact List.mem_cons.mpr (.inl e)
       · exact List.mem_cons_of_mem _ (i2 g e)
theorem length_putF (f : Str) (v : V) : ∀ fs : List (Str × V), (putF f v fs).length ≤ fs.length + 1
 | [] => by simp [putF]
 | (k, x) :: r => by
   have ih := length_putF f v r
   rw [show putF f v ((k, x) :: r) = (if k = f then (k, v) :: r else (k, x) :: putF f v r) from rfl]
   by_cases hk : k = f
   · rw [if_pos hk, List.length_cons, List.length_cons]; omega
   · rw [if_neg hk, List.length_cons, List.length_cons]; omega
theorem RelO.some_of {v : V} {o : Option Value} (r : RelO (some v) o) : ∃ u, o = some u ∧ RelV v u := by
 cases o with
 | none => exact (show False from r).elim
 | some u => exact ⟨u, rfl, r⟩
theorem RelO.none_of {o : Option Value} (r : RelO none o) : o = none := by
 cases o with
 | none => rfl
 | some u => exact (show False from r).elim
theorem handed_of {v : V} {u : Value} (r : RelV v u) : PySem.W.handedIn u = true := by
 cases v with
 | non => cases (show u = Value.none from r); rfl
 | bl b => cases (show u = Value.bool b from r); rfl
 | int i => obtain ⟨t, e⟩ := (show ∃ t, u = Value.int i t from r); cases e; rfl
 | str x => obtain ⟨t, e⟩ := (show ∃ t, u = Value.str x t from r); cases e; rfl
 | byt b => obtain ⟨t, e⟩ := (show ∃ t, u = Value.bytes b t from r); cases e; rfl
 | flt b => obtain ⟨t, e⟩ := (show ∃ t, u = Value.float b t from r); cases e; rfl
 | ref a => cases (show u = Value.ref a from r); rfl
 | ty n => cases (show u = Value.type n from r); rfl
section
variable {P : Program} {w : World} {H H' : Hp} {h h' : Heap} {a C dx : Addr} {fs fs' : List (Str × V)}
theorem ins_get (hok : HOk P w H h) (e : H a = some (.ins C dx fs)) : ∃ mA, ObjM h a dx C mA ∧ (∀ f, RelO (fs.lookup f) (mA f)) ∧ PySem.Within mA (fs.map (·.1)) ∧ fs.length ≤ 1000 ∧ H dx = some (.own a) := by
 obtain ⟨d, z, ne, ob, mA, n, r, q⟩ := (show ObjOk P w H h a (.ins C dx fs) from hok a _ e)
 exact ⟨mA, ⟨ob, n, ne⟩, r, q, z, d⟩
end
structure Cls (K : PySem.W.Frag) (C : Addr) : Prop where
 pg : PySem.W.plainGet K C Str.empty = true
 hd : PySem.W.hasDictIn K C = true
 po : PySem.W.plainOver K C = true
 sa : PySem.W.findIn K (.ref C) "__setattr__" = some (some (.builtin "object.__setattr__"))
theorem Cls.get {K : PySem.W.Frag} {C : Addr} (c : Cls K C) (f : Str) : PySem.W.plainGet K C f = true := c.pg
def NoAttr (K : PySem.W.Frag) (C : Addr) (f : Str) : Prop := PySem.W.findIn K (.ref C) f = some none
theorem NoAttr.taker {K : PySem.W.Frag} {C : Addr} {f : Str} (n : NoAttr K C f) : PySem.W.takerIn K C f = some none := by
 unfold PySem.W.takerIn
 rw [show PySem.W.findIn K (.ref C) f = some none from n]
 rfl
structure Con (K : PySem.W.Frag) (C : Addr) (f : Str) (v : V) (u : Value) : Prop where
 at_ : PySem.W.findIn K (.ref C) f = some (some u)
 rel : RelV v u
 get : PySem.W.specialIn K u "__get__" = some none
 cp : PySem.W.copiedNames.contains f = false
structure Meth (K : PySem.W.Frag) (C : Addr) (m : Str) (f : Addr) : Prop where
 at_ : PySem.W.findIn K (.ref C) m = some (some (.ref f))
 fn : PySem.W.isFn K (.ref f) = true
 kp : PySem.W.keepIn K (.ref f) = true
section
variable {X : Cx} {pins : List (Addr × Obj)} {σ : St} {H : Hp} {s : Shared} {a C dx : Addr} {fs : List (Str × V)} {f : Str} {v : V} {A : Around} {E : Value → Shared → Prop}
theorem getattr_ok {b : Bool} {Q : Value → Shared → Prop} (I : Inv X pins σ H s) (e : H a = some (.ins C dx fs)) (c : Cls X.K C) (n : NoAttr X.K C f) (l : fs.lookup f = some v)
   (h : ∀ u s', Inv X pins σ H s' → RelV v u → Q u s') : wpAny (model X.prog X.w) A (getAttr (.ref a) f b) Q E s := by
 obtain ⟨mA, O, r, _, _, _⟩ := ins_get I.hok e
 obtain ⟨u, hu, ru⟩ := RelO.some_of (v := v) (o := mA f) (by rw [← l]; exact r f)
 exact get_map I.kIn O (c.get f) c.hd n hu (handed_of ru) (h u _ (I.tok _) ru)
theorem getmeth_ok {m : Str} {g : Addr} {pl : Sem Bool} {Q : Value × List Value → Shared → Prop} (I : Inv X pins σ H s) (e : H a = some (.ins C dx fs)) (c : Cls X.K C) (k : Meth X.K C m g) (l : fs.lookup m = none)
   (h : Q (.ref g, [.ref a]) s) : wpAny (model X.prog X.w) A (getMethod (.ref a) m pl) Q E s := by
 obtain ⟨mA, O, r, _, _, _⟩ := ins_get I.hok e
 have hn : mA m = none := RelO.none_of (by rw [← l]; exact r m)
 exact get_meth I.kIn O (c.get m) k.at_ k.fn hn h
theorem setattr_ok {y : V} {u : Value} {Q : Unit → Shared → Prop} (I : Inv X pins σ H s) (e : H a = some (.ins C dx fs)) (c : Cls X.K C) (n : NoAttr X.K C f) (hl : fs.length < 1000) (ry : RelV y u)
   (h : ∀ s', Inv X pins σ (upd H a (.ins C dx (putF f y fs))) s' → Q () s') : wpAny (model X.prog X.w) A (setAttr (.ref a) f u) Q E s := by
 obtain ⟨mA, O, r, wi, _, ho⟩ := ins_get I.hok e
 have hz : (fs.map (·.1)).length ≤ sizeLine := by rw [List.length_map, sizeLine_eq]; omega
 refine set_map I.kIn O c.sa c.po n.taker c.hd wi hz fun h' O' sb => h _ ?_
 have hd : ∃ o, h'.get? dx = some o := let ⟨o, _, _, e', _⟩ := O'.ns; ⟨o, e'⟩
 refine I.write (x := a) (e := dx) (by rw [e]; exact True.intro) (.inr ho) (fun b q hb z => (sb.2 b hb).trans z) hd ?_
 refine ⟨by rw [uN O.ne]; exact ho, ?_, O.ne, O'.obj, _, O'.ns, fun g => ?_, fun g hg => ?_⟩
 · have := length_putF f y fs; omega
 · show RelO ((putF f y fs).lookup g) (if g = f then some u else mA g)
   rw [lP]
   by_cases q : g = f
   · rw [if_pos q, if_pos q]; exact ry
   · rw [if_neg q, if_neg q]; exact r g
 · by_cases q : g = f
   · rw [q]; exact (keys_putF f y fs).1
   · refine (keys_putF f y fs).2 g (wi g fun z => hg ?_)
     show (if g = f then some u else mA g) = none
     rw [if_neg q]; exact z
theorem Inv.made (I : Inv X pins σ H s) : Inv X pins σ (upd (upd H s.heap.objs.size (.own (s.heap.objs.size + 1))) (s.heap.objs.size + 1) (.ins C s.heap.objs.size []))
   { s with heap := (s.heap.push PySem.W.emptyDict).push (PySem.W.instObj C s.heap.objs.size) } := by
 have e1 : (s.heap.push PySem.W.emptyDict).get? s.heap.objs.size = some PySem.W.emptyDict := Heap.get?_push_size s.heap rfl
 have e2 : ((s.heap.push PySem.W.emptyDict).push (PySem.W.instObj C s.heap.objs.size)).get? (s.heap.objs.size + 1) = some (PySem.W.instObj C s.heap.objs.size) := by
   have := Heap.get?_push_size (s.heap.push PySem.W.emptyDict) (o := PySem.W.instObj C s.heap.objs.size) rfl
   rwa [Heap.size_push] at this
 have e3 : (s.heap.push PySem.W.emptyDict).Ns s.heap.objs.size (fun _ => none) := ⟨PySem.W.emptyDict, #[], _, e1, rfl, (fun e he => absurd he (by simp)), fun _ => rfl⟩
 have I1 := I.laid (a := s.heap.objs.size) (o := .own (s.heap.objs.size + 1)) (h' := s.heap.push PySem.W.emptyDict) (t' := s.toks) (fun b u q => Heap.get?_push_of_some _ q) (Nat.le_refl _) ⟨_, e1⟩
 refine I1.laid (a := s.heap.objs.size + 1) (o := .ins C s.heap.objs.size []) (t' := s.toks) (fun b u q => Heap.get?_push_of_some _ q) (Nat.le_of_eq (Heap.size_push _ _)) ?_
 have ne : s.heap.objs.size ≠ s.heap.objs.size + 1 := Nat.ne_of_lt (Nat.lt_succ_self _)
 refine ⟨by rw [uN ne, uS], Nat.zero_le _, ne, e2, fun _ => none, (Heap.Ns1.of_empty e3).at fun o q => Heap.get?_push_of_some _ q, fun _ => True.intro, fun y hy => absurd rfl hy⟩
theorem attr_of {prog : Program} {w : World} {env : Env} {e : Expr} {f : Str} {pos : Pos} {s : Shared} {Q : Value → Shared → Prop} (hb : attributeBase e f env (eval e env) = eval e env)
   (h : wpAny (model prog w) A (eval e env) (fun o s₁ => wpAny (model prog w) A (getAttr o f true) Q E s₁) E s) : wpAny (model prog w) A (eval (.Attribute e f pos) env) Q E s :=
 Attribute_any_ h (by rw [arm_eval_Attribute, hb])
end
def tFld (K : PySem.W.Frag) (ta : TE) (f : Str) : TE := fun σ H Q => ta σ H fun x H1 => ∃ a C dx fs v, x = .ref a ∧ H1 a = some (.ins C dx fs) ∧ Cls K C ∧ NoAttr K C f ∧ fs.lookup f = some v ∧ Q v H1
def sFld (K : PySem.W.Frag) (ta tv : TE) (f : Str) : TS := fun D σ H => tv σ H fun y H1 => ta σ H1 fun x H2 => ∃ a C dx fs, x = .ref a ∧ H2 a = some (.ins C dx fs) ∧ Cls K C ∧ NoAttr K C f ∧ fs.length < 1000 ∧
 D.nx σ (upd H2 a (.ins C dx (putF f y fs)))
section
variable {X : Cx} {o e value : Expr} {f : Str} {pos pos' tpos : Pos} {ta tv : TE}
theorem pe_fld (he : PE X e ta) (hb : attributeBase e f X.env (eval e X.env) = eval e X.env) : PE X (.Attribute e f pos) (tFld X.K ta f) := by
 intro pins s σ H Q I h
 refine attr_of hb (thn (he pins s σ H _ I h) fun u s1 ⟨x, H1, I1, rx, a, C, dx, fs, v, ex, ea, c, n, l, q⟩ => ?_)
 subst ex
 obtain rfl : u = Value.ref a := rx
 exact getattr_ok I1 ea c n l fun u' s2 I2 ru => ⟨v, H1, I2, ru, q⟩
theorem ps_fld (ha : PE X o ta) (hv : PE X value tv) (hs : swapsWith value (some (.Attribute o f pos')) pos.line X.env = pure false) : PS X (.Assign [.Attribute o f pos'] value pos) (sFld X.K ta tv f) := by
 intro pins s σ H D I h
 refine plainObj_wpAny_Assign_Attribute (thn (hv pins s σ H _ I h) fun u s1 ⟨y, H1, I1, ry, q⟩ => thn (ha pins s1 σ H1 _ I1 q) fun ov s2 ⟨x, H2, I2, rx, a, C, dx, fs, ex, ea, c, n, l, q2⟩ => ?_) hs
 subst ex
 obtain rfl : ov = Value.ref a := rx
 exact setattr_ok I2 ea c n l ry fun s3 I3 => ⟨σ, _, I3, q2⟩
end
section
variable {X : Cx} {pins : List (Addr × Obj)} {σ : St} {H : Hp} {s : Shared} {A : Around} {E : Value → Shared → Prop} {Q : Value → Shared → Prop} {c : Value} {b : Bool}
inductive TyOf (K : PySem.W.Frag) (H : Hp) : V → Value → Prop where
 | non : TyOf K H .non (.type "NoneType")
 | bl (x : Bool) : TyOf K H (.bl x) (.type "bool")
 | int (i : Int) : TyOf K H (.int i) (.type "int")
 | str (x : Str) : TyOf K H (.str x) (.type "str")
 | flt (x : UInt64) : TyOf K H (.flt x) (.type "float")
 | lst {a : Addr} {xs : List V} (e : H a = some (.lst xs)) : TyOf K H (.ref a) (.type "list")
 | frz {a : Addr} {o : Obj} {xs : List V} (e : H a = some (.frz o (.lst xs))) : TyOf K H (.ref a) (.type "list")
 | tup {a : Addr} {xs : List V} (e : H a = some (.tup xs)) : TyOf K H (.ref a) (.type "tuple")
 | dK {a : Addr} {kvs : List (Key × V)} (e : H a = some (.dK kvs)) : TyOf K H (.ref a) (.type "dict")
 | dT {a : Addr} {kvs : List (List Key × V)} (e : H a = some (.dT kvs)) : TyOf K H (.ref a) (.type "dict")
 | ins {a C dx : Addr} {fs : List (Str × V)} (e : H a = some (.ins C dx fs)) (cl : Cls K C) (ha : PySem.W.findIn K (.ref C) "__class__" = some (some (.builtin "object.__class__")))
     (hn : PySem.W.specialIn K (.builtin "object.__class__") "__get__" = some (some (.builtin "getset_descriptor.__get__"))) (htk : PySem.W.takesIn K (.builtin "object.__class__") = some true)
     (hm : PySem.W.mroIn K C (.type "object") = some true) : TyOf K H (.ref a) (.ref C)
theorem isinst_ok {x : V} {u t : Value} (I : Inv X pins σ H s) (rx : RelV x u) (ty : TyOf X.K H x t) (e : PySem.W.kitOne X.K t c = some b) (h : ∀ tk, Q (.bool b) { s with toks := tk }) :
   wpAny (model X.prog X.w) A (call (.builtin "isinstance") [u, c]) Q E s := by
 cases ty with
 | non => cases (show u = Value.none from rx); exact PySem.W.kia_one PySem.W.kitx_none I.kIn True.intro e (fun z => nomatch z) h
 | bl y => cases (show u = Value.bool y from rx); exact PySem.W.kia_one PySem.W.kitx_bool I.kIn True.intro e (fun z => nomatch z) h
 | int i => obtain ⟨t, q⟩ := (show ∃ t, u = Value.int i t from rx); cases q; exact PySem.W.kia_one PySem.W.kitx_int I.kIn True.intro e (fun z => nomatch z) h
 | str y => obtain ⟨t, q⟩ := (show ∃ t, u = Value.str y t from rx); cases q; exact PySem.W.kia_one PySem.W.kitx_str I.kIn True.intro e (fun z => nomatch z) h
 | flt y => obtain ⟨t, q⟩ := (show ∃ t, u = Value.float y t from rx); cases q; exact PySem.W.kia_one PySem.W.kitx_float I.kIn True.intro e (fun z => nomatch z) h
 | @lst a xs ea =>
   cases (show u = Value.ref a from rx)
   obtain ⟨_, _, n, _, h1⟩ := (show ObjOk X.prog X.w H s.heap a (.lst xs) from I.hok a _ ea)
   exact PySem.W.kia_one PySem.W.kitx_list I.kIn ⟨_, h1, rfl⟩ e (fun z => nomatch z) h
 | @frz a ob xs ea =>
   cases (show u = Value.ref a from rx)
   obtain ⟨_, _, _, n, _, h1⟩ := (show ObjOk X.prog X.w H s.heap a (.frz ob (.lst xs)) from I.hok a _ ea)
   exact PySem.W.kia_one PySem.W.kitx_list I.kIn ⟨_, h1, rfl⟩ e (fun z => nomatch z) h
 | @tup a xs ea =>
   cases (show u = Value.ref a from rx)
   obtain ⟨_, _, _, p⟩ := (show ObjOk X.prog X.w H s.heap a (.tup xs) from I.hok a _ ea)
   obtain ⟨o, h1, h2, _⟩ := p
   exact PySem.W.kia_one PySem.W.kitx_tuple I.kIn ⟨o, h1, h2⟩ e (fun z => nomatch z) h
 | @dK a kvs ea =>
   cases (show u = Value.ref a from rx)
   obtain ⟨_, _, vs, _, p⟩ := (show ObjOk X.prog X.w H s.heap a (.dK kvs) from I.hok a _ ea)
   obtain ⟨o, es, ep, h1, h2, _⟩ := p
   exact PySem.W.kia_one PySem.W.kitx_dict I.kIn ⟨o, h1, h2.1⟩ e (fun z => nomatch z) h
 | @dT a kvs ea =>
   cases (show u = Value.ref a from rx)
   obtain ⟨_, _, xs, _, o, es, ep, h1, h2, _⟩ := (show ObjOk X.prog X.w H s.heap a (.dT kvs) from I.hok a _ ea)
   exact PySem.W.kia_one PySem.W.kitx_dict I.kIn ⟨o, h1, h2.1⟩ e (fun z => nomatch z) h
 | @ins a C dx fs ea cl ha hn htk hm =>
   cases (show u = Value.ref a from rx)
   obtain ⟨mA, O, _⟩ := ins_get I.hok ea
   obtain ⟨od, J, _⟩ := O.look
   exact PySem.W.kia_one (PySem.W.kitx_own (cl.get _) cl.hd ha hn htk hm) I.kIn J e (fun z => nomatch z) h
end
end L2
namespace L2
open PySem PySem.Spec PyProof.Rows
structure Room (k : Nat) (A : Around) : Prop where
 hd : A.handled = none
 dp : A.depth + 3 * k + 5 < recursionLimit
 un : A.units + 16 * k + 200 < cLine
theorem Room.mono {j k : Nat} {A : Around} (r : Room k A) (h : j ≤ k) : Room j A := ⟨r.hd, by have := r.dp; omega, by have := r.un; omega⟩
theorem Room.deeper {k : Nat} {A : Around} (r : Room (k + 1) A) (env : Env) : Room k (A.deeper env) :=
 ⟨r.hd, by have := r.dp; show A.depth + 1 + 3 * k + 5 < _; omega, by have := r.un; show A.units + 3 + 16 * k + 200 < _; omega⟩
theorem make_depth {A : Around} {C : Addr} {us : List Value} {kw : List (Str × Value)} : (A.under (.builtin "type.__call__" ⟨.ref C :: us, kw⟩)).depth = A.depth + 1 := by
 first | rfl | simp [Around.under, Code.weight, Code.isCreation, Code.isGuard, Code.isCaller, Code.frames, Code.isFrame, guardIds]
theorem make_units {A : Around} {C : Addr} {us : List Value} {kw : List (Str × Value)} : (A.under (.builtin "type.__call__" ⟨.ref C :: us, kw⟩)).units = A.units + 1 := by
 first | rfl | simp [Around.under, Code.cUnits, Code.frames, Code.isFrame]
theorem Room.make {k : Nat} {A : Around} (r : Room (k + 1) A) (C : Addr) (us : List Value) (kw : List (Str × Value)) : Room k (A.under (.builtin "type.__call__" ⟨.ref C :: us, kw⟩)) :=
 ⟨r.hd, by have := r.dp; rw [make_depth]; omega, by have := r.un; rw [make_units]; omega⟩
theorem Room.depth {k : Nat} {A : Around} (r : Room k A) : A.depth < recursionLimit := by have := r.dp; omega
theorem Room.units {k : Nat} {A : Around} (r : Room k A) : A.units + 64 < cLine := by have := r.un; omega
theorem Room.units0 {k : Nat} {A : Around} (r : Room k A) : A.units < cLine := by have := r.un; omega
def tNil : TA := fun _ H Q => Q [] H
def tCons (ta : TE) (tr : TA) : TA := fun σ H Q => ta σ H fun x H1 => tr σ H1 fun xs H2 => Q (x :: xs) H2
section
variable {X : Cx} {e : Expr} {es : List Expr} {te : TE} {t : TA} {pos : Pos}
theorem pN : PA X [] tNil := fun _ _ _ _ H Q I h => Calls.spliced_nil ⟨[], H, I, .nil, h⟩
theorem pK (ha : PE X e te) (hr : PA X es t) (hs : starEach (e :: es) X.env = (false, eval e X.env) :: starEach es X.env := by rfl) : PA X (e :: es) (tCons te t) := by
 intro pos pins s σ H Q I h
 rw [hs]
 show wpAny _ _ (spliced ((false, eval e X.env) :: backTo pos (starEach es X.env))) _ _ s
 refine Calls.spliced_cons (thn (ha pins s σ H _ I h) fun u s1 ⟨x, H1, I1, r1, q1⟩ => ?_)
 exact thn (hr pos pins s1 σ H1 _ I1 q1) fun us s2 ⟨xs, H2, I2, r2, q2⟩ => ⟨x :: xs, H2, I2, .cons r1 r2, q2⟩
def tTup (t : TA) : TE := fun σ H Q => t σ H fun xs H1 => xs.length ≤ sizeLine ∧ ∀ p, H1 p = none → Q (.ref p) (upd H1 p (.tup xs))
def tLst (t : TA) : TE := fun σ H Q => t σ H fun xs H1 => xs.length ≤ sizeLine ∧ ∀ p, H1 p = none → Q (.ref p) (upd H1 p (.lst xs))
theorem pe_tup {x1} (h : PA X es t) : PE X (.Tuple es x1 pos) (tTup t) := by
 intro pins s σ H Q I hq
 refine wpAny_Tuple_spliced (thn (h pos pins s σ H _ I hq) fun us s1 ⟨xs, H1, I1, r, z, q⟩ => ⟨by rw [← r.length]; exact z, ?_⟩)
 have hf : H1 s1.heap.objs.size = none := I1.hok.fresh (Nat.le_refl _)
 refine ⟨.ref s1.heap.objs.size, upd H1 s1.heap.objs.size (.tup xs), I1.laid (t' := s1.toks) (fun b u e => Heap.get?_push_of_some _ e) (Nat.le_refl _) ?_, rfl, q _ hf⟩
 exact ⟨z, us, r, ⟨_, Heap.get?_push_size _ rfl, rfl, _, rfl⟩⟩
theorem pe_lst (h : PA X es t) : PE X (.List es pos) (tLst t) := by
 intro pins s σ H Q I hq
 refine wpAny_List_spliced (thn (h pos pins s σ H _ I hq) fun us s1 ⟨xs, H1, I1, r, z, q⟩ => ⟨by rw [← r.length]; exact z, ?_⟩)
 have hf : H1 s1.heap.objs.size = none := I1.hok.fresh (Nat.le_refl _)
 refine ⟨.ref s1.heap.objs.size, upd H1 s1.heap.objs.size (.lst xs), I1.laid (t' := s1.toks) (fun b u e => Heap.get?_push_of_some _ e) (Nat.le_refl _) ?_, rfl, q _ hf⟩
 exact ⟨z, us, 0, r, Heap.get?_push_size _ rfl⟩
end
abbrev Sp := List V → Hp → VK → XK → Prop
abbrev CXT := List Env → Hp → Shared → XK → Value → Shared → Prop
structure Env0 (P : Program) (w : World) (K : PySem.W.Frag) (mg : Str → Option Value) (base : Heap) (A : Around) (outer : List Env) (s : Shared) (H : Hp) : Prop where
 frames : A.frames = some outer
 mod : Mod K mg base
 bs : ∀ b o, base.get? b = some o → s.heap.get? b = some o ∧ H b = none
 bsz : base.objs.size ≤ s.heap.objs.size
 funs : s.heap.FunFrames base outer
 frf : ∀ b ∈ frs outer, H b = none
 hok : HOk P w H s.heap
 bare : AllBare s.gens
def CE (outer : List Env) (P : Program) (w : World) (H : Hp) (s : Shared) (Q : VK) (u : Value) (s' : Shared) : Prop :=
 ∃ v H', s'.os = s.os ∧ AllBare s'.gens ∧ Un (frs outer) [] H H' s.heap s'.heap ∧ HOk P w H' s'.heap ∧ RelV v u ∧ Q v H'
def CR (CX : CXT) (outer : List Env) (P : Program) (w : World) (H : Hp) (s : Shared) (Q : VK) (E : XK) (r : Result) (s' : Shared) : Prop :=
 match r with
 | .ok (.ret u) => CE outer P w H s Q u s'
 | .ok _ => False
 | .error e => CX outer H s E e s'
structure FnOk (P : Program) (w : World) (K : PySem.W.Frag) (mg : Str → Option Value) (base : Heap) (CX : CXT) (k : Nat) (f : Addr) (fd : FuncData) (ps : List Str) (sp : Sp) : Prop where
 len : ∀ vs H Q E, sp vs H Q E → vs.length = ps.length
 run : ∀ (A : Around) (outer : List Env) (s : Shared) (H : Hp) (args : Args) (us : List Value) (vs : List V) (Q : VK) (E : XK), Room k A → Env0 P w K mg base A outer s H → BindsTo s fd args (ps.zip us) → Vals vs us → sp vs H Q E →
   codeAny (model P w) A (.call (.ref f) args) (CR CX outer P w H s Q E) s
theorem FnOk.mono {P : Program} {w : World} {K : PySem.W.Frag} {mg : Str → Option Value} {base : Heap} {CX : CXT} {j k : Nat} {f : Addr} {fd : FuncData} {ps : List Str} {sp : Sp} (F : FnOk P w K mg base CX j f fd ps sp) (h : j ≤ k) :
   FnOk P w K mg base CX k f fd ps sp := ⟨F.len, fun A outer s H args us vs Q E hr => F.run A outer s H args us vs Q E (hr.mono h)⟩
theorem Env0.make {P : Program} {w : World} {K : PySem.W.Frag} {mg : Str → Option Value} {base : Heap} {A : Around} {outer : List Env} {s : Shared} {H : Hp} (e : Env0 P w K mg base A outer s H) (C : Addr) (us : List Value) (kw : List (Str × Value)) :
   Env0 P w K mg base (A.under (.builtin "type.__call__" ⟨.ref C :: us, kw⟩)) outer s H := ⟨by first | exact e.frames | (simpa [Around.under, Code.envs, Code.isFrame, pushEnvs] using e.frames), e.mod, e.bs, e.bsz, e.funs, e.frf, e.hok, e.bare⟩
section
variable {X : Cx} {pins : List (Addr × Obj)} {σ : St} {H : Hp} {s s' : Shared}
theorem Inv.env0 (I : Inv X pins σ H s) : Env0 X.prog X.w X.K X.mg X.base X.A X.stack s H :=
 ⟨I.ok.frames, I.ok.mod, I.bs, Nat.le_trans I.ok.bsz I.sz, I.stack, I.stkFree, I.hok, I.bare⟩
theorem Inv.after {Q : VK} {u : Value} (I : Inv X pins σ H s) (h : CE X.stack X.prog X.w H s Q u s') : EP X pins σ Q u s' := by
 obtain ⟨v, H', os, bare, un, hok, r, q⟩ := h
 obtain ⟨hh, g, d, t, os'⟩ := s'
 obtain rfl : os' = s.os := os
 exact ⟨v, H', I.call (h' := hh) (g' := g) (d' := d) (t' := t) (ch := []) un hok bare (fun b z => absurd z (by simp)), r, q⟩
end
def tCall (sp : Sp) (dvs : List V) (E : XK) (t : TA) : TE := fun σ H Q => t σ H fun vs H1 => sp (vs ++ dvs) H1 Q E
def tMeth (C : Addr) (m : Str) (sp : Sp) (dvs : List V) (E : XK) (ta : TE) (t : TA) : TE := fun σ H Q => ta σ H fun x H1 => ∃ a dx fs, x = .ref a ∧ H1 a = some (.ins C dx fs) ∧ fs.lookup m = none ∧
 t σ H1 fun vs H2 => sp (x :: (vs ++ dvs)) H2 Q E
def tMake (C : Addr) (sp : Sp) (dvs : List V) (E : XK) (t : TA) : TE := fun σ H Q => t σ H fun vs H1 => ∀ x dx, H1 x = none → H1 dx = none → dx ≠ x →
 sp (.ref x :: (vs ++ dvs)) (upd (upd H1 dx (.own x)) x (.ins C dx [])) (fun v H2 => v = .non ∧ Q (.ref x) H2) E
def Binds (K : PySem.W.Frag) (fd : FuncData) (ps : List Str) (ds : List Value) : Prop :=
 ∀ (s : Shared) (us : List Value), K.In s.heap → (us ++ ds).length = ps.length → BindsTo s fd ⟨us, []⟩ (ps.zip (us ++ ds))
theorem Binds.all {K : PySem.W.Frag} {fd : FuncData} {ps : List Str} (h : ∀ us : List Value, us.length = ps.length → bindArgs fd ⟨us, []⟩ = pure (ps.zip us)) : Binds K fd ps [] := fun s us _ hl => by
 rw [List.append_nil] at hl ⊢
 exact .of_eq (h us hl)
def Passes (CX : CXT) (X : Cx) (E : XK) : Prop := ∀ (pins : List (Addr × Obj)) (σ : St) (H : Hp) (s : Shared) (e : Value) (s' : Shared), Inv X pins σ H s → CX X.stack H s E e s' → X.xe e s'
section
variable {X : Cx} {CX : CXT} {k : Nat} {f C : Addr} {fd : FuncData} {ps : List Str} {sp : Sp} {dvs : List V} {ds : List Value} {E : XK} {x m : Str} {p pos apos : Pos} {e o : Expr} {es : List Expr} {ta : TE} {t : TA}
theorem run_fn {pins : List (Addr × Obj)} {σ : St} {H : Hp} {s : Shared} {Q : VK} {us : List Value} {vs : List V} (F : FnOk X.prog X.w X.K X.mg X.base CX k f fd ps sp) (hr : Room k X.A) (hb : Binds X.K fd ps ds) (hd : Vals dvs ds) (hx : Passes CX X E)
   (I : Inv X pins σ H s) (r : Vals vs us) (h : sp (vs ++ dvs) H Q E) : wpAny (model X.prog X.w) X.A (call (.ref f) us) (EP X pins σ Q) X.xe s := by
 have r2 : Vals (vs ++ dvs) (us ++ ds) := r.append hd
 have hl : (us ++ ds).length = ps.length := by rw [← r2.length]; exact F.len _ _ _ _ h
 refine wpAny_call (codeAny_mono (F.run X.A X.stack s H ⟨us, []⟩ (us ++ ds) (vs ++ dvs) Q E hr I.env0 (hb s us I.kIn hl) r2 h) fun r s' hq => ?_)
 cases r with
 | error e => exact hx pins σ H s e s' I hq
 | ok fl =>
   cases fl with
   | ret u => exact I.after hq
   | next => exact False.elim hq
   | brk => exact False.elim hq
   | cont => exact False.elim hq
theorem pe_call (F : FnOk X.prog X.w X.K X.mg X.base CX k f fd ps sp) (hr : Room k X.A) (hg : Gl X x) (hm : X.mg x = some (.ref f)) (hk : PySem.W.keepIn X.K (.ref f) = true) (hb : Binds X.K fd ps ds) (hd : Vals dvs ds) (hx : Passes CX X E)
   (ha : PA X (e :: es) t) (hdb : (x == ("__debug__" : Str)) = false := by decide) (he : starEach (e :: es) X.env = (false, eval e X.env) :: starEach es X.env := by rfl) (hpl : (backTo pos (starEach es X.env)).any (·.1) = false := by rfl) :
   PE X (.Call (.Name x p) (e :: es) [] pos) (tCall sp dvs E t) := by
 intro pins s σ H Q I h
 refine wpAny_Call_Name_kw (ld_glob I hg hm ?_ hdb)
 refine PySem.W.callWith_K (h₀ := X.base) I.ok.mod.kin hk (thn (ha pos pins s σ H _ I h) fun us s1 ⟨vs, H1, I1, r, q⟩ => ⟨I1.kIn, ?_⟩) he hpl
 exact run_fn F hr hb hd hx I1 r q
theorem pe_meth {pl : Sem Bool} (he : PE X o ta) (c : Cls X.K C) (hm : Meth X.K C m f) (F : FnOk X.prog X.w X.K X.mg X.base CX k f fd ps sp) (hr : Room k X.A) (hb : Binds X.K fd ps ds) (hd : Vals dvs ds) (hx : Passes CX X E) (ha : PA X (e :: es) t)
   (hst : starEach (e :: es) X.env = (false, eval e X.env) :: starEach es X.env := by rfl) (hpl : (backTo pos (starEach es X.env)).any (·.1) = false := by rfl)
   (ht : eval (.Call (.Attribute o m apos) (e :: es) [] pos) X.env = (do
     let ov ← eval o X.env
     standAt apos.atName
     let (f, first) ← holding [ov] (getMethod ov m pl)
     callWith pos f first (backTo pos (starEach (e :: es) X.env)) (backToKw pos (keywordEach [] X.env))) := by rfl) :
   PE X (.Call (.Attribute o m apos) (e :: es) [] pos) (tMeth C m sp dvs E ta t) := by
 intro pins s σ H Q I h
 refine PySem.W.methodCall_KW (pl := pl) (thn (he pins s σ H _ I h) fun u s1 ⟨x, H1, I1, rx, a, dx, fs, ex, ea, l, q⟩ => ?_) ht
 subst ex
 obtain rfl : u = Value.ref a := rx
 refine getmeth_ok I1 ea c hm l ?_
 refine PySem.W.callWith_K (first := [.ref a]) (h₀ := X.base) I.ok.mod.kin hm.kp (thn (ha pos pins s1 σ H1 _ I1 q) fun us s2 ⟨vs, H2, I2, r, q2⟩ => ⟨I2.kIn, ?_⟩) hst hpl
 exact run_fn (us := .ref a :: us) (vs := .ref a :: vs) F hr hb hd hx I2 (.cons rfl r) q2
theorem pe_meth0 {pl : Sem Bool} (he : PE X o ta) (c : Cls X.K C) (hm : Meth X.K C m f) (F : FnOk X.prog X.w X.K X.mg X.base CX k f fd ps sp) (hr : Room k X.A) (hb : Binds X.K fd ps ds) (hd : Vals dvs ds) (hx : Passes CX X E)
   (ht : eval (.Call (.Attribute o m apos) [] [] pos) X.env = (do
     let ov ← eval o X.env
     standAt apos.atName
     let (f, first) ← holding [ov] (getMethod ov m pl)
     callWith pos f first (backTo pos (starEach [] X.env)) (backToKw pos (keywordEach [] X.env))) := by rfl) :
   PE X (.Call (.Attribute o m apos) [] [] pos) (tMeth C m sp dvs E ta tNil) := by
 intro pins s σ H Q I h
 refine PySem.W.methodCall_KW (pl := pl) (thn (he pins s σ H _ I h) fun u s1 ⟨x, H1, I1, rx, a, dx, fs, ex, ea, l, q⟩ => ?_) ht
 subst ex
 obtain rfl : u = Value.ref a := rx
 refine getmeth_ok I1 ea c hm l ?_
 exact PySem.W.callWith_K0 (first := [.ref a]) I1.kIn hm.kp (run_fn (us := [.ref a]) (vs := [.ref a]) F hr hb hd hx I1 (.cons rfl .nil) q)
structure Mk (K : PySem.W.Frag) (C f : Addr) : Prop where
 makes : PySem.W.makesIn K C = true
 init : PySem.W.findIn K (.ref C) "__init__" = some (some (.ref f))
 fn : PySem.W.isFn K (.ref f) = true
 kp : PySem.W.keepIn K (.ref C) = true
theorem run_make {pins : List (Addr × Obj)} {σ : St} {H : Hp} {s : Shared} {Q : VK} {us : List Value} {vs : List V} (M : Mk X.K C f) (F : FnOk X.prog X.w X.K X.mg X.base CX k f fd ps sp) (hr : Room (k + 1) X.A) (hb : Binds X.K fd ps ds) (hd : Vals dvs ds)
   (hx : Passes CX X E) (I : Inv X pins σ H s) (r : Vals vs us)
   (h : ∀ x dx, H x = none → H dx = none → dx ≠ x → sp (.ref x :: (vs ++ dvs)) (upd (upd H dx (.own x)) x (.ins C dx [])) (fun v H2 => v = .non ∧ Q (.ref x) H2) E) :
   wpAny (model X.prog X.w) X.A (call (.ref C) us) (EP X pins σ Q) X.xe s := by
 have hq := h (s.heap.objs.size + 1) s.heap.objs.size (I.hok.fresh (Nat.le_succ _)) (I.hok.fresh (Nat.le_refl _)) (Nat.ne_of_lt (Nat.lt_succ_self _))
 have I2 := Inv.made (C := C) I
 have r2 : Vals (V.ref (s.heap.objs.size + 1) :: (vs ++ dvs)) (Value.ref (s.heap.objs.size + 1) :: (us ++ ds)) := .cons rfl (r.append hd)
 have hl : (Value.ref (s.heap.objs.size + 1) :: us ++ ds).length = ps.length := by
   have e := r2.length
   rw [F.len _ _ _ _ hq] at e
   exact e.symm
 refine wpAny_call (make_map (f := f) I.kIn M.makes M.init (beq_iff_eq.mp M.fn) (codeAny_mono (F.run _ X.stack _ _ ⟨Value.ref (s.heap.objs.size + 1) :: us, []⟩ (Value.ref (s.heap.objs.size + 1) :: (us ++ ds)) _ _ E (hr.make C us [])
   (I2.env0.make C us []) (hb _ (Value.ref (s.heap.objs.size + 1) :: us) I2.kIn hl) r2 hq) fun r s' hq' => ?_))
 cases r with
 | error e => exact hx pins σ _ _ e s' I2 hq'
 | ok fl =>
   cases fl with
   | ret u =>
     obtain ⟨v, H', I3, rv, ev, q3⟩ := I2.after hq'
     subst ev
     exact ⟨rv, ⟨V.ref (s.heap.objs.size + 1), H', I3, rfl, q3⟩⟩
   | next => exact False.elim hq'
   | brk => exact False.elim hq'
   | cont => exact False.elim hq'
theorem pe_make (M : Mk X.K C f) (F : FnOk X.prog X.w X.K X.mg X.base CX k f fd ps sp) (hr : Room (k + 1) X.A) (hg : Gl X x) (hm : X.mg x = some (.ref C)) (hb : Binds X.K fd ps ds) (hd : Vals dvs ds) (hx : Passes CX X E)
   (ha : PA X (e :: es) t) (hdb : (x == ("__debug__" : Str)) = false := by decide) (he : starEach (e :: es) X.env = (false, eval e X.env) :: starEach es X.env := by rfl) (hpl : (backTo pos (starEach es X.env)).any (·.1) = false := by rfl) :
   PE X (.Call (.Name x p) (e :: es) [] pos) (tMake C sp dvs E t) := by
 intro pins s σ H Q I h
 refine wpAny_Call_Name_kw (ld_glob I hg hm ?_ hdb)
 refine PySem.W.callWith_K (h₀ := X.base) I.ok.mod.kin M.kp (thn (ha pos pins s σ H _ I h) fun us s1 ⟨vs, H1, I1, r, q⟩ => ⟨I1.kIn, ?_⟩) he hpl
 exact run_make M F hr hb hd hx I1 r q
end
section
variable {X : Cx} {CX : CXT} {k : Nat} {f C : Addr} {fd : FuncData} {ps ks : List Str} {sp : Sp} {E : XK} {x m : Str} {p pos apos kpos : Pos} {e o : Expr} {es : List Expr} {kws : List Keyword} {te ta : TE} {t tk : TA} {nm : Option Str}
structure KBinds (K : PySem.W.Frag) (fd : FuncData) (ps ks : List Str) (g : List Value → List Value → List Value) (gV : List V → List V → List V) : Prop where
 to : ∀ (s : Shared) (us ws : List Value), K.In s.heap → (g us ws).length = ps.length → BindsTo s fd ⟨us, ks.zip ws⟩ (ps.zip (g us ws))
 rel : ∀ {vs : List V} {us : List Value} {zs : List V} {ws : List Value}, Vals vs us → Vals zs ws → Vals (gV vs zs) (g us ws)
variable {g : List Value → List Value → List Value} {gV : List V → List V → List V}
end
structure FS (N P : List Str) (sc : Scope) : Prop where
 kind : sc.kind = .function
 co : sc.isCoroutine = false
 gen : sc.isGenerator = false
 nd : N.Nodup
 pre : N.take P.length = P
 par : ∀ x ∈ P, sc.names.lookup x = some .local ∨ sc.names.lookup x = some .cell
 nofree : ∀ y ∈ sc.names, y.2 ≠ .free
theorem bindL_out {kindOf : Str → Option NameKind} {x : Str} : ∀ {binds : List (Str × Value)} {m : Str → Option Value}, (∀ v, (x, v) ∉ binds) → bindL kindOf binds m x = m x
 | [], _, _ => rfl
 | (n, v) :: r, m, h => by
   unfold bindL
   rw [bindL_out fun w hw => h w (List.mem_cons_of_mem _ hw)]
   split
   · have : x ≠ n := by rintro rfl; exact h v List.mem_cons_self
     simp [this]
   · rfl
theorem bindC_out {kindOf : Str → Option NameKind} {x : Str} : ∀ {binds : List (Str × Value)} {m : Str → Option Value}, (∀ v, (x, v) ∉ binds) → bindC kindOf binds m x = m x
 | [], _, _ => rfl
 | (n, v) :: r, m, h => by
   unfold bindC
   rw [bindC_out fun w hw => h w (List.mem_cons_of_mem _ hw)]
   split
   · rfl
   · have : x ≠ n := by rintro rfl; exact h v List.mem_cons_self
     simp [this]
theorem bindL_get {kindOf : Str → Option NameKind} {x : Str} {v : Value} : ∀ {P : List Str} {vs : List Value} {i : Nat} {m : Str → Option Value}, P.Nodup → P[i]? = some x → vs[i]? = some v → kindOf x = some .local →
   bindL kindOf (P.zip vs) m x = some v
 | [], _, _, _, _, h, _, _ => by simp at h
 | _ :: _, [], _, _, _, _, h, _ => by simp at h
 | p :: P, w :: vs, 0, m, nd, h1, h2, hk => by
   simp at h1 h2; subst h1; subst h2
   show bindL kindOf ((p, w) :: P.zip vs) m p = _
   unfold bindL
   rw [bindL_out fun v hv => (List.nodup_cons.mp nd).1 (List.of_mem_zip hv).1, if_pos hk]
   simp
 | p :: P, w :: vs, i + 1, m, nd, h1, h2, hk => by
   show bindL kindOf ((p, w) :: P.zip vs) m x = _
   unfold bindL
   exact bindL_get (i := i) (List.nodup_cons.mp nd).2 (by simpa using h1) (by simpa using h2) hk
theorem bindC_get {kindOf : Str → Option NameKind} {x : Str} {v : Value} : ∀ {P : List Str} {vs : List Value} {i : Nat} {m : Str → Option Value}, P.Nodup → P[i]? = some x → vs[i]? = some v → kindOf x ≠ some .local →
   bindC kindOf (P.zip vs) m x = some v
 | [], _, _, _, _, h, _, _ => by simp at h
 | _ :: _, [], _, _, _, _, h, _ => by simp at h
 | p :: P, w :: vs, 0, m, nd, h1, h2, hk => by
   simp at h1 h2; subst h1; subst h2
   show bindC kindOf ((p, w) :: P.zip vs) m p = _
   unfold bindC
   rw [bindC_out fun v hv => (List.nodup_cons.mp nd).1 (List.of_mem_zip hv).1, if_neg hk]
   simp
 | p :: P, w :: vs, i + 1, m, nd, h1, h2, hk => by
   show bindC kindOf ((p, w) :: P.zip vs) m x = _
   unfold bindC
   exact bindC_get (i := i) (List.nodup_cons.mp nd).2 (by simpa using h1) (by simpa using h2) hk
def start (N : List Str) (vs : List V) : St := vs.map some ++ List.replicate (N.length - vs.length) none
def cxOf (CX : CXT) (P : Program) (w : World) (K : PySem.W.Frag) (mg : Str → Option Value) (base : Heap) (N : List Str) (qual : Str) (scope : Scope) (f : Addr) (cd : Value) (A : Around) (outer : List Env) (s : Shared) (H : Hp) (E : XK) : Cx where
 prog := P
 w := w
 K := K
 mg := mg
 base := base
 A := A.deeper (envOfC qual scope s.heap.objs.size f cd)
 N := N
 s₀ := s
 H₀ := H
 env := envOfC qual scope s.heap.objs.size f cd
 outer := outer
 stack := envOfC qual scope s.heap.objs.size f cd :: outer
 ex := []
 calm := true
 fn := fun _ => true
 pn := []
 xe := fun e s' => wpAny (model P w) (A.deeper (envOfC qual scope s.heap.objs.size f cd)) (leaving (envOfC qual scope s.heap.objs.size f cd) e) (fun _ s'' => CX outer H s E e s'') (fun e' s'' => CX outer H s E e' s'') s'
theorem cell_has {sc : Scope} {n : Nat} {x : Str} (h : sc.names.lookup x = some .cell) : ∃ c, (cellsFrom n sc.names []).lookup x = some c := by
 have q := PySem.W.cellsFrom_some sc.names n [] (.inl h)
 exact Option.isSome_iff_exists.mp q
theorem inv_start {CX : CXT} {P : Program} {w : World} {K : PySem.W.Frag} {mg : Str → Option Value} {base : Heap} {N ps : List Str} {qual : Str} {scope : Scope} {f : Addr} {cd : Value} {A : Around} {outer : List Env} {s s1 : Shared} {H : Hp} {E : XK} {us : List Value} {vs : List V}
   (S : FS N ps scope) (hd : A.handled = none) (e0 : Env0 P w K mg base A outer s H) (hl : vs.length = ps.length) (r : Vals vs us)
   (x : InCallC s s.heap.objs.size (bindL (envOfC qual scope s.heap.objs.size f cd).kindOf (ps.zip us) fun _ => none) (cellsFrom (s.heap.objs.size + 1) scope.names []) (bindC (envOfC qual scope s.heap.objs.size f cd).kindOf (ps.zip us) fun _ => none) s1) :
   Inv (cxOf CX P w K mg base N qual scope f cd A outer s H E) [] (start N vs) H s1 := by
 have hpl : ps.length ≤ N.length := by have := congrArg List.length S.pre; rw [List.length_take] at this; omega
 obtain ⟨h1, tk, rfl, hk⟩ := x.done
 have noA : ∀ b : Addr, b ∉ (cxOf CX P w K mg base N qual scope f cd A outer s H E).ex := fun b z => absurd (show b ∈ ([] : List Addr) from z) (by simp)
 refine ⟨⟨e0.mod, S.kind, rfl, rfl, Nat.le_refl _, fun y z c h1 h2 => ?_, fun y hy => ?_, fun y c _ h => ?_, fun _ => hd, Around.frames_deeper e0.frames, .inr ⟨rfl, rfl⟩, fun b z => absurd z (noA b), e0.bs, e0.bsz, fun b _ _ => noA b, fun b z => absurd z (noA b), e0.funs, e0.frf⟩,
   rfl, e0.bare, Un.kept hk, ⟨_, x.toInCall.ns, fun i y v h1 h2 h3 => ?_⟩, fun y c h => ⟨_, x.cell y c h⟩, e0.hok.fresh (Nat.le_refl _), fun y c h => ?_, fun p hp => absurd (show p ∈ ([] : List (Addr × Obj)) from hp) (by simp), e0.hok.kept hk, ?_⟩
 · exact name_of_addr x.apart (PySem.mem_of_lookup h1) (PySem.mem_of_lookup h2)
 · have hy : scope.names.lookup y = some .cell ∨ scope.names.lookup y = some .free := hy
   rcases hy with hy | hy
   · exact cell_has hy
   · exact absurd rfl (S.nofree _ (PySem.mem_of_lookup hy))
 · exact Nat.le_of_lt (x.above y c (PySem.mem_of_lookup h))
 · have hi : i < vs.length := by
     unfold start at h2
     by_cases hi : i < vs.length
     · exact hi
     · rw [List.getElem?_append_right (by simpa using hi)] at h2
       rw [List.getElem?_replicate] at h2
       split at h2 <;> cases h2
   have ha : vs[i]? = some v := by
     unfold start at h2
     rw [List.getElem?_append_left (by simpa using hi), List.getElem?_map] at h2
     cases e : vs[i]? with
     | none => rw [e] at h2; cases h2
     | some a => rw [e] at h2; cases h2; rfl
   obtain ⟨u, hu, rv⟩ := r.get ha
   have hp : ps[i]? = some y := by
     rw [← S.pre, List.getElem?_take_of_lt (by omega)]; exact h1
   have ndP : ps.Nodup := by rw [← S.pre]; exact S.nd.sublist (List.take_sublist _ _)
   refine ⟨u, rv, ?_⟩
   rcases S.par y (List.mem_of_getElem? hp) with k | k
   · exact .inl ⟨k, bindL_get ndP hp hu k⟩
   · obtain ⟨c, e⟩ := cell_has (n := s.heap.objs.size + 1) k
     refine .inr ⟨.inl k, c, e, ?_⟩
     have q := x.cell y c e
     rw [bindC_get ndP hp hu (by show scope.names.lookup y ≠ _; rw [k]; decide)] at q
     exact q
 · exact e0.hok.fresh (Nat.le_of_lt (x.above y c (PySem.mem_of_lookup h)))
 · unfold start
   show _ = N.length
   rw [List.length_append, List.length_map, List.length_replicate]
   omega
theorem fn_of {CX : CXT} {P : Program} {w : World} {K : PySem.W.Frag} {mg : Str → Option Value} {base : Heap} {k : Nat} {f : Addr} {name qual : Str} {params : Arguments} {body : List Stmt} {scope : Scope} {dV kV doc pm cdv ct oc : Value} {an od : Option Addr}
   {osl : Array (Option Value)} {N ps : List Str} {sp : Sp} (lk : K.lookup f = some ⟨oc, od, .func (PySem.W.fnOf name qual params body scope dV kV doc pm an cdv ct), osl⟩) (hcd : PySem.W.codeIn K cdv qual = true) (S : FS N ps scope)
   (len : ∀ vs H Q E, sp vs H Q E → vs.length = ps.length)
   (hbody : ∀ (A : Around) (outer : List Env) (s : Shared) (H : Hp) (vs : List V) (Q : VK) (E : XK), Room k (A.deeper (envOfC qual scope s.heap.objs.size f cdv)) → sp vs H Q E →
     ∃ t, PSs (cxOf CX P w K mg base N qual scope f cdv A outer s H E) body t ∧ t { nx := fun _ H' => Q .non H', rt := Q } (start N vs) H) :
   FnOk P w K mg base CX (k + 1) f (PySem.W.fnOf name qual params body scope dV kV doc pm an cdv ct) ps sp := by
 refine ⟨len, fun A outer s H args us vs Q E hr e0 hb r hsp => ?_⟩
 have hl := len _ _ _ _ hsp
 have KX : K.In s.heap := e0.mod.kin.keeps fun b o e => (e0.bs b o e).1
 have lim : s.heap.NoLimit := e0.mod.nolimit.keeps fun b o e => (e0.bs b o e).1
 have hkind : ∀ y ∈ ps.zip us, scope.names.lookup y.1 = some .local ∨ (scope.names.lookup y.1 = some .cell ∧ ((cellsFrom (s.heap.objs.size + 1) scope.names []).lookup y.1).isSome = true) := fun ⟨n, v⟩ hy => by
   rcases S.par n (List.of_mem_zip hy).1 with q | q
   · exact .inl q
   · exact .inr ⟨q, PySem.W.cellsFrom_some _ _ _ (.inl q)⟩
 refine codeAny_call_function hr.depth (KX _ _ lk) rfl S.co S.gen rfl (PySem.W.codeRec_of KX hcd) (hb _ _ _ _ ?_)
 refine wpAny_newFunctionEnv_cells S.kind hkind fun env he s1 x => ?_
 subst he
 refine ⟨lim.keeps x.toInCall.keep, codeAny_func ?_⟩
 obtain ⟨t, ht, hq⟩ := hbody A outer s H vs Q E (hr.deeper _) hsp
 have I : Inv (cxOf CX P w K mg base N qual scope f cdv A outer s H E) [] (start N vs) H s1 := inv_start S hr.hd e0 hl r x
 refine wpAny_mono (ht [] s1 (start N vs) H _ I hq) (fun fl s' hs => ?_) fun e s' hs => hs
 have fin : ∀ {σ' : St} {H' : Hp} {v : V} {u : Value}, Inv (cxOf CX P w K mg base N qual scope f cdv A outer s H E) [] σ' H' s' → RelV v u → Q v H' → CE outer P w H s Q u s' :=
   fun {σ' H' v u} J rv q => ⟨v, H', J.os, J.bare, J.base, J.hok, rv, q⟩
 cases fl with
 | ret u =>
   obtain ⟨v, σ', H', J, rv, q⟩ := hs
   exact fin J rv q
 | next =>
   obtain ⟨σ', H', J, q⟩ := hs
   exact fin (v := V.non) (u := Value.none) J rfl q
 | brk =>
   obtain ⟨_, _, _, q⟩ := hs
   exact False.elim q
 | cont =>
   obtain ⟨_, _, _, q⟩ := hs
   exact False.elim q
end L2
namespace L2
open PySem PySem.Spec PyProof.Rows
section
variable {X : Cx} {x : Str} {p pos : Pos} {e : Expr} {es : List Expr} {t : TA} {id T : String} {r : List V → Hp → VK → Prop}
def tCB (r : List V → Hp → VK → Prop) (t : TA) : TE := fun σ H Q => t σ H fun vs H1 => r vs H1 Q
theorem eZ (hc : CallR X (.builtin id) r) (hg : Gl X x) (hm : X.mg x = none) (hv : bootBuiltins x = some (.builtin id)) (ha : PA X (e :: es) t) (hn : x ≠ "__name__" := by decide) (hdb : (x == ("__debug__" : Str)) = false := by decide)
   (he : starEach (e :: es) X.env = (false, eval e X.env) :: starEach es X.env := by rfl) (hpl : (backTo pos (starEach es X.env)).any (·.1) = false := by rfl) : PE X (.Call (.Name x p) (e :: es) [] pos) (tCB r t) := by
 intro pins s σ H Q I h
 refine wpAny_Call_Name_kw (ld_blt I hg hm hv ?_ hn hdb)
 exact PyProof.Rows.callWith_builtin1 (thn (ha pos pins s σ H _ I h) fun us s1 ⟨vs, H1, I1, r1, q1⟩ => hc pins s1 σ H1 vs us Q I1 r1 q1) he hpl
theorem eT (hc : CallR X (.type T) r) (hg : Gl X x) (hm : X.mg x = none) (hv : bootBuiltins x = some (.type T)) (ha : PA X (e :: es) t) (hn : x ≠ "__name__" := by decide) (hdb : (x == ("__debug__" : Str)) = false := by decide)
   (he : starEach (e :: es) X.env = (false, eval e X.env) :: starEach es X.env := by rfl) (hpl : (backTo pos (starEach es X.env)).any (·.1) = false := by rfl) : PE X (.Call (.Name x p) (e :: es) [] pos) (tCB r t) := by
 intro pins s σ H Q I h
 refine wpAny_Call_Name_kw (ld_blt I hg hm hv ?_ hn hdb)
 exact PyProof.Rows.callWith_type1 (thn (ha pos pins s σ H _ I h) fun us s1 ⟨vs, H1, I1, r1, q1⟩ => hc pins s1 σ H1 vs us Q I1 r1 q1) he hpl
end
end L2
namespace HT
open PySem PyProof.Rows
section
open PySem.SeqAt
open PySem.AutoSeq1 (wpAny_loadPart')
open PySem.MeetsSeq PySem.MeetsSeq2 PySem.MeetsSeq3
end
section
variable {prog : Program} {w : World} {A : Around} {E : Value → Shared → Prop} {s : Shared}
theorem cat_tup {t b : Addr} {vs ws : List Value} {Q : Value → Shared → Prop} (ht : IsTup s.heap t vs.toArray) (hb : IsTup s.heap b ws.toArray) (hv : vs ≠ [])
   (h1 : ws = [] → Q (.ref t) s) (h2 : ws ≠ [] → Q (.ref s.heap.objs.size) { s with heap := s.heap.push { cls := .type "tuple", data := .seq (vs ++ ws).toArray } })
   (hsz : vs.length + ws.length ≤ sizeLine) : wpAny (model prog w) A (binaryOp .Add (.ref t) (.ref b)) Q E s := by
 obtain ⟨⟨cls, dd, data, sl⟩, ho, hc, n, hd⟩ := id ht
 obtain ⟨⟨cls2, dd2, data2, sl2⟩, ho2, hc2, n2, hd2⟩ := id hb
 simp only at hc hd hc2 hd2
 subst hc hd hc2 hd2
 have e : vs.toArray ++ ws.toArray = (vs ++ ws).toArray := by simp
 by_cases hw : ws = []
 · exact concat_meets ⟨_, ho, rfl⟩ ⟨_, ho2, rfl⟩ noFill_tuple_add seq_tuple_add PySem.F.slot_tuple_add PySem.F.entry_tuple_add (PySem.F.args_tuple_add_2 _ _)
     (tuple_addW1 t b vs.toArray ws.toArray n n2 dd dd2 sl sl2 (by simpa using hv) (by simp [hw])) ⟨ho, ho2, h1 hw⟩
 · refine concat_meets ⟨_, ho, rfl⟩ ⟨_, ho2, rfl⟩ noFill_tuple_add seq_tuple_add PySem.F.slot_tuple_add PySem.F.entry_tuple_add (PySem.F.args_tuple_add_2 _ _)
     (tuple_addW2 t b vs.toArray ws.toArray n n2 dd dd2 sl sl2 (by simpa using hv) (by simpa using hw) (by rw [List.size_toArray, List.size_toArray]; exact hsz)) ⟨ho, ho2, ?_⟩
   rw [e]
   exact h2 hw
def sIx (n d : Nat) : Option Int → Nat
 | none => d
 | some v => if v < 0 then (v + (n : Int)).toNat else min v.toNat n
theorem sIx_none (n d : Nat) : sIx n d none = d := rfl
theorem sIx_nat (n d k : Nat) : sIx n d (some (k : Int)) = min k n := by
 show (if (k : Int) < 0 then ((k : Int) + (n : Int)).toNat else min (k : Int).toNat n) = min k n
 rw [if_neg (by omega), Int.toNat_natCast]
theorem sIx_le (n d : Nat) (hd : d ≤ n) (o : Option Int) : sIx n d o ≤ n := by
 cases o with
 | none => exact hd
 | some v =>
   show (if v < 0 then (v + (n : Int)).toNat else min v.toNat n) ≤ n
   by_cases hv : v < 0
   · rw [if_pos hv]; omega
   · rw [if_neg hv]; exact Nat.min_le_right _ _
theorem clip_eq (v : Int) (n d : Nat) : (if v < 0 then max (v + (n : Int)) 0 else min v (n : Int)) = ((sIx n d (some v) : Nat) : Int) := by
 show (if v < 0 then max (v + (n : Int)) 0 else min v (n : Int)) = (((if v < 0 then (v + (n : Int)).toNat else min v.toNat n) : Nat) : Int)
 by_cases hv : v < 0
 · simp only [if_pos hv]; omega
 · simp only [if_neg hv]; omega
theorem adjust_gen (lo hi : Option Int) (n : Nat) : Builtin.Slice.sliceAdjust lo hi 1 (n : Int) = (((sIx n 0 lo : Nat) : Int), ((sIx n n hi : Nat) : Int)) := by
 have h1 : ¬ ((1 : Int) < 0) := by omega
 unfold Builtin.Slice.sliceAdjust
 simp only [h1, if_false]
 refine Prod.ext ?_ ?_
 · cases lo with
   | none => rfl
   | some v => exact clip_eq v n 0
 · cases hi with
   | none => rfl
   | some v => exact clip_eq v n n
theorem places_gen (i j : Nat) : Builtin.Slice.slicePlaces (i : Int) (j : Int) 1 = j - i := by
 unfold Builtin.Slice.slicePlaces
 have h1 : (1 : Int) > 0 := by omega
 simp only [h1, if_true, Int.ediv_one]
 split <;> omega
theorem slicePart_ {v : Value} {o : Option Int} {Q : Option Int → Shared → Prop} (p : IsPart v o) (h : Q o s) : wpAny (model prog w) A (Builtin.Slice.slicePartIndex v) Q E s := by
 cases p with
 | none => exact slicePart_none h
 | int i t => exact slicePart_int h
theorem sliceApplied_gen {sl : Addr} {vl vu : Value} {lo hi : Option Int} {n : Nat} {Q : Int × Int × Nat → Shared → Prop} (hs : s.heap.IsSliceOf sl vl vu .none) (pl : IsPart vl lo) (pu : IsPart vu hi)
   (h : Q (((sIx n 0 lo : Nat) : Int), 1, sIx n n hi - sIx n 0 lo) s) : wpAny (model prog w) A (Builtin.Slice.sliceApplied (.ref sl) (pure (n : Int))) Q E s := by
 obtain ⟨os, hos, hcs, hds⟩ := id hs
 unfold Builtin.Slice.sliceApplied Builtin.Slice.sliceFields
 refine wpAny_bind (wpAny_bind (wpAny_field hos hds (x := vl) rfl (wpAny_bind (wpAny_field hos hds (x := vu) rfl (wpAny_bind (wpAny_field hos hds (x := .none) rfl (wpAny_pure ?_)))))))
 refine wpAny_bind (slicePart_none ?_)
 show wpAny _ _ (if ((1 : Int) == 0) = true then _ else _) _ _ s
 rw [if_neg (by decide)]
 refine wpAny_bind (slicePart_ pl (wpAny_bind (slicePart_ pu (wpAny_bind (wpAny_pure ?_)))))
 show wpAny _ _ (match Builtin.Slice.sliceAdjust lo hi 1 (n : Int) with | (lo, hi) => pure (lo, (1 : Int), Builtin.Slice.slicePlaces lo hi 1)) _ _ s
 rw [adjust_gen lo hi n]
 show wpAny _ _ (pure (((sIx n 0 lo : Nat) : Int), (1 : Int), Builtin.Slice.slicePlaces ((sIx n 0 lo : Nat) : Int) ((sIx n n hi : Nat) : Int) 1)) _ _ s
 rw [places_gen]
 exact wpAny_pure h
theorem pick_gen (xs : Array Value) (i k : Nat) : ((List.range k).filterMap fun (m : Nat) => xs[((i : Int) + (m : Int) * 1).toNat]?).toArray = ((xs.toList.drop i).take k).toArray := by
 have e : (fun (m : Nat) => xs[((i : Int) + (m : Int) * 1).toNat]?) = fun m => xs[i + m]? := by
   funext m
   have : ((i : Int) + (m : Int) * 1).toNat = i + m := by omega
   rw [this]
 rw [e]
 have := pick_run xs i k
 rw [List.filterMap_map] at this
 have e2 : ((fun x => xs[x]?) ∘ fun x => i + x) = fun m => xs[i + m]? := rfl
 rw [e2] at this
 rw [this]
theorem getItem_tuple_cut {t sl : Addr} {items : Array Value} {vl vu : Value} {lo hi : Option Int} {Q : Value → Shared → Prop} (ht : IsTup s.heap t items) (hs : s.heap.IsSliceOf sl vl vu .none) (pl : IsPart vl lo) (pu : IsPart vu hi)
   (hw : ¬ (sIx items.size 0 lo = 0 ∧ sIx items.size items.size hi = items.size))
   (h : Q (.ref s.heap.objs.size) { s with heap := s.heap.push { cls := .type "tuple", data := .seq ((items.toList.drop (sIx items.size 0 lo)).take (sIx items.size items.size hi - sIx items.size 0 lo)).toArray } })
   (hsz : items.size ≤ sizeLine) : wpAny (model prog w) A (getItem (.ref t) (.ref sl)) Q E s := by
 have htake : sizeOk (.seq ((items.toList.drop (sIx items.size 0 lo)).take (sIx items.size items.size hi - sIx items.size 0 lo)).toArray) := by
   show ((items.toList.drop (sIx items.size 0 lo)).take (sIx items.size items.size hi - sIx items.size 0 lo)).toArray.size ≤ sizeLine
   rw [List.size_toArray, List.length_take, List.length_drop, Array.length_toList]
   omega
 have hj : sIx items.size items.size hi ≤ items.size := sIx_le _ _ (Nat.le_refl _) hi
 obtain ⟨os, hos, hcs, hds⟩ := id hs
 have hTs : s.TypeIs (.ref sl) "slice" := ⟨os, hos, hcs⟩
 unfold getItem
 try with_reducible refine wpAny_holding ?_
 first | refine wpAny_bind (wpAny_pure ?_) | skip
 refine wpAny_bind (wpAny_sequenceKey ht.typeIs (by decide) ?_)
 refine wpAny_bind (wpAny_callSpecial?_slot (name := Str.ofString "__getitem__") ht.typeIs PyProof.Rows.slot_tuple_getitem
   (wpAny_call_entry PyProof.Rows.slot_tuple_getitem ht.typeIs entry_tuple_getitem ?_ (args_tuple_getitem _ _)))
 show wpAny _ _ (Builtin.Tuple.tupleItemsOf (.ref t) >>= _) _ _ s
 refine wpAny_bind (tupleItemsOf_ ht ?_)
 refine wpAny_bind (wpAny_typeOf hTs ?_)
 rw [if_pos (by decide)]
 refine wpAny_bind (sliceApplied_gen hs pl pu ?_)
 have hno : ¬ ((((sIx items.size 0 lo : Nat) : Int) == 0 && (1 : Int) == 1 && (sIx items.size items.size hi - sIx items.size 0 lo) == items.size) = true) := by
   intro q
   rw [Bool.and_eq_true, Bool.and_eq_true] at q
   have q1 : ((sIx items.size 0 lo : Nat) : Int) = 0 := eq_of_beq q.1.1
   have q2 : sIx items.size items.size hi - sIx items.size 0 lo = items.size := eq_of_beq q.2
   exact hw ⟨by omega, by omega⟩
 show wpAny _ _ (if (((sIx items.size 0 lo : Nat) : Int) == 0 && (1 : Int) == 1 && (sIx items.size items.size hi - sIx items.size 0 lo) == items.size) = true then _ else _) _ _ s
 rw [if_neg hno, pick_gen]
 first
   | exact wpAny_bind (m := Builtin.Tuple.tupleExact _) (wpAny_newObj_type (wpAny_pure ⟨_, rfl, wpAny_pure h⟩) htake)
   | exact wpAny_bind (m := Builtin.Tuple.tupleExact _) (wpAny_newObj_type (wpAny_bind (wpAny_pure (wpAny_pure ⟨_, rfl, wpAny_pure h⟩))) htake)
   | exact wpAny_bind (wpAny_bind (m := Builtin.Tuple.tupleExact _) (wpAny_newObj_type (wpAny_pure (wpAny_pure ⟨_, rfl, wpAny_pure h⟩)) htake))
   | exact wpAny_bind (wpAny_bind (m := Builtin.Tuple.tupleExact _) (wpAny_newObj_type (wpAny_pure ⟨_, rfl, wpAny_pure h⟩) htake))
end
end HT
namespace L2
open PySem PySem.Spec PyProof.Rows
abbrev TO := St → Hp → (Option Int → Hp → Prop) → Prop
def PO (X : Cx) (e : Option Expr) (t : TO) : Prop :=
 ∀ (pins : List (Addr × Obj)) (s : Shared) (σ : St) (H : Hp) (Q : Option Int → Hp → Prop), Inv X pins σ H s → t σ H Q →
   wpAny (model X.prog X.w) X.A (evalPart e X.env) (fun u s' => ∃ o H', Inv X pins σ H' s' ∧ IsPart u o ∧ Q o H') X.xe s
def tNoPart : TO := fun _ H Q => Q none H
def tPart (t : TE) : TO := fun σ H Q => t σ H fun x H1 => ∃ i, x = .int i ∧ Q (some i) H1
theorem intsAre_of {ns : List Int} : ∀ {us : List Value}, Vals (ns.map V.int) us → IntsAre us ns := by
 induction ns with
 | nil => intro us r; rw [List.map_nil] at r; cases r; exact .nil
 | cons n ns ih =>
   intro us r
   rw [List.map_cons] at r
   cases r with
   | cons r1 r2 =>
     obtain ⟨t, e⟩ := r1
     subst e
     exact .cons n t (ih r2)
section
variable {X : Cx} {e : Expr} {te : TE} {lo hi : Option Expr} {tl th : TO} {pos p2 : Pos}
theorem po_none : PO X none tNoPart := by
 intro pins s σ H Q I h
 rw [evalPart_none]
 exact wpAny_pure ⟨none, H, I, .none, h⟩
theorem po_some (h : PE X e te) : PO X (some e) (tPart te) := by
 intro pins s σ H Q I hw
 rw [evalPart_some]
 refine thn (h pins s σ H _ I hw) fun u s1 ⟨x, H1, I1, r1, q1⟩ => ?_
 obtain ⟨i, rfl, q⟩ := q1
 obtain ⟨t, rfl⟩ := r1
 exact ⟨some i, H1, I1, .int i t, q⟩
def SlR (X : Cx) (r : V → Option Int → Option Int → Hp → VK → Prop) : Prop :=
 ∀ (pins : List (Addr × Obj)) (s : Shared) (σ : St) (H : Hp) (x : V) (v vl vu : Value) (lo hi : Option Int) (sl : Addr) (Q : VK), Inv X pins σ H s → RelV x v → s.heap.IsSliceOf sl vl vu .none → IsPart vl lo → IsPart vu hi → r x lo hi H Q →
   ∃ T id, typeLookup (.type T) "__getitem__" = pure (some (.builtin id)) ∧ s.TypeIs v T ∧ wpAny (model X.prog X.w) X.A (getItem v (.ref sl)) (EP X pins σ Q) X.xe s
def tSl (r : V → Option Int → Option Int → Hp → VK → Prop) (te : TE) (tl th : TO) : TE := fun σ H Q => te σ H fun x H1 => tl σ H1 fun l H2 => th σ H2 fun u H3 => r x l u H3 Q
theorem pe_slice {r : V → Option Int → Option Int → Hp → VK → Prop} (hr : SlR X r) (he : PE X e te) (hl : PO X lo tl) (hu : PO X hi th) : PE X (.Subscript e (.Slice lo hi none p2) pos) (tSl r te tl th) := by
 intro pins s σ H Q I h
 refine Subscript_ (thn (he pins s σ H _ I h) fun v s1 ⟨x, H1, I1, r1, q1⟩ => ?_)
 refine wpAny_Slice (thn (hl pins s1 σ H1 _ I1 q1) fun vl s2 ⟨l, H2, I2, pl, q2⟩ => thn (hu pins s2 σ H2 _ I2 q2) fun vu s3 ⟨u, H3, I3, pu, q3⟩ => ?_)
 rw [evalPart_none]
 refine wpAny_pure ?_
 have I4 : Inv X pins σ H3 { s3 with heap := s3.heap.push { cls := .type "slice", data := .fields #[vl, vu, .none] } } := I3.kept (t' := s3.toks) fun b ob q => Heap.get?_push_of_some _ q
 obtain ⟨T, id, hT, ht, hg⟩ := hr pins { s3 with heap := s3.heap.push { cls := .type "slice", data := .fields #[vl, vu, .none] } } σ H3 x v vl vu l u s3.heap.objs.size Q I4 r1 (Heap.IsSliceOf.new ..) pl pu q3
 show wpAny (model X.prog X.w) X.A (subscriptTail e (.Slice lo hi none p2) v (.ref s3.heap.objs.size)) (EP X pins σ Q) X.xe { s3 with heap := s3.heap.push { cls := .type "slice", data := .fields #[vl, vu, .none] } }
 exact tail_any (ops := [.ref s3.heap.objs.size, v]) ht hT hg (by with_unfolding_all rfl)
def cutV (xs : List V) (lo hi : Option Int) : List V := (xs.drop (HT.sIx xs.length 0 lo)).take (HT.sIx xs.length xs.length hi - HT.sIx xs.length 0 lo)
theorem cutV_length (xs : List V) (lo hi : Option Int) : (cutV xs lo hi).length ≤ xs.length := by
 unfold cutV
 rw [List.length_take, List.length_drop]
 omega
def rSlT (K : PySem.W.Frag) : V → Option Int → Option Int → Hp → VK → Prop := fun x lo hi H Q => ∃ a xs, x = .ref a ∧ SqT K H a xs ∧
 ¬ (HT.sIx xs.length 0 lo = 0 ∧ HT.sIx xs.length xs.length hi = xs.length) ∧ ∀ p, H p = none → Q (.ref p) (upd H p (.tup (cutV xs lo hi)))
theorem sl_tup : SlR X (rSlT X.K) := by
 intro pins s σ H x v vl vu lo hi sl Q I rx hs pl pu h
 obtain ⟨a, xs, rfl, hx, hw, q⟩ := h
 cases rx
 obtain ⟨its, r, ht, hz⟩ := I.tuple hx
 have hlen : its.toArray.size = xs.length := by rw [List.size_toArray]; exact r.length.symm
 refine ⟨"tuple", _, PyProof.Rows.slot_tuple_getitem.lookup, ht.typeIs, ?_⟩
 refine HT.getItem_tuple_cut ht hs pl pu (by rw [hlen]; exact hw) ?_ (by rw [hlen]; exact hz)
 rw [hlen]
 refine ⟨.ref s.heap.objs.size, _, I.laid (t' := s.toks) (o := .tup (cutV xs lo hi)) (fun b ob q => Heap.get?_push_of_some _ q) (Nat.le_refl _) ?_, rfl, q _ (I.hok.fresh (Nat.le_refl _))⟩
 exact ⟨Nat.le_trans (cutV_length xs lo hi) hz, _, (r.drop (HT.sIx xs.length 0 lo)).take (HT.sIx xs.length xs.length hi - HT.sIx xs.length 0 lo), IsTup.new _ _⟩
def rCatT (K : PySem.W.Frag) : R2 := fun x y H Q => ∃ a b xs ys, x = .ref a ∧ y = .ref b ∧ SqT K H a xs ∧ SqT K H b ys ∧ xs ≠ [] ∧ xs.length + ys.length ≤ sizeLine ∧
 (ys = [] → Q (.ref a) H) ∧ (ys ≠ [] → ∀ p, H p = none → Q (.ref p) (upd H p (.tup (xs ++ ys))))
theorem Vals.nil_iff {xs : List V} {us : List Value} (r : Vals xs us) : us = [] ↔ xs = [] := by
 cases r with
 | nil => simp
 | cons _ _ => simp
theorem op_catT : OpR X (binaryOp .Add) (rCatT X.K) := by
 intro pins s σ H x y v u Q I rx ry h
 obtain ⟨a, b, xs, ys, rfl, rfl, ha, hb, hx, hz, q1, q2⟩ := h
 cases rx
 cases ry
 obtain ⟨its, r1, p1, _⟩ := I.tuple ha
 obtain ⟨its2, r2, p2, _⟩ := I.tuple hb
 refine HT.cat_tup p1 p2 (fun z => hx (r1.nil_iff.mp z)) (fun z => ⟨.ref a, H, I, rfl, q1 (r2.nil_iff.mp z)⟩) (fun z => ?_) (by rw [← r1.length, ← r2.length]; exact hz)
 refine ⟨.ref s.heap.objs.size, _, I.laid (t' := s.toks) (o := .tup (xs ++ ys)) (fun b ob q => Heap.get?_push_of_some _ q) (Nat.le_refl _) ?_, rfl, q2 (fun w => z (r2.nil_iff.mpr w)) _ (I.hok.fresh (Nat.le_refl _))⟩
 exact ⟨by rw [List.length_append]; exact hz, _, r1.append r2, IsTup.new _ _⟩
end
end L2
namespace L2
open PySem PySem.Spec PyProof.Rows
def ixN (n : Nat) (i : Int) : Option Nat := if 0 ≤ i then (if i < n then some i.toNat else none) else if -(n : Int) ≤ i then some (i + n).toNat else none
def atI {α : Type} (xs : List α) (i : Int) : Option α := (ixN xs.length i).bind fun j => xs[j]?
theorem ixN_seq {n : Nat} {i : Int} {j : Nat} (h : ixN n i = some j) : seqIndex? i n = some j ∧ j < n ∧ -(n : Int) ≤ i ∧ i < n := by
 unfold ixN at h
 by_cases h0 : 0 ≤ i
 · rw [if_pos h0] at h
   by_cases h1 : i < n
   · rw [if_pos h1] at h
     have e : i.toNat = j := Option.some.inj h
     exact ⟨by rw [seqIndex_of h0 h1, e], by omega, by omega, h1⟩
   · rw [if_neg h1] at h; cases h
 · rw [if_neg h0] at h
   by_cases h1 : -(n : Int) ≤ i
   · rw [if_pos h1] at h
     have e : (i + n).toNat = j := Option.some.inj h
     exact ⟨by rw [seqIndex_neg (by omega) h1, e], by omega, h1, by omega⟩
   · rw [if_neg h1] at h; cases h
theorem atI_get {α : Type} {xs : List α} {i : Int} {v : α} (h : atI xs i = some v) : ∃ j, seqIndex? i xs.length = some j ∧ xs[j]? = some v ∧ j < xs.length ∧ -(xs.length : Int) ≤ i ∧ i < xs.length := by
 unfold atI at h
 cases e : ixN xs.length i with
 | none => rw [e] at h; cases h
 | some j =>
   rw [e] at h
   obtain ⟨h1, h2, h3, h4⟩ := ixN_seq e
   exact ⟨j, h1, h, h2, h3, h4⟩
theorem atI_nat {α : Type} {xs : List α} {j : Nat} {v : α} (h : xs[j]? = some v) : atI xs (j : Int) = some v := by
 have hj : j < xs.length := (List.getElem?_eq_some_iff.mp h).1
 have e : ixN xs.length (j : Int) = some j := by
   unfold ixN
   rw [if_pos (by omega), if_pos (by omega)]; simp
 unfold atI; rw [e]; exact h
def PlainIx (b : Expr) : Prop := ∀ o i, subscripted b false o i = operate [o, i] (getItem o i)
def IxR (X : Cx) (r : R2) : Prop :=
 ∀ (value slice : Expr) (pins : List (Addr × Obj)) (s : Shared) (σ : St) (H : Hp) (x y : V) (v u : Value) (Q : VK), Inv X pins σ H s → RelV x v → RelV y u → r x y H Q →
   subscripted slice false v u = operate [v, u] (getItem v u) → wpAny (model X.prog X.w) X.A (subscriptTail value slice v u) (EP X pins σ Q) X.xe s
def MtR (X : Cx) (id : String) (r : V → List V → Hp → VK → Prop) : Prop :=
 ∀ (pins : List (Addr × Obj)) (s : Shared) (σ : St) (H : Hp) (x : V) (xs : List V) (v : Value) (us : List Value) (Q : VK), Inv X pins σ H s → RelV x v → Vals xs us → r x xs H Q →
   wpAny (model X.prog X.w) X.A (call (.builtin id) (v :: us)) (EP X pins σ Q) X.xe s
section
variable {X : Cx} {a b : Expr} {ta tb : TE} {pos : Pos}
theorem pe_ix {r : R2} (hr : IxR X r) (ha : PE X a ta) (hb : PE X b tb) (hs : PlainIx b) : PE X (.Subscript a b pos) (tOp r ta tb) := by
 intro pins s σ H Q I h
 exact Subscript_ (binT ha hb I h fun v u s2 x y H2 I2 rx ry q => hr a b pins s2 σ H2 x y v u Q I2 rx ry q (hs _ _))
def rIxL (K : PySem.W.Frag) : R2 := fun x y H Q => ∃ p xs i v, x = .ref p ∧ y = .int i ∧ SqL K H p xs ∧ atI xs i = some v ∧ Q v H
def rIxT (K : PySem.W.Frag) : R2 := fun x y H Q => ∃ p xs i v, x = .ref p ∧ y = .int i ∧ SqT K H p xs ∧ atI xs i = some v ∧ Q v H
theorem ix_list : IxR X (rIxL X.K) := by
 intro value slice pins s σ H x y v u Q I rx ry h hs
 obtain ⟨p, xs, i, z, rfl, rfl, hq, he, q⟩ := h
 cases rx
 obtain ⟨t, rfl⟩ := ry
 obtain ⟨its, r, pl, hz⟩ := I.list hq
 obtain ⟨j, h1, h2, h3, h4, h5⟩ := atI_get he
 obtain ⟨w, ew, rw'⟩ := r.get h2
 have hl := r.length
 have hn := line63
 have fin : EP X pins σ Q w s := ⟨z, H, I, rw', q⟩
 by_cases h0 : 0 ≤ i
 · have hj : i.toNat = j := by
     rw [seqIndex_of h0 h5] at h1
     exact Option.some.inj h1
   exact item_listR pl.isList h0 (by omega) (by rw [hj]; simpa using ew) fin hs
 · have hj : (i + (its.toArray.size : Int)).toNat = j := by
     rw [seqIndex_neg (by omega) h4] at h1
     rw [List.size_toArray, ← hl]
     exact Option.some.inj h1
   exact subscriptTail_builtinR (x := w) pl.isList.typeIs slot_list_getitem.lookup
     (wpAny_getItem_list_neg (Q := fun r s' => r = w ∧ EP X pins σ Q r s') pl.isList (by omega) (by rw [List.size_toArray] <;> omega) (by omega) (by rw [hj]; simpa using ew) ⟨rfl, fin⟩) hs
theorem ix_tup : IxR X (rIxT X.K) := by
 intro value slice pins s σ H x y v u Q I rx ry h hs
 obtain ⟨p, xs, i, z, rfl, rfl, hq, he, q⟩ := h
 cases rx
 obtain ⟨t, rfl⟩ := ry
 obtain ⟨its, r, pl, hz⟩ := I.tuple hq
 obtain ⟨j, h1, h2, h3, h4, h5⟩ := atI_get he
 obtain ⟨w, ew, rw'⟩ := r.get h2
 have hl := r.length
 have hn := line63
 have fin : EP X pins σ Q w s := ⟨z, H, I, rw', q⟩
 exact subscriptTail_builtinR (x := w) pl.typeIs slot_tuple_getitem.lookup
   (getItem_tuple (j := j) (Q := fun r s' => r = w ∧ EP X pins σ Q r s') pl (by omega) (by omega) (by rw [List.size_toArray, ← hl]; exact h1) (by simpa using ew) ⟨rfl, fin⟩) hs
theorem mapSeq_set (its : List Value) (n j : Nat) (u : Value) : Obj.mapSeq (·.setIfInBounds j u) { cls := .type "list", data := .seq its.toArray n } = { cls := .type "list", data := .seq (its.set j u).toArray n } := by
 simp [Obj.mapSeq]
theorem Inv.lst {pins : List (Addr × Obj)} {σ : St} {H : Hp} {s : Shared} {p : Addr} {xs : List V} (I : Inv X pins σ H s) (h : H p = some (.lst xs)) :
   ∃ (its : List Value) (n : Nat), Vals xs its ∧ s.heap.get? p = some { cls := .type "list", data := .seq its.toArray n } ∧ xs.length ≤ sizeLine := by
 obtain ⟨z, its, n, r, e⟩ := I.hok p _ h
 exact ⟨its, n, r, e, z⟩
theorem Inv.lstUpd {pins : List (Addr × Obj)} {σ : St} {H : Hp} {s : Shared} {p : Addr} {xs ys : List V} {its its' : List Value} {n n' : Nat} {f : Obj → Obj} (I : Inv X pins σ H s) (h : H p = some (.lst xs))
   (ho : s.heap.get? p = some { cls := .type "list", data := .seq its.toArray n }) (hf : f { cls := .type "list", data := .seq its.toArray n } = { cls := .type "list", data := .seq its'.toArray n' }) (r : Vals ys its') (hz : ys.length ≤ sizeLine) (t : Nat) :
   Inv X pins σ (upd H p (.lst ys)) { s with heap := s.heap.update p f, toks := t } := by
 have e : (s.heap.update p f).get? p = some { cls := .type "list", data := .seq its'.toArray n' } := by
   rw [Heap.get?_update_self f ho (by rw [hf] <;> rfl), hf]
 refine I.write (x := p) (e := p) (by rw [h]; trivial) (.inl rfl) (fun b u hb q => (Heap.get?_update_other _ _ (Ne.symm hb)).trans q) ⟨_, e⟩ ?_
 exact ⟨hz, its', n', r, e⟩
def rSetL : V → V → V → Hp → (Hp → Prop) → Prop := fun o i v H Q => ∃ p xs k j, o = .ref p ∧ i = .int k ∧ H p = some (.lst xs) ∧ ixN xs.length k = some j ∧ Q (upd H p (.lst (xs.set j v)))
theorem set_list : PSet X rSetL := by
 intro pins s σ H o i v ov iv u Q I ro ri rv h
 obtain ⟨p, xs, k, j, rfl, rfl, hp, hj, q⟩ := h
 cases ro
 obtain ⟨t, rfl⟩ := ri
 obtain ⟨its, n, r, ho, hz⟩ := I.lst hp
 obtain ⟨h1, h2, h3, h4⟩ := ixN_seq hj
 have hl := r.length
 have hn := line63
 have I' : Inv X pins σ (upd H p (.lst (xs.set j v))) { s with heap := s.heap.update p (Obj.mapSeq (·.setIfInBounds j u)) } :=
   I.lstUpd hp ho (mapSeq_set its n j u) (r.set rv j) (by rw [List.length_set]; exact hz) s.toks
 by_cases h0 : 0 ≤ k
 · have hk : k.toNat = j := by
     rw [seqIndex_of h0 h4] at h1
     exact Option.some.inj h1
   exact PySem.W.ki_setAt ho h0 (by omega) (by rw [List.size_toArray, ← hl]; exact h4) (by rw [hk]; exact ⟨_, I', q⟩)
 · have hk : (k + (its.toArray.size : Int)).toNat = j := by
     rw [seqIndex_neg (by omega) h3] at h1
     rw [List.size_toArray, ← hl]
     exact Option.some.inj h1
   exact PySem.W.ki_setBack ho (by omega) (by rw [List.size_toArray, ← hl]; exact h3) (by omega) (by rw [hk]; exact ⟨_, I', q⟩)
def flatV : V → Bool
 | .non => true
 | .bl _ => true
 | .int _ => true
 | .str _ => true
 | _ => false
def eqV : V → V → Bool
 | .non, .non => true
 | .bl a, .bl b => a == b
 | .bl a, .int b => (if a then 1 else 0) == b
 | .int a, .bl b => a == (if b then 1 else 0)
 | .int a, .int b => a == b
 | .str a, .str b => a == b
 | _, _ => false
theorem eqAt_V {A : Around} {s : Shared} {y x : V} {u v : Value} (ry : RelV y u) (rx : RelV x v) (fy : flatV y = true) (fx : flatV x = true) : SeqAt.EqAt A s u v (eqV y x) := by
 cases y with
 | non =>
   cases ry
   cases x with
   | non => cases rx; exact SeqAt.EqAt.same _
   | bl b => cases rx; exact SeqAt.EqAt.none_bool b
   | int b => obtain ⟨t, rfl⟩ := rx; exact SeqAt.EqAt.none_int b t
   | str b => obtain ⟨t, rfl⟩ := rx; exact SeqAt.EqAt.none_str b t
   | _ => exact absurd (show false = true from fx) Bool.false_ne_true
 | bl a =>
   cases ry
   cases x with
   | non => cases rx; exact SeqAt.EqAt.bool_none a
   | bl b => cases rx; exact SeqAt.EqAt.bool_bool a b
   | int b => obtain ⟨t, rfl⟩ := rx; exact SeqAt.EqAt.bool_int a b t
   | str b => obtain ⟨t, rfl⟩ := rx; exact SeqAt.EqAt.bool_str a b t
   | _ => exact absurd (show false = true from fx) Bool.false_ne_true
 | int a =>
   obtain ⟨t', rfl⟩ := ry
   cases x with
   | non => cases rx; exact SeqAt.EqAt.int_none a t'
   | bl b => cases rx; exact SeqAt.EqAt.int_bool a t' b
   | int b => obtain ⟨t, rfl⟩ := rx; exact SeqAt.EqAt.int_int a t' b t
   | str b => obtain ⟨t, rfl⟩ := rx; exact SeqAt.EqAt.int_str a t' b t
   | _ => exact absurd (show false = true from fx) Bool.false_ne_true
 | str a =>
   obtain ⟨t', rfl⟩ := ry
   cases x with
   | non => cases rx; exact SeqAt.EqAt.str_none a t'
   | bl b => cases rx; exact SeqAt.EqAt.str_bool a t' b
   | int b => obtain ⟨t, rfl⟩ := rx; exact SeqAt.EqAt.str_int a t' b t
   | str b => obtain ⟨t, rfl⟩ := rx; exact SeqAt.EqAt.str_str a t' b t
   | _ => exact absurd (show false = true from fx) Bool.false_ne_true
 | _ => exact absurd (show false = true from fy) Bool.false_ne_true
def eqU (x : V) (u : Value) : Bool := match u with
 | .none => eqV .non x
 | .bool b => eqV (.bl b) x
 | .int i _ => eqV (.int i) x
 | .str z _ => eqV (.str z) x
 | _ => false
theorem eqU_of {x y : V} {u : Value} (r : RelV y u) (f : flatV y = true) : eqU x u = eqV y x := by
 cases y with
 | non => cases r; rfl
 | bl b => cases r; rfl
 | int i => obtain ⟨t, rfl⟩ := r; rfl
 | str z => obtain ⟨t, rfl⟩ := r; rfl
 | _ => exact absurd (show false = true from f) Bool.false_ne_true
theorem any_eqU {x : V} : ∀ {xs : List V} {us : List Value}, Vals xs us → xs.all flatV = true → us.any (eqU x) = xs.any fun y => eqV y x
 | _, _, .nil, _ => rfl
 | y :: xs, u :: us, .cons r t, f => by
   rw [List.all_cons, Bool.and_eq_true] at f
   rw [List.any_cons, List.any_cons, eqU_of r f.1, any_eqU t f.2]
theorem mem_eqAt {A : Around} {s : Shared} {x : V} {v : Value} (rx : RelV x v) (fx : flatV x = true) : ∀ {xs : List V} {us : List Value}, Vals xs us → xs.all flatV = true → ∀ u ∈ us, SeqAt.EqAt A s u v (eqU x u)
 | _, _, .nil, _ => fun u hu => by cases hu
 | y :: xs, u :: us, .cons r t, f => fun u' hu => by
   rw [List.all_cons, Bool.and_eq_true] at f
   rcases List.mem_cons.mp hu with rfl | hu
   · rw [eqU_of r f.1]; exact eqAt_V r rx f.1 fx
   · exact mem_eqAt rx fx t f.2 u' hu
def inV (x : V) (xs : List V) : Bool := xs.any fun y => eqV y x
def rIn (K : PySem.W.Frag) (neg : Bool) : R2 := fun x y H Q => ∃ p xs, y = .ref p ∧ (SqL K H p xs ∨ SqT K H p xs) ∧ flatV x = true ∧ xs.all flatV = true ∧ Q (.bl (if neg then !inV x xs else inV x xs)) H
theorem op_in_seq : OpR X (compareOp .In) (rIn X.K false) := by
 intro pins s σ H x y v u Q I rx ry h
 obtain ⟨p, xs, rfl, hq, fx, fs, q⟩ := h
 cases ry
 rcases hq with hq | hq
 · obtain ⟨its, r, pl, hz⟩ := I.list hq
   refine SeqAt.in_listAt (eqU x) pl.isList (fun w hw => mem_eqAt rx fx r fs w (by simpa using hw)) ⟨.bl _, H, I, rfl, ?_⟩
   rw [show its.toArray.any (eqU x) = its.any (eqU x) by simp, any_eqU r fs]
   exact q
 · obtain ⟨its, r, pl, hz⟩ := I.tuple hq
   refine SeqAt.in_tupleAt (eqU x) pl (fun w hw => mem_eqAt rx fx r fs w (by simpa using hw)) ⟨.bl _, H, I, rfl, ?_⟩
   rw [show its.toArray.any (eqU x) = its.any (eqU x) by simp, any_eqU r fs]
   exact q
theorem call_len_seq : CallR X (.builtin "len") (fun xs H Q => ∃ p ys, xs = [.ref p] ∧ (SqL X.K H p ys ∨ SqT X.K H p ys) ∧ Q (.int ys.length) H) := by
 intro pins s σ H xs us Q I r h
 obtain ⟨p, ys, rfl, hq, q⟩ := h
 obtain ⟨u, rfl, rx⟩ := vals1 r
 cases rx
 have hn := line63
 rcases hq with hq | hq
 · obtain ⟨its, r', pl, hz⟩ := I.list hq
   have hlen := r'.length
   exact Calls.call_len_list pl.isList (by simp only [List.size_toArray] <;> omega) ⟨.int ys.length, H, I.tok _, ⟨s.toks + 1, by rw [List.size_toArray, hlen]⟩, q⟩
 · obtain ⟨its, r', pl, hz⟩ := I.tuple hq
   have hlen := r'.length
   exact len_tuple pl (by simp only [List.size_toArray] <;> omega) ⟨.int ys.length, H, I.tok _, ⟨s.toks + 1, by rw [List.size_toArray, hlen]⟩, q⟩
theorem cL : CallR X (.type "list") (fun xs H Q => ∃ p ys, xs = [.ref p] ∧ (SqL X.K H p ys ∨ SqT X.K H p ys) ∧ ∀ l, H l = none → Q (.ref l) (upd H l (.lst ys))) := by
 intro pins s σ H xs us Q I r h
 obtain ⟨p, ys, rfl, hq, q⟩ := h
 obtain ⟨u, rfl, rx⟩ := vals1 r
 cases rx
 have fin : ∀ (its : List Value), Vals ys its → ys.length ≤ sizeLine → ∀ (h' : Heap) (c' : Nat), (∀ b o', s.heap.get? b = some o' → h'.get? b = some o') →
     h'.get? s.heap.objs.size = some { cls := .type "list", dict := none, data := .seq its.toArray c', slots := #[] } → EP X pins σ Q (.ref s.heap.objs.size) { s with heap := h' } := fun its r' hz h' c' kp e =>
   ⟨.ref s.heap.objs.size, _, I.laid (t' := s.toks) kp (Nat.le_refl _) (show ObjOk X.prog X.w _ h' _ (.lst ys) from ⟨hz, its, c', r', e⟩), rfl, q _ (I.hok.fresh (Nat.le_refl _))⟩
 rcases hq with hq | hq
 · obtain ⟨its, r', pl, hz⟩ := I.list hq
   have hlen := r'.length
   obtain ⟨o, ho, hc, n, hd⟩ := pl.isList
   exact call_list_seq p (.inl rfl) ho hc hd (fun h' c' kp e => fin its r' hz h' c' kp e) (by simp only [List.size_toArray] <;> omega)
 · obtain ⟨its, r', pl, hz⟩ := I.tuple hq
   have hlen := r'.length
   obtain ⟨o, ho, hc, n, hd⟩ := pl
   exact call_list_seq p (.inr rfl) ho hc hd (fun h' c' kp e => fin its r' hz h' c' kp e) (by simp only [List.size_toArray] <;> omega)
theorem cT : CallR X (.type "tuple") (fun xs H Q => ∃ p ys, xs = [.ref p] ∧ ((SqL X.K H p ys ∧ ∀ l, H l = none → Q (.ref l) (upd H l (.tup ys))) ∨ (SqT X.K H p ys ∧ Q (.ref p) H))) := by
 intro pins s σ H xs us Q I r h
 obtain ⟨p, ys, rfl, h⟩ := h
 obtain ⟨u, rfl, rx⟩ := vals1 r
 cases rx
 rcases h with ⟨hq, q⟩ | ⟨hq, q⟩
 · obtain ⟨its, r', pl, hz⟩ := I.list hq
   have hlen := r'.length
   refine call_tuple_list pl.isList (fun h' kp => ?_) (by simp only [List.size_toArray] <;> omega)
   have I1 : Inv X pins σ H { s with heap := h' } := I.kept (t' := s.toks) kp
   have I2 : Inv X pins σ (upd H h'.objs.size (.tup ys)) { s with heap := h'.push { cls := .type "tuple", data := .seq its.toArray } } :=
     I1.laid (t' := s.toks) (fun b o e => Heap.get?_push_of_some _ e) (Nat.le_refl _) (show ObjOk X.prog X.w _ _ _ (.tup ys) from ⟨hz, its, r', IsTup.new _ _⟩)
   exact ⟨.ref h'.objs.size, _, I2, rfl, q _ (I1.hok.fresh (Nat.le_refl _))⟩
 · obtain ⟨its, r', pl, hz⟩ := I.tuple hq
   exact call_tuple_same pl ⟨.ref p, H, I, rfl, q⟩
def tyV (K : PySem.W.Frag) (T : String) (x : V) (H : Hp) : Prop := match x with
 | .str _ => T = "str"
 | .int _ => T = "int"
 | .ref p => (T = "list" ∧ ∃ xs, SqL K H p xs) ∨ (T = "tuple" ∧ ∃ o, K.lookup p = some o ∧ o.cls = .type "tuple" ∧ o.dict = none) ∨
     (T = "dict" ∧ ((∃ kvs, H p = some (.dK kvs)) ∨ ∃ kvs, H p = some (.dT kvs))) ∨ (T = "set" ∧ ∃ S n, H p = some (.set S n))
 | _ => False
theorem tyV_is {pins : List (Addr × Obj)} {σ : St} {H : Hp} {s : Shared} {T : String} {x : V} {v : Value} (I : Inv X pins σ H s) (r : RelV x v) (ty : tyV X.K T x H) :
   s.TypeIs v T ∧ ∀ a, v = .ref a → ∃ ob, s.heap.get? a = some ob ∧ ob.dict = none := by
 cases x with
 | str z =>
   obtain ⟨t, rfl⟩ := r
   cases (show T = "str" from ty)
   exact ⟨typeIs_str s z t, fun _ e => nomatch e⟩
 | int i =>
   obtain ⟨t, rfl⟩ := r
   cases (show T = "int" from ty)
   exact ⟨typeIs_int s i t, fun _ e => nomatch e⟩
 | ref p =>
   cases r
   rcases ty with ⟨rfl, xs, hq⟩ | ⟨rfl, o, hk, hc, hd⟩ | ⟨rfl, hk⟩ | ⟨rfl, S, n, hk⟩
   · obtain ⟨its, _, pl, _⟩ := I.list hq
     refine ⟨pl.isList.typeIs, fun a e => ?_⟩
     cases e
     obtain ⟨o, n, e, c, hd, _⟩ := pl
     exact ⟨o, e, hd⟩
   · refine ⟨⟨o, I.kIn p o hk, hc⟩, fun a e => ?_⟩
     cases e
     exact ⟨o, I.kIn _ o hk, hd⟩
   · have z : ∃ o, s.heap.get? p = some o ∧ o.ExactDict := by
       rcases hk with ⟨kvs, hk⟩ | ⟨kvs, hk⟩
       · obtain ⟨_, _, _, _, o, _, _, e, ex, _⟩ := I.hok p _ hk
         exact ⟨o, e, ex⟩
       · obtain ⟨_, _, _, _, o, _, _, e, ex, _⟩ := I.hok p _ hk
         exact ⟨o, e, ex⟩
     obtain ⟨o, e, ex⟩ := z
     refine ⟨⟨o, e, ex.1⟩, fun a e2 => ?_⟩
     cases e2
     exact ⟨o, e, ex.2.1⟩
   · obtain ⟨o, _, _, _, e, ex, _⟩ := I.hok p _ hk
     refine ⟨⟨o, e, ex.1⟩, fun a e2 => ?_⟩
     cases e2
     exact ⟨o, e, ex.2.1⟩
 | _ => exact False.elim ty
def tBM0 (K : PySem.W.Frag) (T : String) (r : V → List V → Hp → VK → Prop) (to : TE) : TE := fun σ H Q => to σ H fun x H1 => tyV K T x H1 ∧ r x [] H1 Q
def tBM (K : PySem.W.Frag) (T : String) (r : V → List V → Hp → VK → Prop) (to : TE) (t : TA) : TE := fun σ H Q => to σ H fun x H1 => tyV K T x H1 ∧ t σ H1 fun xs H2 => r x xs H2 Q
variable {o e : Expr} {es : List Expr} {to : TE} {t : TA} {name : Str} {apos cpos : Pos} {T id : String} {r : V → List V → Hp → VK → Prop}
theorem pe_bm0 (pa : PlainAttrs T) (slot : Slot T name id) (hty : typeOf (.builtin id) = pure (.type "method_descriptor")) (hm : MtR X id r) (ho : PE X o to)
   (hbase : attributeBase o name X.env (eval o X.env) = eval o X.env := by rfl) (hline : (apos.endLine == cpos.line) = true := by rfl) : PE X (.Call (.Attribute o name apos) [] [] cpos) (tBM0 X.K T r to) := by
 intro pins s σ H Q I h
 refine wpAny_Call_method0_late hbase hline (thn (ho pins s σ H _ I h) fun v s1 ⟨x, H1, I1, r1, ty, q1⟩ => ?_)
 obtain ⟨h1, h2⟩ := tyV_is I1 r1 ty
 exact ⟨T, id, pa, slot, hty, h1, h2, Calls.callWith_builtin rfl (PySem.evalArgs_none (hm pins s1 σ H1 x [] v [] Q I1 r1 .nil q1))⟩
theorem pe_bm (pa : PlainAttrs T) (slot : Slot T name id) (hty : typeOf (.builtin id) = pure (.type "method_descriptor")) (hm : MtR X id r) (ho : PE X o to) (ha : PA X (e :: es) t)
   (hbase : attributeBase o name X.env (eval o X.env) = eval o X.env := by rfl)
   (hfew : ((backTo cpos (starEach (e :: es) X.env)).all (fun x => !x.1) && (backToKw cpos (keywordEach [] X.env)).all (fun x => x.1.isSome)
     && decide ((e :: es).length + ([] : List Keyword).length + (if ([] : List Keyword).isEmpty then 0 else 1) < 30)) = true := by rfl)
   (hline : (apos.endLine == cpos.line) = true := by rfl) (hs : starEach (e :: es) X.env = (false, eval e X.env) :: starEach es X.env := by rfl) (hplain : (backTo cpos (starEach es X.env)).any (·.1) = false := by rfl) :
   PE X (.Call (.Attribute o name apos) (e :: es) [] cpos) (tBM X.K T r to t) := by
 intro pins s σ H Q I h
 refine wpAny_Call_method_late hbase hfew hline rfl (thn (ho pins s σ H _ I h) fun v s1 ⟨x, H1, I1, r1, ty, q1⟩ => ?_)
 obtain ⟨h1, h2⟩ := tyV_is I1 r1 ty
 refine ⟨T, id, pa, slot, hty, h1, h2, ?_⟩
 have hA := ha cpos pins s1 σ H1 _ I1 q1
 rw [hs] at hA ⊢
 refine Calls.callWith_builtin (by show (false || (backTo cpos (starEach es X.env)).any (·.1)) = false; rw [hplain] <;> rfl) (Calls.evalArgs_plain ?_)
 exact thn hA fun us s2 ⟨vs, H2, I2, r2, q2⟩ => hm pins s2 σ H2 x vs v us Q I2 r1 r2 q2
/- xs.append(e), list.index on a module's tuple .. are MtR facts of 06m -/
end
end L2
namespace L2
open PySem PySem.Spec PyProof.Rows
def MtM (X : Cx) (id : String) (r : V → List V → Hp → VK → Prop) : Prop :=
 ∀ (pins : List (Addr × Obj)) (s : Shared) (σ : St) (H : Hp) (x : V) (xs : List V) (v : Value) (us : List Value) (Q : VK), Inv X pins σ H s → RelV x v → Vals xs us → r x xs H Q →
   wpAny (model X.prog X.w) X.A (call (.builtin id) (v :: us)) (EP X pins σ Q) X.xe s
theorem Vals.one : ∀ {x : V} {us : List Value}, Vals [x] us → ∃ u, us = [u] ∧ RelV x u
 | _, _, .cons r .nil => ⟨_, rfl, r⟩
theorem Vals.zero : ∀ {us : List Value}, Vals [] us → us = []
 | _, .nil => rfl
section
variable {X : Cx} {pins : List (Addr × Obj)} {σ : St} {H : Hp} {s : Shared} {l b : Addr} {xs ys zs : List V}
theorem Inv.lset {its its' : List Value} {n : Nat} {f : Array Value → Array Value} {t' : Nat} (I : Inv X pins σ H s) (hH : H l = some (.lst xs))
   (e : s.heap.get? l = some { cls := .type "list", data := .seq its.toArray n }) (hf : f its.toArray = its'.toArray) (hv : Vals ys its') (hz : ys.length ≤ sizeLine) :
   Inv X pins σ (upd H l (.lst ys)) { s with heap := s.heap.update l (Obj.mapSeq f), toks := t' } := by
 have q := PySem.IsL.update e f
 rw [hf] at q
 refine I.write (x := l) (e := l) (by rw [hH]; exact trivial) (.inl rfl) (fun b' u hb hu => (Heap.get?_update_other s.heap (Obj.mapSeq f) (Ne.symm hb)).trans hu) ⟨_, q⟩ ?_
 exact ⟨hz, its', _, hv, q⟩
theorem Inv.lnew {its : List Value} {t' : Nat} (I : Inv X pins σ H s) (hv : Vals ys its) (hz : ys.length ≤ sizeLine) :
   Inv X pins σ (upd H s.heap.objs.size (.lst ys)) { s with heap := s.heap.push { cls := .type "list", data := .seq its.toArray }, toks := t' } :=
 I.laid (fun _ _ q => Heap.get?_push_of_some _ q) (Nat.le_refl _) ⟨hz, its, 0, hv, Heap.get?_push_size _ rfl⟩
theorem Inv.fresh (I : Inv X pins σ H s) : H s.heap.objs.size = none := I.hok.fresh (Nat.le_refl _)
theorem Inv.lstM (I : Inv X pins σ H s) (hH : H l = some (.lst xs)) : xs.length ≤ sizeLine ∧ ∃ (its : List Value) (n : Nat), Vals xs its ∧ xs.length = its.length ∧ s.heap.get? l = some { cls := .type "list", data := .seq its.toArray n } := by
 obtain ⟨z, its, n, r, e⟩ := I.hok l _ hH
 exact ⟨z, its, n, r, r.length, e⟩
theorem notLongL {n : Nat} (h : n ≤ sizeLine) : Builtin.List.listTooLong n = false := by
 unfold Builtin.List.listTooLong
 exact decide_eq_false (by omega)
end
section
variable {X : Cx}
def rAppend : V → List V → Hp → VK → Prop := fun x vs H Q => ∃ l xs y, x = .ref l ∧ vs = [y] ∧ H l = some (.lst xs) ∧ xs.length < sizeLine ∧ Q .non (upd H l (.lst (xs ++ [y])))
theorem mt_append : MtM X "list.append" rAppend := by
 intro pins s σ H x vs v us Q I rx rv h
 obtain ⟨l, xs, y, rfl, rfl, hH, hz, q⟩ := h
 cases rx
 obtain ⟨u, rfl, ru⟩ := rv.one
 obtain ⟨z, its, n, r, hl, e⟩ := I.lstM hH
 refine call_meets F.slot_list_append ⟨_, e, rfl⟩ F.entry_list_append (F.args_list_append_2 _ _) (PySem.list_append l its.toArray n u (by rw [List.size_toArray]; omega)) ⟨e, ?_⟩
 refine ⟨.non, _, I.lset (its' := its ++ [u]) hH e (by simp) (r.append (.cons ru .nil)) ?_, rfl, q⟩
 rw [List.length_append, List.length_singleton]
 omega
def rExtend : V → List V → Hp → VK → Prop := fun x vs H Q => ∃ l b xs zs, x = .ref l ∧ vs = [.ref b] ∧ H l = some (.lst xs) ∧ H b = some (.lst zs) ∧ xs.length + zs.length ≤ sizeLine ∧ Q .non (upd H l (.lst (xs ++ zs)))
theorem mt_extend : MtM X "list.extend" rExtend := by
 intro pins s σ H x vs v us Q I rx rv h
 obtain ⟨l, b, xs, zs, rfl, rfl, hH, hB, hz, q⟩ := h
 cases rx
 obtain ⟨u, rfl, ru⟩ := rv.one
 cases ru
 obtain ⟨z, its, n, r, hl, e⟩ := I.lstM hH
 obtain ⟨z2, its2, n2, r2, hl2, e2⟩ := I.lstM hB
 have hsz : its.toArray.size + its2.toArray.size ≤ sizeLine := by rw [List.size_toArray, List.size_toArray]; omega
 have hlong : ¬ (!its.toArray.isEmpty && Builtin.List.listTooLong (its.toArray.size + its2.toArray.size)) = true := by
   rw [notLongL hsz, Bool.and_false]
   exact Bool.false_ne_true
 refine call_meets F.slot_list_extend ⟨_, e, rfl⟩ F.entry_list_extend (F.args_list_extend_2 _ _)
   (AutoSeq1.list_extend_list_list_0 l its.toArray n b its2.toArray n2 hlong (by rw [List.size_toArray]; omega) (by omega)) ⟨e, e2, ?_⟩
 refine ⟨.non, _, I.lset (its' := its ++ its2) hH e (by simp) (r.append r2) ?_, rfl, q⟩
 rw [List.length_append]
 omega
def rClear : V → List V → Hp → VK → Prop := fun x vs H Q => ∃ l xs, x = .ref l ∧ vs = [] ∧ H l = some (.lst xs) ∧ Q .non (upd H l (.lst []))
theorem mt_clear : MtM X "list.clear" rClear := by
 intro pins s σ H x vs v us Q I rx rv h
 obtain ⟨l, xs, rfl, rfl, hH, q⟩ := h
 cases rx
 have hus := rv.zero
 subst hus
 obtain ⟨z, its, n, r, hl, e⟩ := I.lstM hH
 refine call_meets F.slot_list_clear ⟨_, e, rfl⟩ F.entry_list_clear (F.args_list_clear_1 _) (AutoSeq1.list_clear_list_0 l its.toArray n (by rw [List.size_toArray]; omega)) ⟨e, ?_⟩
 exact ⟨.non, _, I.lset (its' := []) (ys := []) hH e rfl .nil (Nat.zero_le _), rfl, q⟩
def rCat : R2 := fun x y H Q => ∃ l b xs zs, x = .ref l ∧ y = .ref b ∧ H l = some (.lst xs) ∧ H b = some (.lst zs) ∧ xs.length + zs.length ≤ sizeLine ∧ ∀ p, H p = none → Q (.ref p) (upd H p (.lst (xs ++ zs)))
theorem op_cat : OpR X (binaryOp .Add) rCat := by
 intro pins s σ H x y v u Q I rx ry h
 obtain ⟨l, b, xs, zs, rfl, rfl, hH, hB, hz, q⟩ := h
 cases rx
 cases ry
 obtain ⟨z, its, n, r, hl, e⟩ := I.lstM hH
 obtain ⟨z2, its2, n2, r2, hl2, e2⟩ := I.lstM hB
 refine PySem.P.add_list e e2 ?_ (by rw [List.size_toArray, List.size_toArray]; omega)
 have ea : its.toArray ++ its2.toArray = (its ++ its2).toArray := by simp
 rw [ea]
 exact ⟨.ref _, _, I.lnew (t' := s.toks) (r.append r2) (by rw [List.length_append]; omega), rfl, q _ I.fresh⟩
end
section
variable {prog : Program} {w : World} {A : Around} {E : Value → Shared → Prop} {s : Shared}
end
section
variable {X : Cx}
end
end L2
namespace L2
open PySem PySem.Spec PyProof.Rows
section
variable {κ : Type} [DecidableEq κ]
def valV (kvs : List (κ × V)) (k : κ) : Option V := (kvs.find? fun kv => decide (kv.1 = k)).map (·.2)
def putK (kvs : List (κ × V)) (k : κ) (v : V) : List (κ × V) :=
 if (kvs.any fun kv => decide (kv.1 = k)) = true then kvs.map (fun kv => if kv.1 = k then (kv.1, v) else kv) else kvs ++ [(k, v)]
theorem valV_pos {p : κ × V} {r : List (κ × V)} {k : κ} (e : p.1 = k) : valV (p :: r) k = some p.2 := by simp [valV, List.find?_cons, e]
theorem valV_neg {p : κ × V} {r : List (κ × V)} {k : κ} (e : ¬ p.1 = k) : valV (p :: r) k = valV r k := by simp [valV, List.find?_cons, e]
theorem valV_any (k : κ) : ∀ kvs : List (κ × V), (kvs.any fun kv => decide (kv.1 = k)) = (valV kvs k).isSome
 | [] => rfl
 | p :: r => by
   rw [List.any_cons]
   by_cases e : p.1 = k
   · simp only [valV_pos e, decide_eq_true e, Bool.true_or, Option.isSome_some]
   · rw [valV_neg e, decide_eq_false e, Bool.false_or]; exact valV_any k r
theorem length_putK (kvs : List (κ × V)) (k : κ) (v : V) : (putK kvs k v).length ≤ kvs.length + 1 := by
 unfold putK
 split
 · rw [List.length_map]; omega
 · rw [List.length_append, List.length_cons, List.length_nil]; omega
theorem putK_new {kvs : List (κ × V)} {k : κ} (v : V) (h : valV kvs k = none) : putK kvs k v = kvs ++ [(k, v)] := by
 unfold putK
 rw [valV_any, h]
 exact if_neg (by decide)
theorem RelO.isSome_eq {o : Option V} {u : Option Value} (r : RelO o u) : o.isSome = u.isSome := by
 cases o with
 | none => cases u with
   | none => rfl
   | some _ => exact (show False from r).elim
 | some _ => cases u with
   | none => exact (show False from r).elim
   | some _ => rfl
theorem KV.val {kvs : List (κ × V)} {vs : List (κ × Value)} (r : KV kvs vs) (k : κ) : RelO (valV kvs k) (valueAt vs k) := by
 unfold KV at r
 induction r with
 | nil => exact True.intro
 | @cons p q ps qs h t ih =>
   obtain ⟨h1, h2⟩ := h
   by_cases e : p.1 = k
   · have e' : q.1 = k := h1.symm.trans e
     have b : valueAt (q :: qs) k = some q.2 := by simp [valueAt, List.find?_cons, e']
     rw [valV_pos e, b]; exact h2
   · have e' : ¬ q.1 = k := fun z => e (h1.trans z)
     have b : valueAt (q :: qs) k = valueAt qs k := by simp [valueAt, List.find?_cons, e']
     rw [valV_neg e, b]; exact ih
theorem KV.any {kvs : List (κ × V)} {vs : List (κ × Value)} (r : KV kvs vs) (k : κ) : (kvs.any fun kv => decide (kv.1 = k)) = vs.any fun kv => decide (kv.1 = k) := by
 unfold KV at r
 induction r with
 | nil => rfl
 | cons h t ih => rw [List.any_cons, List.any_cons, ih, h.1]
theorem KV.repl {kvs : List (κ × V)} {vs : List (κ × Value)} (r : KV kvs vs) (k : κ) {y : V} {u : Value} (ry : RelV y u) :
   KV (kvs.map fun kv => if kv.1 = k then (kv.1, y) else kv) (vs.map fun kv => if kv.1 = k then (kv.1, u) else kv) := by
 unfold KV at r ⊢
 induction r with
 | nil => exact .nil
 | @cons p q ps qs h t ih =>
   rw [List.map_cons, List.map_cons]
   refine .cons ?_ ih
   obtain ⟨h1, h2⟩ := h
   by_cases e : p.1 = k
   · rw [if_pos e, if_pos (h1.symm.trans e)]; exact ⟨h1, ry⟩
   · rw [if_neg e, if_neg (fun z => e (h1.trans z))]; exact ⟨h1, h2⟩
theorem KV.put {kvs : List (κ × V)} {vs : List (κ × Value)} (r : KV kvs vs) (k : κ) {y : V} {u : Value} (ry : RelV y u) : KV (putK kvs k y) (stored vs k u) := by
 unfold putK stored
 rw [r.any k]
 by_cases e : (vs.any fun kv => decide (kv.1 = k)) = true
 · rw [if_pos e, if_pos e]; exact r.repl k ry
 · rw [if_neg e, if_neg e]; exact Paired.snoc r ⟨rfl, ry⟩
theorem KV.length {kvs : List (κ × V)} {vs : List (κ × Value)} (r : KV kvs vs) : kvs.length = vs.length := Paired.length r
end
theorem kV_is {P : Program} {w : World} {k : Key} {u : Value} (r : RelV (kV k) u) : (mixKind P w).is k u = true := by
 cases k with
 | inl i => obtain ⟨t, e⟩ := (show ∃ t, u = Value.int i t from r); subst e; exact mixKind_int P w i t
 | inr x => obtain ⟨t, e⟩ := (show ∃ t, u = Value.str x t from r); subst e; exact mixKind_str P w x t
theorem items_are {P : Program} {w : World} : ∀ {ks : List Key} {us : List Value}, Vals (ks.map kV) us → ItemsAre (mixKind P w) ks us
 | [], _, r => by rw [List.map_nil] at r; cases r; exact .nil
 | k :: ks, _, r => by
   rw [List.map_cons] at r
   cases r with
   | cons h t => exact .cons (kV_is h) (items_are t)
abbrev KT (H : Hp) : List (List Key × V) → List (List Key × Addr × Value) → Prop := Paired fun p q => p.1 = q.1 ∧ H q.2.1 = some (.tup (p.1.map kV)) ∧ RelV p.2 q.2.2
theorem KT.val {H : Hp} {kvs : List (List Key × V)} {xs : List (List Key × Addr × Value)} (r : KT H kvs xs) (k : List Key) : RelO (valV kvs k) ((atKey xs k).map (·.2)) := by
 induction r with
 | nil => exact True.intro
 | @cons p q ps qs h t ih =>
   obtain ⟨h1, _, h2⟩ := h
   by_cases e : p.1 = k
   · have e' : q.1 = k := h1.symm.trans e
     have b : atKey (q :: qs) k = some q.2 := by simp [atKey, List.find?_cons, e']
     rw [valV_pos e, b]; exact h2
   · have e' : ¬ q.1 = k := fun z => e (h1.trans z)
     have b : atKey (q :: qs) k = atKey qs k := by simp [atKey, List.find?_cons, e']
     rw [valV_neg e, b]; exact ih
theorem KT.repl {H : Hp} {kvs : List (List Key × V)} {xs : List (List Key × Addr × Value)} (r : KT H kvs xs) (k : List Key) {y : V} {u : Value} (ry : RelV y u) :
   KT H (kvs.map fun kv => if kv.1 = k then (kv.1, y) else kv) (xs.map (putAt k u)) := by
 induction r with
 | nil => exact .nil
 | @cons p q ps qs h t ih =>
   rw [List.map_cons, List.map_cons]
   refine .cons ?_ ih
   obtain ⟨h1, h2, h3⟩ := h
   unfold putAt
   by_cases e : p.1 = k
   · rw [if_pos e, if_pos (h1.symm.trans e)]; exact ⟨h1, h2, ry⟩
   · rw [if_neg e, if_neg (fun z => e (h1.trans z))]; exact ⟨h1, h2, h3⟩
theorem KT.put {H : Hp} {kvs : List (List Key × V)} {xs : List (List Key × Addr × Value)} (r : KT H kvs xs) (k : List Key) {b : Addr} {y : V} {u : Value} (hb : H b = some (.tup (k.map kV))) (ry : RelV y u) :
   KT H (putK kvs k y) (storedH xs k b u) := by
 have e : (kvs.any fun kv => decide (kv.1 = k)) = (atKey xs k).isSome := by
   rw [valV_any, (r.val k).isSome_eq, Option.isSome_map]
 unfold putK storedH
 rw [e]
 by_cases q : (atKey xs k).isSome = true
 · rw [if_pos q, if_pos q]; exact r.repl k ry
 · rw [if_neg q, if_neg q]; exact Paired.snoc r ⟨rfl, hb, ry⟩
theorem KT.keeps {H H' : Hp} {kvs : List (List Key × V)} {xs : List (List Key × Addr × Value)} (r : KT H kvs xs) (ht : ∀ b ys, H b = some (.tup ys) → H' b = some (.tup ys)) : KT H' kvs xs :=
 Paired.mapP r fun _ _ z => ⟨z.1, ht _ _ z.2.1, z.2.2⟩
section
variable {P : Program} {w : World} {H : Hp} {h : Heap} {a : Addr}
theorem rd_of {u : HO} (ok : HOk P w H h) (e : Rd H a u) : ObjOk P w H h a u := e.ok ok
theorem dk_rd {kvs : List (Key × V)} (ok : HOk P w H h) (e : Rd H a (.dK kvs)) : kvs.length ≤ sizeLine ∧ (a == sysModules) = false ∧ ∃ vs, KV kvs vs ∧ h.DictOf (mixKind P w) a vs :=
 show ObjOk P w H h a (.dK kvs) from rd_of ok e
theorem dk_of {kvs : List (Key × V)} (ok : HOk P w H h) (e : H a = some (.dK kvs)) : kvs.length ≤ sizeLine ∧ (a == sysModules) = false ∧ ∃ vs, KV kvs vs ∧ h.DictOf (mixKind P w) a vs := dk_rd ok (.inl e)
theorem key_of {ks : List Key} (ok : HOk P w H h) (e : H a = some (.tup (ks.map kV))) : (tupleKind (mixKind P w)).is h ks a := by
 obtain ⟨_, its, r, o, h1, h2, n, h3⟩ := (show ObjOk P w H h a (.tup (ks.map kV)) from ok a _ e)
 exact ⟨o, its.toArray, n, h1, h2, h3, by simpa using items_are r⟩
theorem dt_rd {kvs : List (List Key × V)} (ok : HOk P w H h) (e : Rd H a (.dT kvs)) : kvs.length ≤ sizeLine ∧ (a == sysModules) = false ∧
   ∃ xs, KT H kvs xs ∧ h.DictOfH (tupleKind (mixKind P w)) a xs := by
 obtain ⟨z, y, xs, r, o, es, ep, h1, h2, h3, h4, h5⟩ := (show ObjOk P w H h a (.dT kvs) from rd_of ok e)
 refine ⟨z, y, xs, r, o, es, ep, h1, h2, h3, h4, fun x hx => ?_, h5⟩
 have all : ∀ {l : List (List Key × V)} {m : List (List Key × Addr × Value)}, KT H l m → ∀ x ∈ m, (tupleKind (mixKind P w)).is h x.1 x.2.1 := by
   intro l m q
   induction q with
   | nil => intro x hx; exact nomatch hx
   | @cons p q ps qs hq t ih =>
     intro x hx
     rcases List.mem_cons.mp hx with e | hx
     · subst e
       exact key_of ok (by rw [← hq.1]; exact hq.2.1)
     · exact ih x hx
 exact all r x hx
theorem dt_of {kvs : List (List Key × V)} (ok : HOk P w H h) (e : H a = some (.dT kvs)) : kvs.length ≤ sizeLine ∧ (a == sysModules) = false ∧
   ∃ xs, KT H kvs xs ∧ h.DictOfH (tupleKind (mixKind P w)) a xs := dt_rd ok (.inl e)
end
def DGet (H : Hp) (a : Addr) (y : V) (r : Option V) : Prop :=
 (∃ kvs k, Rd H a (.dK kvs) ∧ y = kV k ∧ r = valV kvs k) ∨ ∃ kvs k b, Rd H a (.dT kvs) ∧ y = .ref b ∧ H b = some (.tup (k.map kV)) ∧ r = valV kvs k
def DPut (H : Hp) (a : Addr) (y v : V) (H' : Hp) : Prop :=
 (∃ kvs k, H a = some (.dK kvs) ∧ y = kV k ∧ kvs.length < sizeLine ∧ H' = upd H a (.dK (putK kvs k v))) ∨
 ∃ kvs k b, H a = some (.dT kvs) ∧ y = .ref b ∧ H b = some (.tup (k.map kV)) ∧ kvs.length < sizeLine ∧ H' = upd H a (.dT (putK kvs k v))
theorem DGet.t {H : Hp} {a b : Addr} {kvs : List (List Key × V)} {k : List Key} (e : H a = some (.dT kvs)) (eb : H b = some (.tup (k.map kV))) : DGet H a (.ref b) (valV kvs k) := .inr ⟨kvs, k, b, .inl e, rfl, eb, rfl⟩
theorem DPut.t {H : Hp} {a b : Addr} {kvs : List (List Key × V)} {k : List Key} {v : V} (e : H a = some (.dT kvs)) (eb : H b = some (.tup (k.map kV))) (hl : kvs.length < sizeLine) :
   DPut H a (.ref b) v (upd H a (.dT (putK kvs k v))) := .inr ⟨kvs, k, b, e, rfl, eb, hl, rfl⟩
section
variable {X : Cx} {pins : List (Addr × Obj)} {σ : St} {H : Hp} {s : Shared} {a : Addr} {y v : V} {u r : Value} {o : Option V} {A : Around} {E : Value → Shared → Prop}
theorem Inv.big (I : Inv X pins σ H s) : sysModules < s.heap.objs.size := by
 have h : mainGlobals < s.heap.objs.size := (I.mod.glob.keeps I.bk).lt
 exact Nat.lt_trans (by decide) h
theorem d_getItem {Q : Value → Shared → Prop} (hu : A.units + 1 < cLine) (I : Inv X pins σ H s) (g : DGet H a y (some v)) (ry : RelV y u) (h : ∀ w' s', Inv X pins σ H s' → RelV v w' → Q w' s') :
   wpAny (model X.prog X.w) A (getItem (.ref a) u) Q E s := by
 rcases g with ⟨kvs, k, e, ey, l⟩ | ⟨kvs, k, b, e, ey, eb, l⟩
 · subst ey
   obtain ⟨z, hd, vs, rel, dd⟩ := dk_rd I.hok e
   obtain ⟨w', hw, rw'⟩ := RelO.some_of (v := v) (o := valueAt vs k) (by rw [l]; exact rel.val k)
   exact wpAny_getItem_of (kV_is ry) dd.mapOf hw (h w' _ (I.tok _) rw')
 · subst ey
   cases (show u = Value.ref b from ry)
   obtain ⟨z, hd, xs, rel, dd⟩ := dt_rd I.hok e
   obtain ⟨w', hw, rw'⟩ := RelO.some_of (v := v) (o := (atKey xs k).map (·.2)) (by rw [l]; exact rel.val k)
   obtain ⟨p, hp, hp2⟩ := Option.map_eq_some_iff.mp hw
   refine wpAny_getItem_heap (tupleKind_room_in1 hu) (key_of I.hok eb) dd hp ?_
   rw [hp2]
   exact h w' _ (I.tok _) rw'
theorem d_in {Q : Value → Shared → Prop} (hu : A.units + 1 < cLine) (I : Inv X pins σ H s) (g : DGet H a y o) (ry : RelV y u) (h : ∀ s', Inv X pins σ H s' → Q (.bool o.isSome) s') :
   wpAny (model X.prog X.w) A (compareOp .In u (.ref a)) Q E s := by
 rcases g with ⟨kvs, k, e, ey, l⟩ | ⟨kvs, k, b, e, ey, eb, l⟩
 · subst ey
   obtain ⟨z, hd, vs, rel, dd⟩ := dk_rd I.hok e
   refine wpAny_in_of (kV_is ry) hd dd.mapOf ?_
   rw [← (rel.val k).isSome_eq, ← l]
   exact h _ (I.tok _)
 · subst ey
   cases (show u = Value.ref b from ry)
   obtain ⟨z, hd, xs, rel, dd⟩ := dt_rd I.hok e
   refine wpAny_in_heap (tupleKind_room_in1 hu) (key_of I.hok eb) hd dd ?_
   have q := (rel.val k).isSome_eq
   rw [Option.isSome_map] at q
   rw [← q, ← l]
   exact h _ (I.tok _)
theorem d_notIn {Q : Value → Shared → Prop} (hu : A.units + 1 < cLine) (I : Inv X pins σ H s) (g : DGet H a y o) (ry : RelV y u) (h : ∀ s', Inv X pins σ H s' → Q (.bool (!o.isSome)) s') :
   wpAny (model X.prog X.w) A (compareOp .NotIn u (.ref a)) Q E s := by
 rcases g with ⟨kvs, k, e, ey, l⟩ | ⟨kvs, k, b, e, ey, eb, l⟩
 · subst ey
   obtain ⟨z, hd, vs, rel, dd⟩ := dk_rd I.hok e
   refine wpAny_notIn_of (kV_is ry) hd dd.mapOf ?_
   rw [← (rel.val k).isSome_eq, ← l]
   exact h _ (I.tok _)
 · subst ey
   cases (show u = Value.ref b from ry)
   obtain ⟨z, hd, xs, rel, dd⟩ := dt_rd I.hok e
   refine wpAny_notIn_heap (tupleKind_room_in1 hu) (key_of I.hok eb) hd dd ?_
   have q := (rel.val k).isSome_eq
   rw [Option.isSome_map] at q
   rw [← q, ← l]
   exact h _ (I.tok _)
theorem d_write {h' : Heap} {t' : Nat} {ob : HO} (I : Inv X pins σ H s) (mu : Mut (H a)) (hs : Heap.SameBut a s.heap h') (he : ∃ q, h'.get? a = some q) (new : ObjOk X.prog X.w (upd H a ob) h' a ob) :
   Inv X pins σ (upd H a ob) { s with heap := h', toks := t' } :=
 I.write (x := a) (e := a) mu (.inl rfl) (fun b q hb z => (hs.2 b hb).trans z) he new
theorem dk_new {P : Program} {w : World} {H' : Hp} {h' : Heap} {kvs : List (Key × V)} {vs : List (Key × Value)} (z : kvs.length ≤ sizeLine) (hd : (a == sysModules) = false) (rel : KV kvs vs) (dd : h'.DictOf (mixKind P w) a vs) :
   ObjOk P w H' h' a (.dK kvs) := ⟨z, hd, vs, rel, dd⟩
theorem d_setItem {H' : Hp} {Q : Unit → Shared → Prop} (hu : A.units + 1 < cLine) (I : Inv X pins σ H s) (g : DPut H a y v H') (ry : RelV y u) (rv : RelV v r) (h : ∀ s', Inv X pins σ H' s' → Q () s') :
   wpAny (model X.prog X.w) A (setItem (.ref a) u r) Q E s := by
 rcases g with ⟨kvs, k, e, ey, l, eH⟩ | ⟨kvs, k, b, e, ey, eb, l, eH⟩
 · subst ey eH
   obtain ⟨z, hd, vs, rel, dd⟩ := dk_of I.hok e
   have hz : vs.length ≤ sizeLine := by rw [← rel.length]; exact z
   have hl : (putK kvs k v).length ≤ sizeLine := by have := length_putK kvs k v; omega
   refine wpAny_setItem_pairs (hsz := hz) (kV_is ry) dd fun h' dd' hs => h _ ?_
   have he : ∃ q, h'.get? a = some q := let ⟨q, _, _, hq, _⟩ := dd'; ⟨q, hq⟩
   exact d_write I (by rw [e]; exact True.intro) hs he (dk_new hl hd (rel.put k rv) dd')
 · subst ey eH
   cases (show u = Value.ref b from ry)
   obtain ⟨z, hd, xs, rel, dd⟩ := dt_of I.hok e
   have hz : xs.length ≤ sizeLine := by rw [← Paired.length rel]; exact z
   have hl : (putK kvs k v).length ≤ sizeLine := by have := length_putK kvs k v; omega
   refine wpAny_setItem_heap (hsz := hz) (tupleKind_room_in1 hu) (key_of I.hok eb) dd fun h' dd' hs => h _ ?_
   obtain ⟨q, es, ep, hq, h2, h3, h4, _, h5⟩ := dd'
   refine d_write I (by rw [e]; exact True.intro) hs ⟨q, hq⟩ ⟨hl, hd, _, (rel.put k eb rv).keeps fun c ys ec => ?_, q, es, ep, hq, h2, h3, h4, h5⟩
   rw [uN (ne_of ec e (fun z => nomatch z))]
   exact ec
end
section
variable {X : Cx} {pins : List (Addr × Obj)} {σ : St} {H : Hp} {s : Shared} {a : Addr} {kvs : List (Key × V)} {k : Key} {u : Value} {A : Around} {E : Value → Shared → Prop}
end
def NoSl (i : Expr) : Prop := ∀ ov iv, subscripted i false ov iv = operate [ov, iv] (getItem ov iv)
theorem subD_of {prog : Program} {w : World} {A : Around} {E : Value → Shared → Prop} {s : Shared} {env : Env} {value slice : Expr} {pos : Pos} {T id : String} {Q : Value → Shared → Prop}
   (hl : typeLookup (.type T) "__getitem__" = pure (some (.builtin id))) (hs : NoSl slice)
   (h : wpAny (model prog w) A (eval value env) (fun o s₁ => wpAny (model prog w) A (eval slice env) (fun i s₂ => s₂.TypeIs o T ∧ wpAny (model prog w) A (getItem o i) Q E s₂) E s₁) E s) :
   wpAny (model prog w) A (eval (.Subscript value slice pos) env) Q E s := by
 refine Subscript_ (wpAny_mono h (fun o s₁ h₁ => wpAny_mono h₁ (fun i s₂ h₂ => ?_) fun _ _ x => x) fun _ _ x => x)
 obtain ⟨hT, h₂⟩ := h₂
 unfold subscriptTail
 refine wpAny_bind ?_
 rw [getitemInPython_of_ne hT.not_modules]
 refine wpAny_bind (wpAny_specialOf hT hl ?_)
 have fin : wpAny (model prog w) A (subscripted slice false o i) (fun r s₃ => wpAny (model prog w) A (letTemporaryGo value o r >>= fun _ => pure r) Q E s₃) E s₂ := by
   rw [hs o i]
   exact wpAny_operating (wpAny_mono h₂ (fun r s₃ h₃ => wpAny_bind (wpAny_letTemporaryGo (wpAny_pure h₃))) fun _ _ x => x)
 first
   | exact wpAny_pure (wpAny_bind fin)
   | exact wpAny_bind (wpAny_pure (wpAny_bind fin))
   | exact wpAny_bind fin
theorem dict_typeIs {X : Cx} {pins : List (Addr × Obj)} {σ : St} {H : Hp} {s : Shared} {a : Addr} {y : V} {o : Option V} (I : Inv X pins σ H s) (g : DGet H a y o) : s.TypeIs (.ref a) "dict" := by
 rcases g with ⟨kvs, k, e, _, _⟩ | ⟨kvs, k, b, e, _, _, _⟩
 · obtain ⟨_, _, vs, _, dd⟩ := dk_rd I.hok e
   exact dd.typeIs
 · obtain ⟨_, _, xs, _, dd⟩ := dt_rd I.hok e
   exact dd.typeIs
def tDGet (td ty : TE) : TE := fun σ H Q => td σ H fun x H1 => ty σ H1 fun y H2 => ∃ a v, x = .ref a ∧ DGet H2 a y (some v) ∧ Q v H2
def tDIn (ty td : TE) : TE := fun σ H Q => ty σ H fun y H1 => td σ H1 fun x H2 => ∃ a o, x = .ref a ∧ DGet H2 a y o ∧ Q (.bl o.isSome) H2
def tDNotIn (ty td : TE) : TE := fun σ H Q => ty σ H fun y H1 => td σ H1 fun x H2 => ∃ a o, x = .ref a ∧ DGet H2 a y o ∧ Q (.bl (!o.isSome)) H2
def sDPut (td ty tv : TE) : TS := fun D σ H => tv σ H fun v H1 => td σ H1 fun x H2 => ty σ H2 fun y H3 => ∃ a H4, x = .ref a ∧ DPut H3 a y v H4 ∧ D.nx σ H4
section
variable {X : Cx} {o i e value : Expr} {pos pos' tpos : Pos} {td ty tv : TE}
theorem pe_dget (hu : X.A.units + 1 < cLine) (ho : PE X o td) (hi : PE X i ty) (hs : NoSl i) : PE X (.Subscript o i pos) (tDGet td ty) := by
 intro pins s σ H Q I h
 refine subD_of PySem.F.slot_dict_getitem.lookup hs (thn (ho pins s σ H _ I h) fun u s1 ⟨x, H1, I1, rx, q1⟩ => thn (hi pins s1 σ H1 _ I1 q1) fun iv s2 ⟨y, H2, I2, ry, a, v, ex, g, q2⟩ => ?_)
 subst ex
 obtain rfl : u = Value.ref a := rx
 exact ⟨dict_typeIs I2 g, d_getItem hu I2 g ry fun w' s3 I3 rw' => ⟨v, H2, I3, rw', q2⟩⟩
theorem pc_din (hu : X.A.units + 1 < cLine) (hi : PE X i ty) (ho : PE X o td) : PC X .In i o (tDIn ty td) := by
 intro pins s σ H Q I h
 refine thn (hi pins s σ H _ I h) fun iv s1 ⟨y, H1, I1, ry, q1⟩ => thn (ho pins s1 σ H1 _ I1 q1) fun u s2 ⟨x, H2, I2, rx, a, ov, ex, g, q2⟩ => ?_
 subst ex
 obtain rfl : u = Value.ref a := rx
 exact d_in hu I2 g ry fun s3 I3 => ⟨.bl ov.isSome, H2, I3, rfl, q2⟩
theorem pc_dnotin (hu : X.A.units + 1 < cLine) (hi : PE X i ty) (ho : PE X o td) : PC X .NotIn i o (tDNotIn ty td) := by
 intro pins s σ H Q I h
 refine thn (hi pins s σ H _ I h) fun iv s1 ⟨y, H1, I1, ry, q1⟩ => thn (ho pins s1 σ H1 _ I1 q1) fun u s2 ⟨x, H2, I2, rx, a, ov, ex, g, q2⟩ => ?_
 subst ex
 obtain rfl : u = Value.ref a := rx
 exact d_notIn hu I2 g ry fun s3 I3 => ⟨.bl (!ov.isSome), H2, I3, rfl, q2⟩
theorem ps_dput (hu : X.A.units + 1 < cLine) (ho : PE X o td) (hi : PE X i ty) (hv : PE X value tv) (hs : swapsWith value (some (.Subscript o i pos')) pos.line X.env = pure false) :
   PS X (.Assign [.Subscript o i pos'] value pos) (sDPut td ty tv) := by
 intro pins s σ H D I h
 refine wpAny_Assign_Subscript (thn (hv pins s σ H _ I h) fun r s1 ⟨v, H1, I1, rv, q1⟩ => thn (ho pins s1 σ H1 _ I1 q1) fun u s2 ⟨x, H2, I2, rx, q2⟩ => thn (hi pins s2 σ H2 _ I2 q2) fun iv s3 ⟨y, H3, I3, ry, a, H4, ex, g, q3⟩ => ?_) hs
 subst ex
 obtain rfl : u = Value.ref a := rx
 exact d_setItem hu I3 g ry rv fun s4 I4 => ⟨σ, H4, I4, q3⟩
end
theorem dt_empty {P : Program} {w : World} {H : Hp} (h : Heap) (hb : sysModules < h.objs.size) : ObjOk P w H (h.push { cls := .type "dict", data := .dict #[] }) h.objs.size (.dT []) :=
 ⟨Nat.zero_le _, beq_eq_false_iff_ne.mpr (Ne.symm (Nat.ne_of_lt hb)), [], .nil, _, #[], 0, Heap.get?_push_size _ rfl, ⟨rfl, rfl, rfl⟩, rfl, rfl, List.nodup_nil⟩
def tDNewT : TE := fun _ H Q => ∀ p, H p = none → Q (.ref p) (upd H p (.dT []))
section
variable {X : Cx} {pos : Pos}
theorem pe_dnewT : PE X (.Dict [] [] pos) tDNewT := fun pins s σ H Q I h =>
 wpAny_Dict_empty ⟨.ref s.heap.objs.size, _, I.laid (a := s.heap.objs.size) (o := .dT []) (t' := s.toks) (fun _ _ q => Heap.get?_push_of_some _ q) (Nat.le_refl _) (dt_empty s.heap I.big), rfl, h _ (I.hok.fresh (Nat.le_refl _))⟩
end
structure M1 (X : Cx) (o : Expr) (m : Str) (apos : Pos) (e : Expr) (cpos : Pos) : Prop where
 base : attributeBase o m X.env (eval o X.env) = eval o X.env
 few : ((backTo cpos (starEach [e] X.env)).all (fun x => !x.1) && (backToKw cpos (keywordEach [] X.env)).all (fun x => x.1.isSome)
   && decide (([e] : List Expr).length + ([] : List Keyword).length + (if ([] : List Keyword).isEmpty then 0 else 1) < 30)) = true
 line : (apos.endLine == cpos.line) = true
 trees : backTo cpos (starEach [e] X.env) = [(false, eval e X.env)]
structure M2 (X : Cx) (o : Expr) (m : Str) (apos : Pos) (e f : Expr) (cpos : Pos) : Prop where
 base : attributeBase o m X.env (eval o X.env) = eval o X.env
 few : ((backTo cpos (starEach [e, f] X.env)).all (fun x => !x.1) && (backToKw cpos (keywordEach [] X.env)).all (fun x => x.1.isSome)
   && decide (([e, f] : List Expr).length + ([] : List Keyword).length + (if ([] : List Keyword).isEmpty then 0 else 1) < 30)) = true
 line : (apos.endLine == cpos.line) = true
 trees : backTo cpos (starEach [e, f] X.env) = [(false, eval e X.env), (false, eval f X.env)]
def IsD (H : Hp) (a : Addr) : Prop := (∃ kvs, Rd H a (.dK kvs)) ∨ ∃ kvs, Rd H a (.dT kvs)
theorem isD_at {X : Cx} {pins : List (Addr × Obj)} {σ : St} {H : Hp} {s : Shared} {a : Addr} (I : Inv X pins σ H s) (d : IsD H a) :
   s.TypeIs (.ref a) "dict" ∧ (∀ b, Value.ref a = .ref b → ∃ ob, s.heap.get? b = some ob ∧ ob.dict = none) ∧ (a == sysModules) = false := by
 rcases d with ⟨kvs, e⟩ | ⟨kvs, e⟩
 · obtain ⟨_, hd, vs, _, dd⟩ := dk_rd I.hok e
   refine ⟨dd.typeIs, fun b q => ?_, hd⟩
   cases q
   obtain ⟨ob, _, _, h1, h2, _⟩ := dd
   exact ⟨ob, h1, h2.2.1⟩
 · obtain ⟨_, hd, xs, _, dd⟩ := dt_rd I.hok e
   refine ⟨dd.typeIs, fun b q => ?_, hd⟩
   cases q
   obtain ⟨ob, _, _, h1, h2, _⟩ := dd
   exact ⟨ob, h1, h2.2.1⟩
section
variable {X : Cx} {pins : List (Addr × Obj)} {σ : St} {H : Hp} {s : Shared} {a : Addr} {y d : V} {u r : Value} {o : Option V} {A : Around} {E : Value → Shared → Prop}
end
section
variable {X : Cx} {o e f : Expr} {apos cpos : Pos} {td ty tx : TE}
end
section
variable {X : Cx} {pins : List (Addr × Obj)} {σ : St} {H : Hp} {s : Shared} {a : Addr} {kvs : List (Key × V)} {A : Around} {E : Value → Shared → Prop}
end
section
variable {X : Cx} {pins : List (Addr × Obj)} {σ : St} {H : Hp} {s : Shared} {a : Addr} {y : V} {u : Value} {A : Around} {E : Value → Shared → Prop}
end
end L2
namespace Att
open PySem PySem.W PySem.Calls PyProof.Rows
theorem ints_of_wellAll {P : Params} {h : Heap} : ∀ (ns : List Int) (vs : List Value), WellAll P h vs (ns.map WData.int) → IntsAre vs ns := by
 intro ns
 induction ns with
 | nil =>
   intro vs w
   rw [List.map_nil] at w
   cases w
   exact .nil
 | cons n ns ih =>
   intro vs w
   rw [List.map_cons] at w
   cases w with
   | cons a b =>
     cases a
     exact .cons _ _ (ih _ b)
theorem script_of {l : OpenLaw} {n : Nat} (hn : l.most = some n) {P : Params} {h : Heap} {args : List WData} {vals : List Value}
   (hpre : l.row.toRowW.claim.pre args = true) (hwl : WellAll P h vals args) :
   ∃ a vs ns, vals = [Value.ref a] ∧ args = [WData.list (ns.map WData.int)] ∧ h.get? a = some { cls := .type "list", data := .seq vs.toArray } ∧ IntsAre vs ns ∧ ns.length ≤ n := by
 have hsh : WShape.hasAll [] args [.list .int] = true := (pre_splitW hpre).1
 have hc : l.pre.holds [] { args := args } = true := (pre_splitW hpre).2
 obtain ⟨d, r, rfl, h1, h2⟩ := hasAllW_cons hsh
 obtain rfl := hasAllW_nil h2
 obtain ⟨xs, rfl, h3⟩ := hasW_list h1
 obtain ⟨ns, rfl⟩ := items_int h3
 have hlen : ns.length ≤ n := by
   unfold OpenLaw.pre at hc
   have h4 : (WTm.not (.lt (.lit (.int (n : Int))) (.len (.arg 0)))).holds [] { args := [.list (ns.map .int)] } = true := by
     have h4 := (holds_andW hc).1
     rw [hn] at h4
     exact h4
   have h5 := condW_of h4 (w_not (w_lt w_lit (w_len_list (w_arg rfl))))
   rw [List.length_map] at h5
   refine Nat.le_of_not_lt fun q => ?_
   have q' : (n : Int) < ((ns.length : Nat) : Int) := by omega
   first
     | (rw [decide_eq_true q'] at h5; exact absurd h5 (by decide))
     | (simp at h5; omega)
 cases hwl with
 | cons w1 w2 =>
   cases w2
   cases w1 with
   | list ho hall => exact ⟨_, _, ns, rfl, rfl, ho, ints_of_wellAll ns _ hall, hlen⟩
theorem post_true (l : OpenLaw) (args : List WData) : l.row.toRowW.claim.post args (.bool true) args = true :=
 postW_of (r := l.row.toRowW) (X := (true == true))
   (show WShape.has [] (.bool true) .bool = true by first | rfl | decide | simp [WShape.has, WShape.arms, WShape.armsAll])
   (show (WTm.eq .res (.lit (.bool true))).value [] { args := args, res := some (.bool true), after := args } = some (.bool (true == true)) from w_eq_bool (w_res rfl) w_lit) rfl
theorem attach_call {l : OpenLaw} {n : Nat} {q : Program} {loose : List Str} {XP : (Str → Option Value) → Heap → Prop} {YP : World → Heap → Prop} {d : DefRec}
   (hn : l.most = some n) (hdf : d.params.defaults = [])
   (call : ∀ (w : World) (s₀ s₁ : Shared) (mg mb : Str → Option Value) (fa : Addr) (o : Obj) (pm cd doc : Value) (a : Addr) (vs : List Value) (ns : List Int),
     Ground q loose [] XP w s₀ mg mb s₁.heap → YP w s₁.heap →
     s₁.heap.get? fa = some o → o.data = .func (docDef d.name d.params d.body d.scope pm cd doc) → s₁.heap.CodeRec cd d.name → mg d.name = some (.ref fa) →
     s₁.heap.get? a = some { cls := .type "list", data := .seq vs.toArray } → IntsAre vs ns → ns.length ≤ n → s₁.gens = #[] →
     codeAny (model l.prog w) callerA (.call (.ref fa) ⟨[.ref a], []⟩) (fun r s' => r = .ok (.ret (.bool true)) ∧ OldK s₁.heap s'.heap ∧ s'.os = s₁.os ∧ AllBare s'.gens) s₁) :
   WalkO q loose XP YP l.row.toRowW d [] (fun f vs => PySem.call f vs) := by
 intro w s₀ s₁ mg mb G Y fa o pm cd doc dV kV ho hd hcd hD hmg hg args vals as hpre hlay hrd hwl hlo
 obtain rfl : dV = .none := Dflts.none hD hdf
 obtain rfl : kV = .none := Dflts.noKw hD
 obtain ⟨a, vs, ns, rfl, rfl, hobj, hints, hlen⟩ := script_of hn hpre hwl
 refine enter_call (codeAny_mono (call w s₀ s₁ mg mb fa o pm cd doc a vs ns G Y ho (fd_plain hd) hcd hmg hobj hints hlen hg) fun r s' hq => ?_)
 obtain ⟨rfl, h2, h3, h4⟩ := hq
 exact ⟨.inl ⟨.bool true, .bool true, [], rfl, fun _ => rfl, .bool true, post_true l _, fun _ => ⟨List.Pairwise.nil, fun _ hm => (nomatch hm)⟩⟩, h2, h3, h4⟩
section
variable {prog : Program} {w : World} {A : Around} {E : Value → Shared → Prop} {s : Shared} {K : Frag}
end
end Att
namespace L2
open PySem PySem.Spec PyProof.Rows
theorem vals_ints : ∀ {vs : List Value} {ns : List Int}, IntsAre vs ns → Vals (ns.map V.int) vs
 | _, _, .nil => .nil
 | _, _, .cons n t h => .cons ⟨t, rfl⟩ (vals_ints h)
def Only (H : Hp) : Prop := ∀ b, H b = none ∨ ∃ o xs, H b = some (.frz o (.lst xs))
theorem law_call {P : Program} {w : World} {K : PySem.W.Frag} {mg mb : Str → Option Value} {CX : CXT} {k : Nat} {fa a : Addr} {fd : FuncData} {x : Str} {sp : Sp} {s₁ : Shared} {vs : List Value} {ns : List Int}
   (KX : K.In s₁.heap) (hns : s₁.heap.Ns mainGlobals mg) (hb : s₁.heap.Ns builtinsNs mb) (hbb : ∀ x : Str, x ≠ "__name__" → mb x = bootBuiltins x) (hlim : s₁.heap.NoLimit) (hg : s₁.gens = #[])
   (ha : s₁.heap.get? a = some { cls := .type "list", data := .seq vs.toArray }) (hi : IntsAre vs ns) (hl : ns.length ≤ sizeLine) (hr : Room k callerA)
   (F : ∀ base : Heap, K.In base → base.Ns mainGlobals mg → FnOk P w K mg base CX k fa fd [x] sp) (hbind : ∀ (s : Shared) (u : Value), BindsTo s fd ⟨[u], []⟩ [(x, u)])
   (hsp : ∀ H : Hp, Only H → SqL K H a (ns.map V.int) → sp [.ref a] H (fun v _ => v = .bl true) fun _ _ _ => False)
   (hCX : ∀ H e s', CX [] H s₁ (fun _ _ _ => False) e s' → False) :
   codeAny (model P w) callerA (.call (.ref fa) ⟨[.ref a], []⟩) (fun r s' => r = .ok (.ret (.bool true)) ∧ OldK s₁.heap s'.heap ∧ s'.os = s₁.os ∧ AllBare s'.gens) s₁ := by
 have rv := vals_ints hi
 have lenV := hi.length
 have core : ∀ H : Hp, Only H → SqL K H a (ns.map V.int) → HOk P w H s₁.heap → (∀ b, H b ≠ none → b = a) → (H a ≠ none → K.lookup a = none) →
     codeAny (model P w) callerA (.call (.ref fa) ⟨[.ref a], []⟩) (fun r s' => r = .ok (.ret (.bool true)) ∧ OldK s₁.heap s'.heap ∧ s'.os = s₁.os ∧ AllBare s'.gens) s₁ := by
   intro H hO hS hok hA hK
   have base_of : ∀ {b : Addr} {o : Obj}, s₁.heap.get? b = some o → H b = none → (hidT s₁.heap H).get? b = some o := fun e n => hidT_get e n
   have noA : ∀ {b : Addr} {o : Obj} {es : Array DictEntry} {ep : Nat}, s₁.heap.get? b = some o → o.data = .dict es ep → H b = none := fun {b o es ep} e d => by
     cases q : H b with
     | none => rfl
     | some u =>
       have e' : b = a := hA b (by rw [q]; simp)
       subst e'
       rw [ha] at e; cases e
       have d' : Data.seq vs.toArray _ = Data.dict es ep := d
       cases d'
   have nsK : ∀ {b : Addr} {m : Str → Option Value}, s₁.heap.Ns b m → (hidT s₁.heap H).Ns b m := fun {b m} ⟨o, es, ep, e, d, r⟩ => ⟨o, es, ep, base_of e (noA e d), d, r⟩
   have hKb : K.In (hidT s₁.heap H) := fun b o e => base_of (KX b o e) (by
     cases q : H b with
     | none => rfl
     | some u =>
       have e' : b = a := hA b (by rw [q]; simp)
       subst e'
       rw [hK (by rw [q]; simp)] at e; cases e)
   have hM : Mod K mg (hidT s₁.heap H) := ⟨hKb, nsK hns, ⟨mb, nsK hb, hbb⟩, let ⟨mc, h1, h2⟩ := hlim; ⟨mc, nsK h1, h2⟩⟩
   have e0 : Env0 P w K mg (hidT s₁.heap H) callerA [] s₁ H := ⟨rfl, hM, fun b o e => of_hidT e, Nat.le_of_eq (hidT_size _ _), trivial, fun b hb => absurd (show b ∈ ([] : List Addr) from hb) (by simp), hok, .of_eq hg⟩
   refine codeAny_mono ((F _ hKb (nsK hns)).run callerA [] s₁ H ⟨[.ref a], []⟩ [.ref a] [.ref a] _ _ hr e0 (hbind s₁ (.ref a)) (.cons rfl .nil) (hsp H hO hS)) fun r s' h => ?_
   cases r with
   | error e => exact (hCX H e s' h).elim
   | ok fl =>
     cases fl with
     | next => exact False.elim h
     | brk => exact False.elim h
     | cont => exact False.elim h
     | ret u =>
       obtain ⟨v, H', os, bare, un, hok', r', q⟩ := h
       have q' : v = .bl true := q
       subst q'
       obtain rfl : u = Value.bool true := r'
       refine ⟨rfl, OldK.of_keep fun b o e => ?_, os, bare⟩
       cases q : H b with
       | none => exact un.keep b o e q (by intro z; exact absurd (show b ∈ ([] : List Addr) from z) (by simp)) (by simp)
       | some u =>
         rcases hO b with z | ⟨ob, xs, z⟩
         · rw [q] at z; cases z
         · have z2 := un.frzs b ob _ z
           obtain ⟨e1, _⟩ := hok b _ z
           obtain ⟨e2, _⟩ := hok' b _ z2
           rw [e] at e1; cases e1
           exact e2
 cases hk : K.lookup a with
 | some o =>
   have e := KX a o hk
   rw [ha] at e
   cases e
   refine core (fun _ => none) (fun _ => .inl rfl) (.inr ⟨_, vs.toArray, _, hk, rfl, rfl, rfl, by rw [List.size_toArray, lenV]; exact hl, by simpa using rv⟩) (fun b u z => by have z' : (none : Option HO) = some u := z; cases z') (fun b z => absurd rfl z) fun z => absurd rfl z
 | none =>
   refine core (fun b => if b = a then some (.frz { cls := .type "list", data := .seq vs.toArray } (.lst (ns.map V.int))) else none) (fun b => ?_) (.inl (.inr ⟨{ cls := .type "list", data := .seq vs.toArray }, if_pos rfl⟩)) (fun b u z => ?_) (fun b z => ?_) fun _ => hk
   · by_cases hb : b = a
     · exact .inr ⟨_, _, if_pos hb⟩
     · exact .inl (if_neg hb)
   · by_cases hb : b = a
     · have z' := (if_pos hb).symm.trans z
       cases z'
       subst hb
       exact ⟨ha, by rw [List.length_map]; exact hl, vs, _, rv, ha⟩
     · have z' := (if_neg hb).symm.trans z
       cases z'
   · by_cases hb : b = a
     · exact hb
     · exact absurd (if_neg hb) z
end L2
namespace L2
open PySem PySem.Spec PyProof.Rows
theorem walk_of {l : PySem.W.OpenLaw} {n k : Nat} {q : Program} {loose : List Str} {XP : (Str → Option Value) → Heap → Prop} {YP : World → Heap → Prop} {d : DefRec} {K : Params → PySem.W.Frag} {CX : World → CXT} {sp : World → Sp} {x : Str}
   (hn : l.most = some n) (hn2 : n ≤ sizeLine) (hdf : d.params.defaults = []) (hr : Room k callerA)
   (hY : ∀ (w : World) (h : Heap), YP w h → (K w.params).In h)
   (F : ∀ (w : World) (mg : Str → Option Value) (fa : Addr) (h : Heap), (K w.params).In h → h.Ns mainGlobals mg → mg d.name = some (.ref fa) →
     ∃ fd : FuncData, (∀ (s : Shared) (u : Value), BindsTo s fd ⟨[u], []⟩ [(x, u)]) ∧
       ∀ base : Heap, (K w.params).In base → base.Ns mainGlobals mg → FnOk l.prog w (K w.params) mg base (CX w) k fa fd [x] (sp w))
   (hsp : ∀ (w : World) (H : Hp) (a : Addr) (ns : List Int), ns.length ≤ n → Only H → SqL (K w.params) H a (ns.map V.int) → sp w [.ref a] H (fun v _ => v = .bl true) fun _ _ _ => False)
   (hCX : ∀ (w : World) (H : Hp) (s : Shared) (e : Value) (s' : Shared), CX w [] H s (fun _ _ _ => False) e s' → False) :
   PySem.W.WalkO q loose XP YP l.row.toRowW d [] (fun f vs => PySem.call f vs) := by
 refine Att.attach_call hn hdf fun w s₀ s₁ mg mb fa o pm cd doc a vs ns G Y ho hd hcd hmg hobj hints hlen hg => ?_
 have KX := hY w _ Y
 obtain ⟨fd, hb, hF⟩ := F w mg fa _ KX G.T.g hmg
 exact law_call KX G.T.g G.T.b G.T.builtins G.T.nolimit hg hobj hints (Nat.le_trans hlen hn2) hr hF hb (fun H hO hS => hsp w H a ns hlen hO hS) fun H e s' => hCX w H s₁ e s'
end L2
/- THE LAST THEOREM (shape; LID, My.* are yours):
  My.Adr: a structure of the addresses that your layer names (classes, functions); My.Txt K t: a structure (Prop) of the equations over K;
  My.txt_mk : {K} {implicit addresses ..} (e1 : nsIn K mainGlobals "law" = some (some (.ref f))) (e2 : K.lookup f = some ⟨oc, od, .func (fnOf "law" "law" params body scope dV kV doc pm an cdv ct), sl⟩) (e3 : codeIn K cdv "law" = true) .. : ∃ t, My.Txt K t
set_option maxHeartbeats 0 in
theorem PySem.Challenge.cw_LID_holds : PySem.Challenge.rw_LID.Holds := by
 w_on; o_law; k_head; (case hw => w_witness2)
 k_fill
 refine L2.walk_of (l := PySem.Challenge.rw_LID) (n := 63) (k := 40) (x := "script") (CX := fun w => ..) (sp := fun _ => My.sp_law) rfl (by decide) rfl ⟨rfl, by decide, by decide⟩ (fun w h Y => PySem.W.kIn_of Y) ?F ?S ?C
 case F =>
   intro w mg fa h KX G hmg
   have T : ∃ t, My.Txt (L2.KOf KX) t := by
     dsimp only [L2.KOf]                          -- K must stand as «<heap const> w.params» for k_is
     refine' My.txt_mk ?e1 ?e2 ?e3 ..
     (case e1 => PySem.W.k_is)                    -- in the order: a name -> its address -> its object -> its parts
     (case e2 => PySem.W.k_is)
     ..
   obtain ⟨t, T⟩ := T
   have e0 := hmg.symm.trans (PySem.W.mg_of KX G T.law)
   cases e0                                       -- fa is the law's own address
   exact ⟨_, fun s u => .of_eq rfl, fun base kb nb => My.law_fn T kb nb⟩     -- if «.of_eq rfl» comes too early: refine' ⟨_, ?b, fun base kb nb => My.law_fn T kb nb⟩; exact fun s u => .of_eq rfl
 case S => exact fun w H a ns hl hO hS => ..
 case C => exact ..
(the tactic k_is has no namespace: write k_is) -/
namespace L2
open PySem PySem.Spec PyProof.Rows
def inClass (s : Stmt) (j : Nat) : Stmt := match s with
 | .ClassDef _ _ _ body _ _ _ _ _ _ _ => body.getD j (.Pass ⟨0, 0, 0, 0⟩)
 | _ => .Pass ⟨0, 0, 0, 0⟩
def dA (s : Stmt) : Arguments := match s with
 | .FunctionDef _ a _ _ _ _ _ _ _ _ => a
 | _ => { posonlyargs := [], args := [], vararg := none, kwonlyargs := [], kw_defaults := [], kwarg := none, defaults := [] }
def dB (s : Stmt) : List Stmt := match s with
 | .FunctionDef _ _ b _ _ _ _ _ _ _ => b
 | _ => []
def dZ (s : Stmt) : Scope := match s with
 | .FunctionDef _ _ _ _ _ _ sc _ _ _ => sc
 | _ => { kind := .function, names := [], isGenerator := false, isCoroutine := false }
abbrev CX0 : CXT := fun _ _ _ _ _ _ => False
abbrev E0 : XK := fun _ _ _ => False
theorem pass0 {X : Cx} : Passes CX0 X E0 := fun _ _ _ _ _ _ _ h => h.elim
structure Fun (K : PySem.W.Frag) (x qual : Str) (st : Stmt) (f : Addr) (fd : FuncData) : Prop where
 ex : ∃ (oc : Value) (od : Option Addr) (kV doc pm : Value) (an : Option Addr) (cdv ct : Value) (osl : Array (Option Value)),
   fd = PySem.W.fnOf x qual (dA st) (dB st) (dZ st) .none kV doc pm an cdv ct ∧ K.lookup f = some ⟨oc, od, .func fd, osl⟩ ∧ PySem.W.codeIn K cdv qual = true
 kp : PySem.W.keepIn K (.ref f) = true
section
variable {P : Program} {w : World} {K : PySem.W.Frag} {mg : Str → Option Value} {base : Heap}
theorem Fun.ok {x qual : Str} {st : Stmt} {f : Addr} {fd : FuncData} {N ps : List Str} {k : Nat} {sp : Sp} (F : Fun K x qual st f fd) (S : FS N ps (dZ st)) (len : ∀ vs H Q E, sp vs H Q E → vs.length = ps.length)
   (hbody : ∀ (cdv : Value) (A : Around) (outer : List Env) (s : Shared) (H : Hp) (vs : List V) (Q : VK) (E : XK), Room k (A.deeper (envOfC qual (dZ st) s.heap.objs.size f cdv)) → sp vs H Q E →
     ∃ t, PSs (cxOf CX0 P w K mg base N qual (dZ st) f cdv A outer s H E).nox (dB st) t ∧ t { nx := fun _ H' => Q .non H', rt := Q } (start N vs) H) : FnOk P w K mg base CX0 (k + 1) f fd ps sp := by
 obtain ⟨oc, od, kV, doc, pm, an, cdv, ct, osl, rfl, lk, hcd⟩ := F.ex
 refine fn_of lk hcd S len fun A outer s H vs Q E hr hsp => ?_
 obtain ⟨t, h, q⟩ := hbody cdv A outer s H vs Q E hr hsp
 exact ⟨t, h.nox, q⟩
theorem Fun.binds {x qual : Str} {st : Stmt} {f : Addr} {fd : FuncData} {ps : List Str} (F : Fun K x qual st f fd)
   (h : ∀ (kV doc pm : Value) (an : Option Addr) (cdv ct : Value) (us : List Value), us.length = ps.length → bindArgs (PySem.W.fnOf x qual (dA st) (dB st) (dZ st) .none kV doc pm an cdv ct) ⟨us, []⟩ = pure (ps.zip us)) : Binds K fd ps [] := by
 obtain ⟨oc, od, kV, doc, pm, an, cdv, ct, osl, rfl, lk, hcd⟩ := F.ex
 exact .all (h kV doc pm an cdv ct)
theorem fM {x qual : Str} {st : Stmt} {f : Addr} {oc : Value} {od an : Option Addr} {osl : Array (Option Value)} {kV doc pm cdv ct : Value} (l : K.lookup f = some ⟨oc, od, .func (PySem.W.fnOf x qual (dA st) (dB st) (dZ st) .none kV doc pm an cdv ct), osl⟩)
   (c : PySem.W.codeIn K cdv qual = true) (k : PySem.W.keepIn K (.ref f) = true) : Fun K x qual st f (PySem.W.fnOf x qual (dA st) (dB st) (dZ st) .none kV doc pm an cdv ct) := ⟨⟨oc, od, kV, doc, pm, an, cdv, ct, osl, rfl, l, c⟩, k⟩
end
theorem small1000 {n : Nat} (h : n ≤ 1000) : n < sizeLine := Nat.lt_of_le_of_lt h (by decide)
section
variable {X : Cx}
theorem pv (i : Nat) {x : Str} {pos : Pos} (hN : X.N[i]? = some x := by rfl) (hv : Vis X.env.scope x := by first | exact Or.inl rfl | exact Or.inr (Or.inl rfl) | exact Or.inr (Or.inr rfl)) (hd : (x == ("__debug__" : Str)) = false := by decide)
   (hcd : (x == ("__classdict__" : Str)) = false := by decide) : PE X (.Name x pos) (tVar i) := pe_var hN hv hd hcd
end
theorem iteF {A B : Prop} (h : B) : if false = true then A else B := by
 rw [if_neg Bool.false_ne_true]
 exact h
theorem iteT {A B : Prop} (h : A) : if true = true then A else B := by
 rw [if_pos rfl]
 exact h
theorem ite2 {c A B : Prop} [Decidable c] (h1 : c → A) (h2 : ¬ c → B) : if c then A else B := by
 by_cases h : c
 · rw [if_pos h]
   exact h1 h
 · rw [if_neg h]
   exact h2 h
theorem iteNS {c A B : Prop} [Decidable c] (hc : c) (h : B) : if (!decide c) = true then A else B := by
 rw [decide_eq_true hc]
 exact iteF h
def Same (H H' : Hp) : Prop := ∀ b o, H b = some o → H' b = some o
theorem Same.refl (H : Hp) : Same H H := fun _ _ h => h
theorem Same.trans {H H1 H2 : Hp} (a : Same H H1) (b : Same H1 H2) : Same H H2 := fun c o h => b c o (a c o h)
theorem Same.free {H H' : Hp} (e : Same H H') {l : Addr} (h : H' l = Option.none) : H l = Option.none := by
 cases q : H l with
 | none => rfl
 | some o =>
   rw [e l o q] at h
   cases h
theorem Same.seq {K : PySem.W.Frag} {H H' : Hp} {a : Addr} {xs : List V} (e : Same H H') (h : SqL K H a xs) : SqL K H' a xs := by
 rcases h with (h | ⟨o, h⟩) | h
 · exact .inl (.inl (e _ _ h))
 · exact .inl (.inr ⟨o, e _ _ h⟩)
 · exact .inr h
section
variable {κ : Type} [DecidableEq κ]
end
end L2
set_option maxHeartbeats 4000000
namespace L2
open PySem PySem.Spec PyProof.Rows
def cxC (X : Cx) (scope : Scope) (cl : List (Str × Addr)) (C : Addr) (N' : List Str) (s : Shared) (H : Hp) (fp : List Addr) (E : Value → Shared → Prop) : Cx where
 prog := X.prog
 w := X.w
 K := X.K
 mg := X.mg
 base := X.base
 A := X.A
 N := N'
 s₀ := s
 H₀ := H
 env := compEnvC scope cl C X.env
 outer := X.stack
 stack := X.stack
 ex := fp
 fn := fun _ => false
 calm := X.calm
 pn := []
 xe := E
theorem forIn_cells {env : Env} (f : Str × NameKind → List (Str × Addr) → Sem (ForInStep (List (Str × Addr)))) (hf : ∀ n k cs, f (n, k) cs = if (k == NameKind.free) = true then (cellOf env n >>= fun a => pure (ForInStep.yield ((n, a) :: cs))) else pure (ForInStep.yield cs)) :
   ∀ (l : List (Str × NameKind)) (cs : List (Str × Addr)), (∀ n, (n, NameKind.free) ∈ l → ∃ c, env.cells.lookup n = some c) → (∀ n c, cs.lookup n = some c → env.cells.lookup n = some c) →
     ∃ cl, forIn l cs f = (pure cl : Sem _) ∧ (∀ n c, cl.lookup n = some c → env.cells.lookup n = some c) ∧ (∀ n, (n, NameKind.free) ∈ l → ∃ c, cl.lookup n = some c) ∧ (∀ n c, cs.lookup n = some c → ∃ c', cl.lookup n = some c')
 | [], cs, _, hc => ⟨cs, rfl, hc, fun n hn => absurd hn (by simp), fun n c e => ⟨c, e⟩⟩
 | (n, k) :: l, cs, h, hc => by
   have hl : ∀ m, (m, NameKind.free) ∈ l → ∃ c, env.cells.lookup m = some c := fun m hm => h m (List.mem_cons_of_mem _ hm)
   by_cases hk : k = .free
   · subst hk
     obtain ⟨c, ec⟩ := h n List.mem_cons_self
     have hc' : ∀ m d, ((n, c) :: cs).lookup m = some d → env.cells.lookup m = some d := fun m d e => by
       rw [List.lookup_cons] at e
       by_cases q : m == n
       · rw [q] at e
         have := beq_iff_eq.mp q
         subst this
         rw [ec]; exact e
       · rw [Bool.eq_false_iff.mpr q] at e
         exact hc m d e
     obtain ⟨cl, e1, e2, e3, e4⟩ := forIn_cells f hf l ((n, c) :: cs) hl hc'
     refine ⟨cl, ?_, e2, fun m hm => ?_, fun m d e => ?_⟩
     · rw [List.forIn_cons, hf, if_pos (show (NameKind.free == NameKind.free) = true from rfl)]
       have : cellOf env n = pure c := by unfold cellOf; rw [ec]
       rw [this]
       exact e1
     · rcases List.mem_cons.mp hm with z | z
       · cases z
         exact e4 n c (by rw [List.lookup_cons]; simp)
       · exact e3 m z
     · by_cases q : m = n
       · subst q; exact e4 m c (by rw [List.lookup_cons]; simp)
       · exact e4 m d (by rw [List.lookup_cons, beq_eq_false_iff_ne.mpr q]; exact e)
   · obtain ⟨cl, e1, e2, e3, e4⟩ := forIn_cells f hf l cs hl hc
     refine ⟨cl, ?_, e2, fun m hm => ?_, e4⟩
     · rw [List.forIn_cons, hf, if_neg (by simpa using hk)]
       exact e1
     · rcases List.mem_cons.mp hm with z | z
       · cases z; exact absurd rfl hk
       · exact e3 m z
theorem closure_of {env : Env} {scope : Scope} (h : ∀ n, (n, NameKind.free) ∈ scope.names → ∃ c, env.cells.lookup n = some c) :
   ∃ cl, closureFor scope env = pure cl ∧ (∀ n c, cl.lookup n = some c → env.cells.lookup n = some c) ∧ (∀ n, (n, NameKind.free) ∈ scope.names → ∃ c, cl.lookup n = some c) := by
 obtain ⟨cl, e1, e2, e3, _⟩ := forIn_cells (env := env) (fun x __s => match x with
   | (name, kind) => if (kind == NameKind.free) = true then (do let a ← cellOf env name; pure (ForInStep.yield ((name, a) :: __s))) else pure (ForInStep.yield __s)) (fun n k cs => rfl) scope.names [] h (fun n c e => nomatch e)
 refine ⟨cl, ?_, e2, e3⟩
 unfold closureFor
 dsimp only
 rw [e1]
 all_goals rfl
def PIf (X : Cx) (ifs : List Expr) (t : TT) : Prop :=
 ∀ (pins : List (Addr × Obj)) (s : Shared) (σ : St) (H : Hp) (Q : Bool → Hp → Prop), Inv X pins σ H s → t σ H Q →
   wpAny (model X.prog X.w) X.A (forIn ifs true fun c r => if r = true then do let ok ← isTrue c X.env (eval c X.env); pure (ForInStep.yield ok) else pure (ForInStep.yield r)) (TP X pins σ Q) X.xe s
def tYes : TT := fun _ H Q => Q true H
theorem tYes_of {σ : St} {H : Hp} {A B : Hp → Prop} (h : A H) : tYes σ H fun b H3 => if b = true then A H3 else B H3 := by
 show if true = true then A H else B H
 rw [if_pos rfl]
 exact h
theorem pif_nil {X : Cx} : PIf X [] tYes := fun _ _ _ H _ I h => wpAny_tests_nil ⟨H, I, h⟩
theorem pif_one {X : Cx} {c : Expr} {t : TT} (h : PT X c t) : PIf X [c] t := fun pins s σ H Q I hw => wpAny_tests_one (h pins s σ H Q I hw)
theorem compLoop_any {prog : Program} {w : World} {A : Around} {R : Result → Shared → Prop} {s : Shared} {elt target iter : Expr} {ifs : List Expr} {scope : Scope} {pos : Pos} {it acc : Value} {env : Env} (I : Nat → Shared → Prop)
   (turn : ∀ n s, I n s → wpAny (model prog w) A (pyNext it) (fun r s₁ => match r with
     | none => R (.ok .next) s₁
     | some v => wpAny (model prog w) A (letOwnedTupleGo target it v) (fun _ s₁' => wpAny (model prog w) A (assign target env v) (fun _ s₂ =>
         wpAny (model prog w) A (forIn ifs true fun c r => if r = true then do let ok ← isTrue c env (eval c env); pure (ForInStep.yield ok) else pure (ForInStep.yield r)) (fun ok s₃ =>
           if ok = true then wpAny (model prog w) A (eval elt env) (fun x s₄ =>
             wpAny (model prog w) A (call (.builtin "list.append") [acc, x]) (fun _ s₅ => ∃ m, m < n ∧ I m s₅) (notedBy (model prog w) A env fun e s' => R (.error e) s') s₄) (notedBy (model prog w) A env fun e s' => R (.error e) s') s₃
           else ∃ m, m < n ∧ I m s₃) (notedBy (model prog w) A env fun e s' => R (.error e) s') s₂) (notedBy (model prog w) A env fun e s' => R (.error e) s') s₁') (notedBy (model prog w) A env fun e s' => R (.error e) s') s₁) (notedBy (model prog w) A env fun e s' => R (.error e) s') s)
   (n : Nat) (h : I n s) :
   codeAny (model prog w) A (.compLoop (.ListComp elt [⟨target, iter, ifs, 0⟩] scope pos) 0 it acc env) R s := by
 refine codeAny_loop rfl I (fun n s hI => ?_) n h
 show wpAny _ A ((compTurn (.ListComp elt [⟨target, iter, ifs, 0⟩] scope pos) 0 it acc env).onRaise (fun x => do noteFrame x env; theTreesLotGoes x)) _ _ s
 refine wpAny_noted ?_
 rw [compTurn_list]
 refine wpAny_bind (wpAny_standAt (wpAny_bind (wpAny_mono (turn n s hI) (fun r s₁ h₁ => ?_) fun _ _ h' => h')))
 cases r with
 | none => exact wpAny_pure h₁
 | some v =>
   refine wpAny_bind (wpAny_mono h₁ (fun _ s₁' h₁' => ?_) fun _ _ h' => h')
   refine wpAny_bind (wpAny_mono h₁' (fun _ s₂ h₂ => wpAny_bind (wpAny_mono h₂ (fun ok s₃ h₃ => ?_) fun _ _ h' => h')) fun _ _ h' => h')
   cases ok with
   | false => exact wpAny_pure ⟨rfl, h₃⟩
   | true =>
     exact wpAny_bind (wpAny_bind (wpAny_mono h₃ (fun x s₄ h₄ => wpAny_bind (wpAny_mono h₄ (fun _ s₅ h₅ => wpAny_pure (wpAny_pure ⟨rfl, h₅⟩)) fun _ _ h' => h')) fun _ _ h' => h'))
theorem lookup_relabel_free {env : Env} : ∀ {names : List (Str × NameKind)} {x : Str}, names.lookup x = some .free →
   (names.map fun (n, k) => if (k == NameKind.free && env.scope.kind == .function && env.kindOf n == some .cell) then (n, NameKind.cell) else (n, k)).lookup x = some .cell ∨
   (names.map fun (n, k) => if (k == NameKind.free && env.scope.kind == .function && env.kindOf n == some .cell) then (n, NameKind.cell) else (n, k)).lookup x = some .free
 | [], _, h => by simp at h
 | (n, k) :: r, x, h => by
   have ih := @lookup_relabel_free env r x
   show List.lookup x ((if (k == NameKind.free && env.scope.kind == .function && env.kindOf n == some .cell) = true then (n, NameKind.cell) else (n, k)) :: _) = _ ∨ List.lookup x ((if (k == NameKind.free && env.scope.kind == .function && env.kindOf n == some .cell) = true then (n, NameKind.cell) else (n, k)) :: _) = _
   cases hx : x == n with
   | true =>
     simp only [List.lookup_cons, hx] at h
     cases h
     split <;> simp [List.lookup_cons, hx]
   | false =>
     simp only [List.lookup_cons, hx] at h
     by_cases hc : (k == NameKind.free && env.scope.kind == .function && env.kindOf n == some .cell) = true
     · rw [if_pos hc]; simp only [List.lookup_cons, hx]; exact ih h
     · rw [if_neg hc]; simp only [List.lookup_cons, hx]; exact ih h
theorem relabel_cf {env : Env} : ∀ {names : List (Str × NameKind)} {x : Str}, (∀ y ∈ names, y.2 ≠ .cell) →
   ((names.map fun (n, k) => if (k == NameKind.free && env.scope.kind == .function && env.kindOf n == some .cell) then (n, NameKind.cell) else (n, k)).lookup x = some .cell ∨
   (names.map fun (n, k) => if (k == NameKind.free && env.scope.kind == .function && env.kindOf n == some .cell) then (n, NameKind.cell) else (n, k)).lookup x = some .free) → (x, NameKind.free) ∈ names
 | [], _, _, h => by simp at h
 | (n, k) :: r, x, hn, h => by
   have ih := @relabel_cf env r x (fun y hy => hn y (List.mem_cons_of_mem _ hy))
   have h : List.lookup x ((if (k == NameKind.free && env.scope.kind == .function && env.kindOf n == some .cell) = true then (n, NameKind.cell) else (n, k)) :: _) = _ ∨ List.lookup x ((if (k == NameKind.free && env.scope.kind == .function && env.kindOf n == some .cell) = true then (n, NameKind.cell) else (n, k)) :: _) = _ := h
   cases hx : x == n with
   | true =>
     have e := beq_iff_eq.mp hx
     subst e
     have hk : k = .free := by
       by_cases hc : (k == NameKind.free && env.scope.kind == .function && env.kindOf x == some .cell) = true
       · simp only [Bool.and_eq_true, beq_iff_eq] at hc
         exact hc.1.1
       · rw [if_neg hc] at h
         simp only [List.lookup_cons, hx] at h
         rcases h with h | h
         · exact absurd (Option.some.inj h) (hn (x, k) List.mem_cons_self)
         · exact Option.some.inj h
     subst hk
     exact List.mem_cons_self
   | false =>
     refine List.mem_cons_of_mem _ (ih ?_)
     by_cases hc : (k == NameKind.free && env.scope.kind == .function && env.kindOf n == some .cell) = true
     · rw [if_pos hc] at h; simp only [List.lookup_cons, hx] at h; exact h
     · rw [if_neg hc] at h; simp only [List.lookup_cons, hx] at h; exact h
def capN (N : List Str) (js : List Nat) : List Str := js.map fun j => N.getD j Str.empty
def capSt (σ : St) (js : List Nat) : St := js.map fun j => (σ[j]?).getD none
def capOk (N : List Str) (osc sc : Scope) (js : List Nat) : Bool :=
 js.all fun j => decide (j < N.length) && (osc.names.lookup (N.getD j Str.empty) == some .cell || osc.names.lookup (N.getD j Str.empty) == some .free) && sc.names.lookup (N.getD j Str.empty) == some .free
def scOk (osc sc : Scope) (x : Str) : Bool :=
 sc.kind == .function && sc.names.all (fun y => y.2 != .cell) && sc.names.all (fun y => y.2 != .local || sc.names.lookup y.1 == some .local) && sc.names.lookup x == some .local &&
   sc.names.all (fun y => y.2 != .free || (osc.names.lookup y.1 == some .cell || osc.names.lookup y.1 == some .free))
def LcLoop (J : It) (cap : St) (tt : TT) (te : TE) (H : Hp) (P : List V → Hp → Prop) : Prop :=
 ∃ W : Nat → Nat → List V → Hp → Prop, (∃ m, W 0 m [] H) ∧ ∀ i m ys H, W i m ys H →
   (J.stop i H ∧ ys.length ≤ sizeLine ∧ P ys H) ∨ (J.go i H ∧ ys.length < sizeLine ∧ ∃ Nx : List V → Hp → Prop, (∀ ys' H', Nx ys' H' → ∃ m', m' < m ∧ W (i + 1) m' ys' H') ∧
     ∀ x H', J.yld i H x H' → tt (some x :: cap) H' fun b H3 => if b = true then te (some x :: cap) H3 fun v H4 => Nx (ys ++ [v]) H4 else Nx ys H3)
theorem Un.track {fs ex : List Addr} {H H1 : Hp} {h h1 : Heap} {D : Addr} {o : HO} (u : Un fs ex H H1 h h1) (hp : h.objs.size ≤ D) (hn : H1 D = none) : Un fs ex H (upd H1 D o) h h1 where
 keep := u.keep
 slot := u.slot
 free := fun b ob q n hx => by rw [uN (Nat.ne_of_lt (Nat.lt_of_lt_of_le (Heap.lt_size q) hp))]; exact u.free b ob q n hx
 there := u.there
 tups := fun b xs q => by have z := u.tups b xs q; rw [uN (nN z hn)]; exact z
 frzs := fun b ob xs q => by have z := u.frzs b ob xs q; rw [uN (nN z hn)]; exact z
 tbls := fun b ps q => by obtain ⟨more, z⟩ := u.tbls b ps q; exact ⟨more, by rw [uN (nN z hn)]; exact z⟩
theorem HOk.track {P : Program} {w : World} {H : Hp} {h : Heap} {D : Addr} {o : HO} (x : HOk P w H h) (hn : H D = none) (new : ObjOk P w (upd H D o) h D o) : HOk P w (upd H D o) h := fun b u e => by
 by_cases hb : b = D
 · subst hb; rw [uS] at e; cases e; exact new
 · rw [uN hb] at e
   exact (x b u e).stay (fun c v _ q => q) (fun c q => by rw [uN (nN q hn)]; exact q) fun c xs q => by rw [uN (nN q hn)]; exact q
section
variable {X : Cx} {x : Str} {px : Pos} {iter elt : Expr} {ifs : List Expr} {scope : Scope} {pos : Pos} {js : List Nat} {N : List Str} {osc : Scope} {tt : TT} {te : TE} {cl : List (Str × Addr)}
theorem comp_core {RR : Value → Addr → Result → Shared → Prop} {E : Value → Shared → Prop} {pins : List (Addr × Obj)} {σ : St} {H2 : Hp} {s2 : Shared} {it : Addr} {fp : List Addr} {tn : Nat → Heap → Prop} {J : It} {P : List V → Hp → Prop}
   (hN : X.N = N) (hsc : X.env.scope = osc) (hcap : capOk N osc scope js = true) (hs1 : scOk osc scope x = true) (hnd : (x :: capN N js).Nodup) (hc : X.calm = true)
   (hin : ∀ C s H fp E, PIf (cxC X scope cl C (x :: capN N js) s H fp E) ifs tt ∧ PE (cxC X scope cl C (x :: capN N js) s H fp E) elt te)
   (I2 : Inv X pins σ H2 s2) (T : Turn X.prog X.w X.K (.Name x px) J fp it tn) (st : tn 0 s2.heap) (f2 : ∀ b ∈ fp, FpOk X pins H2 b)
   (cl1 : ∀ n c, cl.lookup n = some c → X.env.cells.lookup n = some c) (cl2 : ∀ n, (n, NameKind.free) ∈ scope.names → ∃ c, cl.lookup n = some c)
   (h : LcLoop J (capSt σ js) tt te H2 P)
   (hRR : ∀ D C ys H' s', P ys H' → H' D = none → Inv X pins σ (upd H' D (.lst ys)) s' → (∃ m, s'.heap.Ns C m) → C ≠ X.env.locals → X.s₀.heap.objs.size ≤ C → (∀ y c, X.env.cells.lookup y = some c → c ≠ C) → (∀ p ∈ X.pn ++ pins, p.1 ≠ C) →
     (upd H' D (.lst ys)) C = none → RR (.ref D) C (.ok .next) s') :
   wpAny (model X.prog X.w) X.A (newList []) (fun acc s₃ => wpAny (model X.prog X.w) X.A (newFunctionEnv scope X.env.globals cl [] X.env.qual none .none (some X.env)) (fun cenv s₄ =>
     codeAny (model X.prog X.w) X.A (.compStart (.ListComp elt [⟨.Name x px, iter, ifs, 0⟩] scope pos) 0 (.ref it) acc { cenv with scope := relabel scope X.env }) (RR acc cenv.locals) s₄) E s₃) E s2 := by
 unfold scOk at hs1
 simp only [Bool.and_eq_true, beq_iff_eq, List.all_eq_true] at hs1
 obtain ⟨⟨⟨⟨hkind, hcell0⟩, hnames0⟩, hxl⟩, hfr0⟩ := hs1
 have hcell : ∀ y ∈ scope.names, y.2 ≠ .cell := fun y hy e => by
   have := hcell0 y hy
   rw [e] at this
   simp at this
 refine wpAny_newObj_type (wpAny_newFunctionEnv hcell (by intro y hy; simp at hy) (fun h₁ hns₁ hsb₁ => ?_) hkind)
 dsimp only at hns₁ hsb₁ ⊢
 generalize hHp : s2.heap.push { cls := .type "list", dict := none, data := .seq ([] : List Value).toArray } = Hh at hns₁ hsb₁ ⊢
 have hC : Hh.objs.size = s2.heap.objs.size + 1 := by rw [← hHp, Heap.size_push]
 generalize hD : s2.heap.objs.size = D at hC ⊢
 generalize hCC : Hh.objs.size = C at hC hns₁ hsb₁ ⊢
 have hDC : D ≠ C := by omega
 have below : ∀ b o, s2.heap.get? b = some o → b < D := fun b o e => by rw [← hD]; exact Heap.lt_size e
 have old : ∀ b o, s2.heap.get? b = some o → h₁.get? b = some o := fun b o e =>
   hsb₁.extBut b o (Nat.ne_of_lt (by rw [hC]; exact Nat.lt_succ_of_lt (below b o e))) (Heap.get?_push_of_some _ (by rw [← hHp]; exact Heap.get?_push_of_some _ e))
 have hacc : h₁.get? D = some { cls := .type "list", data := .seq ([] : List Value).toArray } :=
   hsb₁.extBut D _ hDC (Heap.get?_push_of_some _ (by rw [← hHp, ← hD]; exact Heap.get?_push_size _ rfl))
 have fpD : ∀ b ∈ fp, b < D := fun b hb => by
   obtain ⟨o, e, _⟩ := T.obj _ _ st b hb
   exact below b o e
 have ltC : ∀ b : Addr, b < D → b ≠ C := fun b hb => Nat.ne_of_lt (by rw [hC]; exact Nat.lt_succ_of_lt hb)
 have hLt : X.env.locals < D := by rw [← hD]; exact I2.lt
 have cellLt : ∀ y c, X.env.cells.lookup y = some c → c < D := fun y c e => by
   obtain ⟨v, q⟩ := I2.cell y c e
   rw [← hD]; exact q.lt
 have frLt : ∀ b, b ∈ frs X.stack → b < D := fun b hb => by
   obtain ⟨_, o, ho, _⟩ := I2.stack.mem hb
   exact below b o ho
 let E' : Value → Shared → Prop := notedBy (model X.prog X.w) X.A (compEnvC scope cl C X.env) (fun e s' => RR (.ref D) C (.error e) s')
 let X' : Cx := cxC X scope cl C (x :: capN N js) s2 H2 fp E'
 have hok : X'.Ok := {
     mod := I2.ok.mod
     kind := hkind
     glob := I2.ok.glob
     blt := I2.ok.blt
     above := by show s2.heap.objs.size ≤ C; omega
     inj := fun a b c e1 e2 => I2.ok.inj a b c (cl1 _ _ e1) (cl1 _ _ e2)
     has := fun y hy => cl2 y (relabel_cf hcell hy)
     cab := fun _ _ e => nomatch e
     hd := I2.ok.hd
     frames := I2.ok.frames
     stk := .inl rfl
     exf := fun b hb => ⟨ltC b (fpD b hb), fun y c e => (f2 b hb).2.2.2.2.1 y c (cl1 _ _ e)⟩
     bs := I2.bs
     bsz := Nat.le_trans I2.ok.bsz I2.sz
     noex := fun b o e hb => by
       rcases (f2 b hb).2.2.2.1 with z | z
       · exact I2.ok.noex b o e z
       · have := Nat.lt_of_lt_of_le (Heap.lt_size e) I2.ok.bsz
         omega
     exfs := fun b hb z => by
       rcases List.mem_cons.mp (I2.stkSub b z) with e | e
       · exact (f2 b hb).2.1 e
       · exact (f2 b hb).2.2.1 e
     funs := I2.stack
     frf := I2.stkFree }
 have hl0 : (none :: capSt σ js : St).length = X'.N.length := by
   show _ = (x :: capN N js).length
   simp [capSt, capN]
 have nC2 : H2 C = none := I2.hok.fresh (by omega)
 have nD2 : H2 D = none := I2.hok.fresh (by omega)
 have I0 : Inv X' [] (none :: capSt σ js) H2 { s2 with heap := h₁, toks := s2.toks + ([] : List (Str × Value)).length } := by
   refine ⟨hok, rfl, I2.bare, Un.kept old, ⟨_, hns₁, fun i y v h1 h2 h3 => ?_⟩, fun y c e => ?_, nC2, fun y c e => I2.freeC y c (cl1 y c e), fun p hp => absurd (show p ∈ ([] : List (Addr × Obj)) from hp) (by simp), I2.hok.kept old, hl0⟩
   · cases i with
     | zero => simp at h2
     | succ i =>
       have h1' : (capN N js)[i]? = some y := by
         have z : (x :: capN N js)[i + 1]? = some y := h1
         simpa using z
       have h2' : (capSt σ js)[i]? = some (some v) := by simpa using h2
       unfold capN at h1'
       unfold capSt at h2'
       rw [List.getElem?_map] at h1' h2'
       cases ej : js[i]? with
       | none => rw [ej] at h1'; cases h1'
       | some j =>
         rw [ej] at h1' h2'
         have e1 : N.getD j Str.empty = y := Option.some.inj h1'
         have e2 : (σ[j]?).getD none = some v := Option.some.inj h2'
         have hσ : σ[j]? = some (some v) := by
           cases q : σ[j]? with
           | none => rw [q] at e2; cases e2
           | some o => rw [q] at e2; rw [show o = some v from e2]
         have hcj := (List.all_eq_true.mp hcap) j (List.mem_of_getElem? ej)
         simp only [Bool.and_eq_true, Bool.or_eq_true, beq_iff_eq, decide_eq_true_eq] at hcj
         obtain ⟨⟨hjl, hok1⟩, hok2⟩ := hcj
         rw [e1] at hok1 hok2
         have hNj : X.N[j]? = some y := by
           rw [hN, ← e1, List.getD_eq_getElem?_getD]
           simp [hjl]
         obtain ⟨m, hm, hl⟩ := I2.loc
         have hvis : Vis X.env.scope y := by
           rw [hsc]
           rcases hok1 with z | z
           · exact .inr (.inl z)
           · exact .inr (.inr z)
         obtain ⟨u, ru, look⟩ := hl j y v hNj hσ hvis
         refine ⟨u, ru, .inr ⟨lookup_relabel_free hok2, ?_⟩⟩
         rcases look with ⟨lk, _⟩ | ⟨_, c, ec, hcl⟩
         · have lk' : X.env.scope.names.lookup y = some .local := lk
           rw [hsc] at lk'
           rcases hok1 with z | z <;> (rw [z] at lk'; cases lk')
         · obtain ⟨c', ec'⟩ := cl2 y (PySem.mem_of_lookup hok2)
           have := cl1 y c' ec'
           rw [ec] at this
           cases this
           exact ⟨c, ec', let ⟨o, ho, hd⟩ := hcl; ⟨o, old c o ho, hd⟩⟩
   · obtain ⟨v, o, ho, hd⟩ := I2.cell y c (cl1 y c e)
     exact ⟨v, o, old c o ho, hd⟩
 have DfsX : D ∉ X'.fs := fun z => absurd (frLt D z) (Nat.lt_irrefl _)
 have Dfp : D ∉ fp := fun z => absurd (fpD D z) (Nat.lt_irrefl _)
 have Dcell : ∀ y c, X'.env.cells.lookup y = some c → c ≠ D := fun y c e => Nat.ne_of_lt (cellLt y c (cl1 y c e))
 have D0 : X'.s₀.heap.objs.size ≤ D := by show s2.heap.objs.size ≤ D; omega
 have fpOk : ∀ {H : Hp} {pl : List (Addr × Obj)}, (∀ b ∈ fp, H b = none) → (∀ p ∈ pl, p.1 ∉ fp) → ∀ b ∈ fp, FpOk X' pl H b := fun {H pl} hn hp b hb => by
   refine ⟨hn b hb, ltC b (fpD b hb), fun z => ?_, .inl hb, fun y c e => (f2 b hb).2.2.2.2.1 y c (cl1 y c e), fun p q => ?_⟩
   · rcases List.mem_cons.mp (I2.stkSub b z) with e | e
     · exact (f2 b hb).2.1 e
     · exact (f2 b hb).2.2.1 e
   · intro e
     rcases List.mem_append.mp q with q | q
     · exact absurd (show p ∈ ([] : List (Addr × Obj)) from q) (by simp)
     · exact hp p q (by rw [e]; exact hb)
 have hif : PIf X' ifs tt := (hin C s2 H2 fp E').1
 have helt : PE X' elt te := (hin C s2 H2 fp E').2
 obtain ⟨W, ⟨m0, w0⟩, turn⟩ := h
 have loop : ∀ s₃ : Shared, s₃ = { s2 with heap := h₁, toks := s2.toks + ([] : List (Str × Value)).length } →
     codeAny (model X.prog X.w) X.A (.compLoop (.ListComp elt [⟨.Name x px, iter, ifs, 0⟩] scope pos) 0 (.ref it) (.ref D) (compEnvC scope cl C X.env)) (RR (.ref D) C) s₃ := by
   rintro s₃ rfl
   refine compLoop_any (fun n s' => ∃ i ys its nn H', Inv X' [] (none :: capSt σ js) H' s' ∧ tn i s'.heap ∧ (∀ b ∈ fp, H' b = none) ∧ s'.heap.get? D = some { cls := .type "list", data := .seq (its : List Value).toArray nn } ∧ H' D = none ∧ Vals ys its ∧ W i n ys H') ?_ m0
     ⟨0, [], [], 0, H2, I0, T.keep _ _ _ st fun b _ o e => old b o e, fun b hb => (f2 b hb).1, hacc, nD2, .nil, w0⟩
   rintro n s3 ⟨i, ys, its, nn, H3, I3, st3, fr3, hD3, nD3, rv, w3⟩
   have hlen : ys.length = its.length := rv.length
   let ob : Obj := { cls := .type "list", data := .seq its.toArray nn }
   have nocell : ∀ v, ob.data ≠ .cell v := fun v z => nomatch z
   have I3p : Inv X' [(D, ob)] (none :: capSt σ js) H3 s3 := I3.pins_of fun p hp => by
     have e : p = (D, ob) := by simpa using hp
     subst e
     exact ⟨hD3, nD3, hDC, DfsX, nocell⟩
   have pfp : ∀ p ∈ [(D, ob)], p.1 ∉ fp := fun p hp => by
     have e : p = (D, ob) := by simpa using hp
     subst e
     exact Dfp
   rcases turn i n ys H3 w3 with ⟨stop, hz, q⟩ | ⟨go, hz, Nx, hNx, step⟩
   · refine wpAny_mono (T.done X' rfl rfl rfl hc i [(D, ob)] s3 _ H3 E' I3p (fpOk fr3 pfp) st3 stop) (fun r s4 ⟨hr, I4⟩ => ?_) fun _ _ e => e
     subst hr
     have hD4 : s4.heap.get? D = some ob := (I4.pin (D, ob) (by simp)).1
     have un : Un (frs X.stack) fp H2 H3 s2.heap s4.heap := I4.base
     obtain ⟨m, hm, _⟩ := I4.loc
     have nC3 : H3 C = none := I4.free
     refine hRR D C ys H3 s4 q nD3 ?_ ⟨m, hm⟩ (Ne.symm (ltC _ hLt)) (by have := I2.sz; omega) (fun y c e => ltC c (cellLt y c e)) (fun p hp => ?_) (by rw [uN hDC.symm]; exact nC3)
     · refine I2.call' I4.os (un.track (by omega) nD3) (I4.hok.track nD3 ⟨hz, its, nn, rv, hD4⟩) I4.bare fun b hb => ?_
       obtain ⟨_, a2, _, a4, a5, a6⟩ := f2 b hb
       exact ⟨a4, a2, a5, a6⟩
     · exact ltC _ (below _ _ (I2.pin p hp).1)
   · refine wpAny_mono (T.item X' rfl rfl rfl hc i [(D, ob)] s3 _ H3 E' I3p (fpOk fr3 pfp) st3 go) (fun r s4 ⟨u, hr, h4⟩ => ?_) fun _ _ e => e
     subst hr
     refine wpAny_mono h4 (fun _ s5 ⟨xv, H5, I5, r5, y5, st5, fr5⟩ => ?_) fun _ _ e => e
     have I5' := I5.pinned (fpOk fr5 pfp) (T.obj _ _ st5)
     refine wpAny_assign_Name (store_ok (X := X') (i := 0) (x := x) I5' hnd rfl (.inl (lookup_relabel_local hxl)) r5 (fun s6 I6 => ?_) (.inr (lookup_relabel_local hxl)))
     have next : ∀ {s7 : Shared} {H7 : Hp}, Inv X' ([(D, ob)] ++ pinsAt fp s5.heap) (some xv :: capSt σ js) H7 s7 →
         Inv X' [] (none :: capSt σ js) H7 s7 ∧ tn (i + 1) s7.heap ∧ (∀ b ∈ fp, H7 b = none) ∧ s7.heap.get? D = some ob ∧ H7 D = none := fun {s7 H7} I7 => by
       have pD := I7.pin (D, ob) (List.mem_append_right _ (List.mem_append_left _ (by simp)))
       refine ⟨(I7.weak (σ' := none :: capSt σ js) (by simp) fun j v e => ?_).pins_of (fun p hp => nomatch hp), T.keep _ _ _ st5 fun b hb o e => (I7.pin (b, o) (List.mem_append_right _ (List.mem_append_right _ (mem_pinsAt hb e)))).1, fun b hb => ?_, pD.1, pD.2.1⟩
       · cases j with
         | zero => simp at e
         | succ j => simpa using e
       · obtain ⟨o, e, d⟩ := T.obj _ _ st5 b hb
         exact (I7.pin (b, o) (List.mem_append_right _ (List.mem_append_right _ (mem_pinsAt hb e)))).2.1
     refine wpAny_mono (hif _ s6 _ H5 _ I6 (step xv H5 y5)) (fun b s7 ⟨H7, I7, q7⟩ => ?_) fun _ _ e => e
     cases b with
     | false =>
       rw [if_neg Bool.false_ne_true] at q7 ⊢
       obtain ⟨m', hm, w7⟩ := hNx ys H7 q7
       obtain ⟨a1, a2, a3, a4, a5⟩ := next I7
       exact ⟨m', hm, i + 1, ys, its, nn, H7, a1, a2, a3, a4, a5, rv, w7⟩
     | true =>
       rw [if_pos rfl] at q7 ⊢
       refine wpAny_mono (helt _ s7 _ H7 _ I7 q7) (fun uv s8 ⟨v, H8, I8, r8, q8⟩ => ?_) fun _ _ e => e
       obtain ⟨m', hm, w8⟩ := hNx _ H8 q8
       obtain ⟨a1, a2, a3, a4, a5⟩ := next I8
       refine call_meets F.slot_list_append ⟨_, a4, rfl⟩ F.entry_list_append (F.args_list_append_2 _ _) (PySem.list_append D its.toArray nn uv (by rw [List.size_toArray]; omega)) ⟨a4, ?_⟩
       have q := PySem.IsL.update a4 (·.push uv)
       have e2 : its.toArray.push uv = (its ++ [uv]).toArray := by simp
       rw [e2] at q
       have kk : ∀ b o, b ≠ D → s8.heap.get? b = some o → (s8.heap.update D (Obj.mapSeq (·.push uv))).get? b = some o := fun b o hb e => (Heap.get?_update_other s8.heap _ (Ne.symm hb)).trans e
       refine ⟨m', hm, i + 1, ys ++ [v], its ++ [uv], _, H8, a1.turned (t' := s8.toks) kk a5 hDC (.inr D0) Dcell (fun p hp => ?_), T.keep _ _ _ a2 fun b hb o e => kk b o (fun z => Dfp (z ▸ hb)) e, a3, q, a5, rv.append (.cons r8 .nil), w8⟩
       · exact absurd (show p ∈ ([] : List (Addr × Obj)) from hp) (by simp)
 exact codeAny_compStart_list (loop _ rfl) (T.self X.A 0 _ _ _ (T.keep _ _ _ st fun b _ o e => old b o e) (loop _ rfl))
def tLC (wi : TI) (js : List Nat) (tt : TT) (te : TE) : TE := fun σ H Q => wi σ H fun J H1 => LcLoop J (capSt σ js) tt te H1 fun ys H2 => ∀ D, H2 D = none → Q (.ref D) (upd H2 D (.lst ys))
theorem frees_of (hs1 : scOk osc scope x = true) (hsc : X.env.scope = osc) {pins : List (Addr × Obj)} {σ : St} {H : Hp} {s : Shared} (I : Inv X pins σ H s) : ∀ n, (n, NameKind.free) ∈ scope.names → ∃ c, X.env.cells.lookup n = some c := fun n hn => by
 unfold scOk at hs1
 simp only [Bool.and_eq_true, beq_iff_eq, List.all_eq_true] at hs1
 have h := hs1.2 _ hn
 simp only [bne_self_eq_false, Bool.false_or, Bool.or_eq_true, beq_iff_eq] at h
 refine I.ok.has n ?_
 show X.env.scope.names.lookup n = _ ∨ X.env.scope.names.lookup n = _
 rw [hsc]; exact h
theorem scOk.kind (hs1 : scOk osc scope x = true) : scope.kind = .function := by
 unfold scOk at hs1
 simp only [Bool.and_eq_true, beq_iff_eq, List.all_eq_true] at hs1
 exact hs1.1.1.1.1
theorem scOk.names (hs1 : scOk osc scope x = true) : ∀ y ∈ scope.names, y.2 = .local → scope.names.lookup y.1 = some .local := fun y hy e => by
 unfold scOk at hs1
 simp only [Bool.and_eq_true, beq_iff_eq, List.all_eq_true] at hs1
 have := hs1.1.1.2 y hy
 rw [e] at this
 simpa using this
theorem pe_lc {wi : TI} {ps : List Str} (_S : FS N ps osc) (js : List Nat) (hi : PI X (.Name x px) iter wi)
   (hin : ∀ cl C s H fp E, PIf (cxC X scope cl C (x :: capN N js) s H fp E) ifs tt ∧ PE (cxC X scope cl C (x :: capN N js) s H fp E) elt te)
   (hN : X.N = N := by rfl) (hsc : X.env.scope = osc := by rfl) (hcap : capOk N osc scope js = true := by decide +kernel) (hs1 : scOk osc scope x = true := by decide +kernel) (hnd : (x :: capN N js).Nodup := by decide +kernel) (hc : X.calm = true := by rfl)
   (hs : ∀ v, foldedSetIterable iter X.env v = pure v := by intro _; rfl) :
   PE X (.ListComp elt [⟨.Name x px, iter, ifs, 0⟩] scope pos) (tLC wi js tt te) := by
 intro pins s σ H Q I h
 obtain ⟨cl, hcl, cl1, cl2⟩ := closure_of (frees_of hs1 hsc I)
 rw [eval_ListComp]
 refine wpAny_comprehension_free (use := none) rfl hs hcl (scOk.kind hs1) (scOk.names hs1) (thn (hi pins s σ H _ I h) fun v s1 h1 => thn h1 fun itv s2 h2 => ?_)
 obtain ⟨it, fp, tn, J, H2, e, I2, T, st2, f2, lp⟩ := h2
 subst e
 refine comp_core (RR := fun acc C => compPost (model X.prog X.w) X.A X.xe none (EP X pins σ Q) acc C) hN hsc hcap hs1 hnd hc (hin cl) I2 T st2 f2 cl1 cl2 lp ?_
 intro D C ys H' s' q nD I' hm hL h0 hce hpi hfree
 refine ⟨hm.choose, hm.choose_spec, fun h' hs' => ⟨.ref D, _, I'.turned (t' := s'.toks) (fun b o hb e => hs'.extBut b o hb e) hfree hL (.inr h0) hce hpi, rfl, q D nD⟩⟩
end
end L2
namespace L2
open PySem PySem.Spec PyProof.Rows
section
variable {X : Cx}
inductive ClV : V → Value → Prop where
 | ty (n : String) : ClV (.ty n) (.type n)
 | ref (a : Addr) : ClV (.ref a) (.ref a)
theorem ClV.rel {c : V} {cv u : Value} (h : ClV c cv) (r : RelV c u) : u = cv := by
 cases h with
 | ty n => exact r
 | ref a => exact r
theorem call_isinst : CallR X (.builtin "isinstance") (fun xs H Q => ∃ x c t cv b, xs = [x, c] ∧ ClV c cv ∧ TyOf X.K H x t ∧ PySem.W.kitOne X.K t cv = some b ∧ Q (.bl b) H) := by
 intro pins s σ H xs us Q I r h
 obtain ⟨x, c, t, cv, b, rfl, hc, ht, he, q⟩ := h
 cases r with
 | cons r1 r' =>
   cases r' with
   | cons r2 r'' =>
     cases r''
     obtain rfl := hc.rel r2
     exact isinst_ok I r1 ht he fun tk => ⟨.bl b, H, I.tok tk, rfl, q⟩
theorem isinst_tup {pins : List (Addr × Obj)} {σ : St} {H : Hp} {s : Shared} {A : Around} {E : Value → Shared → Prop} {Q : Value → Shared → Prop} {x : V} {u t : Value} {tp : Addr} {cs : List V} {cvs : List Value} {b : Bool}
   (I : Inv X pins σ H s) (rx : RelV x u) (ty : TyOf X.K H x t) (ht : H tp = some (.tup cs)) (hcs : Paired ClV cs cvs) (e : PySem.W.kitAny X.K t cvs = some b) (h : ∀ tk, Q (.bool b) { s with toks := tk }) :
   wpAny (model X.prog X.w) A (call (.builtin "isinstance") [u, .ref tp]) Q E s := by
 obtain ⟨_, its, rv, p⟩ := (show ObjOk X.prog X.w H s.heap tp (.tup cs) from I.hok tp _ ht)
 have eits : its = cvs := by
   have : ∀ {cs : List V} {its cvs : List Value}, Vals cs its → Paired ClV cs cvs → its = cvs := by
     intro cs
     induction cs with
     | nil => intro its cvs a b; cases a; cases b; rfl
     | cons c cs ih =>
       intro its cvs a b
       cases a with
       | cons a1 a2 =>
         cases b with
         | cons b1 b2 => rw [b1.rel a1, ih a2 b2]
   exact this rv hcs
 subst eits
 obtain ⟨⟨oc, od, odt, osl⟩, h1, h2, n, h3⟩ := p
 cases h2
 cases h3
 cases ty with
 | non => cases (show u = Value.none from rx); exact PySem.W.kia_tup PySem.W.kitx_none I.kIn True.intro h1 e (fun z => nomatch z) h
 | bl y => cases (show u = Value.bool y from rx); exact PySem.W.kia_tup PySem.W.kitx_bool I.kIn True.intro h1 e (fun z => nomatch z) h
 | int i => obtain ⟨t, q⟩ := (show ∃ t, u = Value.int i t from rx); cases q; exact PySem.W.kia_tup PySem.W.kitx_int I.kIn True.intro h1 e (fun z => nomatch z) h
 | str y => obtain ⟨t, q⟩ := (show ∃ t, u = Value.str y t from rx); cases q; exact PySem.W.kia_tup PySem.W.kitx_str I.kIn True.intro h1 e (fun z => nomatch z) h
 | flt y => obtain ⟨t, q⟩ := (show ∃ t, u = Value.float y t from rx); cases q; exact PySem.W.kia_tup PySem.W.kitx_float I.kIn True.intro h1 e (fun z => nomatch z) h
 | @lst a xs ea =>
   cases (show u = Value.ref a from rx)
   obtain ⟨_, _, n, _, h1'⟩ := (show ObjOk X.prog X.w H s.heap a (.lst xs) from I.hok a _ ea)
   exact PySem.W.kia_tup PySem.W.kitx_list I.kIn ⟨_, h1', rfl⟩ h1 e (fun z => nomatch z) h
 | @frz a ob xs ea =>
   cases (show u = Value.ref a from rx)
   obtain ⟨_, _, _, n, _, h1'⟩ := (show ObjOk X.prog X.w H s.heap a (.frz ob (.lst xs)) from I.hok a _ ea)
   exact PySem.W.kia_tup PySem.W.kitx_list I.kIn ⟨_, h1', rfl⟩ h1 e (fun z => nomatch z) h
 | @tup a xs ea =>
   cases (show u = Value.ref a from rx)
   obtain ⟨_, _, _, p⟩ := (show ObjOk X.prog X.w H s.heap a (.tup xs) from I.hok a _ ea)
   obtain ⟨o, h1', h2, _⟩ := p
   exact PySem.W.kia_tup PySem.W.kitx_tuple I.kIn ⟨o, h1', h2⟩ h1 e (fun z => nomatch z) h
 | @dK a kvs ea =>
   cases (show u = Value.ref a from rx)
   obtain ⟨_, _, vs, _, p⟩ := (show ObjOk X.prog X.w H s.heap a (.dK kvs) from I.hok a _ ea)
   obtain ⟨o, es, ep, h1', h2, _⟩ := p
   exact PySem.W.kia_tup PySem.W.kitx_dict I.kIn ⟨o, h1', h2.1⟩ h1 e (fun z => nomatch z) h
 | @dT a kvs ea =>
   cases (show u = Value.ref a from rx)
   obtain ⟨_, _, xs, _, o, es, ep, h1', h2, _⟩ := (show ObjOk X.prog X.w H s.heap a (.dT kvs) from I.hok a _ ea)
   exact PySem.W.kia_tup PySem.W.kitx_dict I.kIn ⟨o, h1', h2.1⟩ h1 e (fun z => nomatch z) h
 | @ins a C dx fs ea cl ha hn htk hm =>
   cases (show u = Value.ref a from rx)
   obtain ⟨mA, O, _⟩ := ins_get I.hok ea
   obtain ⟨od, J, _⟩ := O.look
   exact PySem.W.kia_tup (PySem.W.kitx_own (cl.get _) cl.hd ha hn htk hm) I.kIn J h1 e (fun z => nomatch z) h
theorem call_isinstT : CallR X (.builtin "isinstance") (fun xs H Q => ∃ x tp cs t cvs b, xs = [x, .ref tp] ∧ H tp = some (.tup cs) ∧ Paired ClV cs cvs ∧ TyOf X.K H x t ∧ PySem.W.kitAny X.K t cvs = some b ∧ Q (.bl b) H) := by
 intro pins s σ H xs us Q I r h
 obtain ⟨x, tp, cs, t, cvs, b, rfl, htp, hcs, ht, he, q⟩ := h
 cases r with
 | cons r1 r' =>
   cases r' with
   | cons r2 r'' =>
     cases r''
     cases r2
     exact isinst_tup I r1 ht htp hcs he fun tk => ⟨.bl b, H, I.tok tk, rfl, q⟩
end
def EqD (X : Cx) (H : Hp) (d : Nat) (x y : V) (b : Bool) : Prop :=
 ∀ (A : Around) (s : Shared) (pins : List (Addr × Obj)) (σ : St) (u v : Value), Inv X pins σ H s → A.units + d < cLine → RelV x u → RelV y v → SeqAt.EqAt A s u v b
def RcD (X : Cx) (H : Hp) (d : Nat) (x y : V) (b : Bool) : Prop :=
 ∀ (A : Around) (s : Shared) (pins : List (Addr × Obj)) (σ : St) (u v : Value), Inv X pins σ H s → A.units + d < cLine → RelV x u → RelV y v → SeqAt.RcAt A s u v b ∧ SeqAt.RcNeAt A s u v (!b)
structure EqR (X : Cx) (H : Hp) (d : Nat) {α : Type} [DecidableEq α] (R : V → α → Prop) : Prop where
 eq : ∀ x y a b, R x a → R y b → EqD X H d x y (decide (a = b))
 rc : ∀ x y a b, R x a → R y b → RcD X H d x y (decide (a = b))
 one : ∀ x a b, R x a → R x b → (∃ pins σ s, Inv X pins σ H s) → a = b
section
variable {X : Cx} {H : Hp} {d : Nat}
def isI : V → Int → Prop := fun v i => v = .int i
theorem EqR.int : EqR X H d isI := ⟨fun x y a b ha hb A s pins σ u v I hu ru rv => by
   cases ha; cases hb
   obtain ⟨t, rfl⟩ := ru
   obtain ⟨t', rfl⟩ := rv
   rw [show decide (a = b) = (a == b) from rfl]
   exact SeqAt.EqAt.int_int a t b t', fun x y a b ha hb A s pins σ u v I hu ru rv => by
   cases ha; cases hb
   obtain ⟨t, rfl⟩ := ru
   obtain ⟨t', rfl⟩ := rv
   rw [show decide (a = b) = (a == b) from rfl]
   exact ⟨SeqAt.RcAt.int_int a t b t', SeqAt.RcNeAt.int_int a t b t'⟩, fun x a b ha hb _ => by cases ha; cases hb; rfl⟩
variable {α : Type} [DecidableEq α] {R : V → α → Prop}
def isT (K : PySem.W.Frag) (H : Hp) (R : V → α → Prop) : V → List α → Prop := fun v as => ∃ a xs, v = .ref a ∧ SqT K H a xs ∧ Paired R xs as
def isL (K : PySem.W.Frag) (H : Hp) (R : V → α → Prop) : V → List α → Prop := fun v as => ∃ a xs, v = .ref a ∧ SqL K H a xs ∧ Paired R xs as
theorem Paired.get {β γ : Type} {F : β → γ → Prop} : ∀ {xs : List β} {ys : List γ} {i : Nat} {x : β}, Paired F xs ys → xs[i]? = some x → ∃ y, ys[i]? = some y ∧ F x y
 | _, _, _, _, .nil, e => by simp at e
 | _, _, 0, _, .cons r _, e => by simp at e; subst e; exact ⟨_, rfl, r⟩
 | _, _, i + 1, x, .cons _ t, e => by
   obtain ⟨u, h1, h2⟩ := Paired.get (i := i) (x := x) t (by simpa using e)
   exact ⟨u, by simpa using h1, h2⟩
theorem paired_one {X : Cx} {H : Hp} {d : Nat} (h : EqR X H d R) (I : ∃ pins σ s, Inv X pins σ H s) : ∀ {xs : List V} {as bs : List α}, Paired R xs as → Paired R xs bs → as = bs
 | _, _, _, .nil, .nil => rfl
 | _, _, _, .cons r t, .cons r' t' => by rw [h.one _ _ _ r r' I, paired_one h I t t']
theorem all_range_eq {as bs : List α} (hl : as.length = bs.length) : (List.range as.length).all (fun j => decide (as[j]? = bs[j]?)) = decide (as = bs) := by
 rw [Bool.eq_iff_iff, List.all_eq_true, decide_eq_true_iff]
 constructor
 · intro h
   apply List.ext_getElem?
   intro j
   by_cases hj : j < as.length
   · exact of_decide_eq_true (h j (List.mem_range.mpr hj))
   · rw [List.getElem?_eq_none_iff.mpr (by omega), List.getElem?_eq_none_iff.mpr (by omega)]
 · intro h j _
   rw [h]; simp
theorem EqR.tup (h : EqR X H d R) : EqR X H (d + 1) (isT X.K H R) := by
 have rc : ∀ x y a b, isT X.K H R x a → isT X.K H R y b → RcD X H (d + 1) x y (decide (a = b)) := by
   rintro x y as bs ⟨a, xs, rfl, hx, pa⟩ ⟨b, ys, rfl, hy, pb⟩ A s pins σ u v I hu ru rv
   cases ru; cases rv
   obtain ⟨its, r1, t1, _⟩ := I.tuple hx
   obtain ⟨jts, r2, t2, _⟩ := I.tuple hy
   have l1 := r1.length
   have l2 := r2.length
   have l3 := pa.length
   have l4 := pb.length
   have hu1 : A.units < cLine := by omega
   have he : ∀ j (h1 : j < its.toArray.size) (h2 : j < jts.toArray.size), SeqAt.EqAt A.in1 s its.toArray[j] jts.toArray[j] (decide (as[j]? = bs[j]?)) := fun j h1 h2 => by
     simp only [List.size_toArray] at h1 h2
     obtain ⟨xv, ex⟩ : ∃ xv, xs[j]? = some xv := ⟨xs[j]'(by omega), List.getElem?_eq_getElem (by omega)⟩
     obtain ⟨yv, ey⟩ : ∃ yv, ys[j]? = some yv := ⟨ys[j]'(by omega), List.getElem?_eq_getElem (by omega)⟩
     obtain ⟨u1, q1, w1⟩ := r1.get ex
     obtain ⟨u2, q2, w2⟩ := r2.get ey
     obtain ⟨a1, p1, z1⟩ := Paired.get pa ex
     obtain ⟨a2, p2, z2⟩ := Paired.get pb ey
     have g1 : its.toArray[j]'(by simpa using h1) = u1 := by
       have := List.getElem?_eq_some_iff.mp q1
       simpa using this.2
     have g2 : jts.toArray[j]'(by simpa using h2) = u2 := by
       have := List.getElem?_eq_some_iff.mp q2
       simpa using this.2
     rw [g1, g2, p1, p2]
     have := h.eq xv yv a1 a2 z1 z2 A.in1 s pins σ u1 u2 I (by show A.units + 1 + d < cLine; omega) w1 w2
     rw [show decide (some a1 = some a2) = decide (a1 = a2) by simp]
     exact this
   have hb : ((List.range (min its.toArray.size jts.toArray.size)).all (fun j => decide (as[j]? = bs[j]?)) && its.toArray.size == jts.toArray.size) = decide (as = bs) := by
     simp only [List.size_toArray]
     by_cases hl : as.length = bs.length
     · have e1 : its.length = jts.length := by omega
       have e2 : min its.length jts.length = as.length := by omega
       rw [e2, all_range_eq hl, e1]; simp
     · have : (its.length == jts.length) = false := by simp; omega
       rw [this, Bool.and_false]
       exact (decide_eq_false fun e => hl (by rw [e])).symm
   have z1 := SeqAt.RcAt.tuples (A := A) (s := s) t1 t2 hu1 he
   have z2 := SeqAt.RcNeAt.tuples (A := A) (s := s) t1 t2 hu1 he
   rw [hb] at z1 z2
   exact ⟨z1, z2⟩
 refine ⟨?_, rc, ?_⟩
 · rintro x y as bs hx hy A s pins σ u v I hu ru rv
   obtain ⟨a, xs, rfl, hx', pa⟩ := id hx
   obtain ⟨b, ys, rfl, hy', pb⟩ := id hy
   cases ru; cases rv
   by_cases e : a = b
   · subst e
     have : xs = ys := I.tuple_inj hx' hy'
     subst this
     rw [paired_one h ⟨pins, σ, s, I⟩ pa pb, decide_eq_true rfl]
     exact SeqAt.EqAt.same _
   · exact SeqAt.EqAt.of_refs e (rc _ _ as bs hx hy A s pins σ _ _ I hu rfl rfl).1
 · rintro x as bs ⟨a, xs, rfl, hx, pa⟩ ⟨b, ys, e, hy, pb⟩ ⟨pins, σ, s, I⟩
   cases e
   have : xs = ys := I.tuple_inj hx hy
   subst this
   exact paired_one h ⟨pins, σ, s, I⟩ pa pb
theorem EqR.lst (h : EqR X H d R) : EqR X H (d + 1) (isL X.K H R) := by
 have rc : ∀ x y a b, isL X.K H R x a → isL X.K H R y b → RcD X H (d + 1) x y (decide (a = b)) := by
   rintro x y as bs ⟨a, xs, rfl, hx, pa⟩ ⟨b, ys, rfl, hy, pb⟩ A s pins σ u v I hu ru rv
   cases ru; cases rv
   obtain ⟨its, r1, t1, _⟩ := I.list hx
   obtain ⟨jts, r2, t2, _⟩ := I.list hy
   have l1 := r1.length
   have l2 := r2.length
   have l3 := pa.length
   have l4 := pb.length
   have hu1 : A.units < cLine := by omega
   by_cases hl : as.length = bs.length
   · have he : ∀ j (h1 : j < its.toArray.size) (h2 : j < jts.toArray.size), SeqAt.EqAt A.in1 s its.toArray[j] jts.toArray[j] (decide (as[j]? = bs[j]?)) := fun j h1 h2 => by
       simp only [List.size_toArray] at h1 h2
       obtain ⟨xv, ex⟩ : ∃ xv, xs[j]? = some xv := ⟨xs[j]'(by omega), List.getElem?_eq_getElem (by omega)⟩
       obtain ⟨yv, ey⟩ : ∃ yv, ys[j]? = some yv := ⟨ys[j]'(by omega), List.getElem?_eq_getElem (by omega)⟩
       obtain ⟨u1, q1, w1⟩ := r1.get ex
       obtain ⟨u2, q2, w2⟩ := r2.get ey
       obtain ⟨a1, p1, z1⟩ := Paired.get pa ex
       obtain ⟨a2, p2, z2⟩ := Paired.get pb ey
       have g1 : its.toArray[j]'(by simpa using h1) = u1 := by
         have := List.getElem?_eq_some_iff.mp q1
         simpa using this.2
       have g2 : jts.toArray[j]'(by simpa using h2) = u2 := by
         have := List.getElem?_eq_some_iff.mp q2
         simpa using this.2
       rw [g1, g2, p1, p2]
       have := h.eq xv yv a1 a2 z1 z2 A.in1 s pins σ u1 u2 I (by show A.units + 1 + d < cLine; omega) w1 w2
       rw [show decide (some a1 = some a2) = decide (a1 = a2) by simp]
       exact this
     have hsz : its.toArray.size = jts.toArray.size := by simp; omega
     have hb : (List.range its.toArray.size).all (fun j => decide (as[j]? = bs[j]?)) = decide (as = bs) := by
       simp only [List.size_toArray]
       rw [show its.length = as.length by omega, all_range_eq hl]
     have z1 := SeqAt.RcAt.lists (A := A) (s := s) t1.isList t2.isList hsz hu1 he
     have z2 := SeqAt.RcNeAt.lists (A := A) (s := s) t1.isList t2.isList hsz hu1 he
     rw [hb] at z1 z2
     exact ⟨z1, z2⟩
   · have hsz : (its.toArray.size != jts.toArray.size) = true := by simp; omega
     rw [decide_eq_false fun e => hl (by rw [e])]
     exact ⟨SeqAt.RcAt.lists_lengths t1.isList t2.isList hsz hu1, SeqAt.RcNeAt.lists_lengths t1.isList t2.isList hsz hu1⟩
 refine ⟨?_, rc, ?_⟩
 · rintro x y as bs hx hy A s pins σ u v I hu ru rv
   obtain ⟨a, xs, rfl, hx', pa⟩ := id hx
   obtain ⟨b, ys, rfl, hy', pb⟩ := id hy
   cases ru; cases rv
   by_cases e : a = b
   · subst e
     have : xs = ys := I.list_inj hx' hy'
     subst this
     rw [paired_one h ⟨pins, σ, s, I⟩ pa pb, decide_eq_true rfl]
     exact SeqAt.EqAt.same _
   · exact SeqAt.EqAt.of_refs e (rc _ _ as bs hx hy A s pins σ _ _ I hu rfl rfl).1
 · rintro x as bs ⟨a, xs, rfl, hx, pa⟩ ⟨b, ys, e, hy, pb⟩ ⟨pins, σ, s, I⟩
   cases e
   have : xs = ys := I.list_inj hx hy
   subst this
   exact paired_one h ⟨pins, σ, s, I⟩ pa pb
def rEqD (X : Cx) : R2 := fun x y H Q => ∃ b, RcD X H 20 x y b ∧ Q (.bl b) H
def rNeD (X : Cx) : R2 := fun x y H Q => ∃ b, RcD X H 20 x y b ∧ Q (.bl (!b)) H
theorem op_eqD (hu : X.A.units + 20 < cLine) : OpR X (compareOp .Eq) (rEqD X) := by
 intro pins s σ H x y v u Q I rx ry h
 obtain ⟨b, hb, q⟩ := h
 exact (hb X.A s pins σ v u I hu rx ry).1 X.prog X.w X.xe _ ⟨.bl b, H, I, rfl, q⟩
theorem op_neD (hu : X.A.units + 20 < cLine) : OpR X (compareOp .NotEq) (rNeD X) := by
 intro pins s σ H x y v u Q I rx ry h
 obtain ⟨b, hb, q⟩ := h
 exact (hb X.A s pins σ v u I hu rx ry).2 X.prog X.w X.xe _ ⟨.bl (!b), H, I, rfl, q⟩
def rInD (X : Cx) (neg : Bool) : R2 := fun x y H Q => ∃ (α : Type) (_ : DecidableEq α) (R : V → α → Prop) (p : Addr) (xs : List V) (as : List α) (a : α), y = .ref p ∧ EqR X H 19 R ∧ (SqL X.K H p xs ∨ SqT X.K H p xs) ∧ Paired R xs as ∧ R x a ∧ Q (.bl (if neg then !decide (a ∈ as) else decide (a ∈ as))) H
open Classical in
theorem in_any {β : Type} [DecidableEq β] {F : V → β → Prop} {a : β} : ∀ {xs : List V} {us : List Value} {as : List β}, Vals xs us → Paired F xs as → (∀ x c c', F x c → F x c' → c = c') → us.any (fun u => decide (∃ x c, RelV x u ∧ F x c ∧ c = a)) = decide (a ∈ as)
 | _, _, _, .nil, .nil, _ => by simp
 | _, _, _, .cons r t, .cons f p, h => by
   rw [List.any_cons, in_any t p h]
   rw [Bool.eq_iff_iff]
   simp only [Bool.or_eq_true, decide_eq_true_eq, List.mem_cons]
   constructor
   · rintro (⟨x, c, rx, fx, rfl⟩ | z)
     · have := r.inj rx
       subst this
       exact .inl (h _ _ _ fx f)
     · exact .inr z
   · rintro (rfl | z)
     · exact .inl ⟨_, _, r, f, rfl⟩
     · exact .inr z
open Classical in
theorem mem_eqR {X : Cx} {H : Hp} {β : Type} [DecidableEq β] {R : V → β → Prop} (h : EqR X H 19 R) {A : Around} {s : Shared} {pins : List (Addr × Obj)} {σ : St} (I : Inv X pins σ H s) (hu : A.units + 20 < cLine) {x : V} {v : Value} {a : β} (rx : RelV x v) (fx : R x a) :
   ∀ {xs : List V} {us : List Value} {as : List β}, Vals xs us → Paired R xs as → ∀ u ∈ us, SeqAt.EqAt A.in1 s u v (decide (∃ x c, RelV x u ∧ R x c ∧ c = a))
 | _, _, _, .nil, .nil => fun u hu => by cases hu
 | _, _, _, .cons (a := y) r t, .cons (b := c) f p => fun u' hu' => by
   rcases List.mem_cons.mp hu' with rfl | hu'
   · have := h.eq y x c a f fx A.in1 s pins σ _ v I (by show A.units + 1 + 19 < cLine; omega) r rx
     have e : decide (c = a) = decide (∃ x c, RelV x u' ∧ R x c ∧ c = a) := by
       rw [Bool.eq_iff_iff]
       simp only [decide_eq_true_eq]
       constructor
       · intro e; exact ⟨y, c, r, f, e⟩
       · rintro ⟨x', c', r', f', rfl⟩
         have := r.inj r'
         subst this
         exact h.one _ _ _ f f' ⟨pins, σ, s, I⟩
     rw [← e]; exact this
   · exact mem_eqR h I hu rx fx t p u' hu'
theorem op_notInD (hu : X.A.units + 20 < cLine) : OpR X (compareOp .NotIn) (rInD X true) := by
 intro pins s σ H x y v u Q I rx ry h
 obtain ⟨α, _, R, p, xs, as, a, rfl, hR, hs, pa, ra, q⟩ := h
 cases ry
 have one : ∀ x c c', R x c → R x c' → c = c' := fun x c c' h1 h2 => hR.one x c c' h1 h2 ⟨pins, σ, s, I⟩
 rcases hs with hs | hs
 · obtain ⟨its, r, pl, _⟩ := I.list hs
   refine SeqAt.notIn_listAt _ pl.isList (fun w hw => mem_eqR hR I hu rx ra r pa w (by simpa using hw)) ⟨.bl _, H, I, rfl, ?_⟩
   simp only [List.any_toArray, in_any r pa one]
   simpa using q
 · obtain ⟨its, r, pl, _⟩ := I.tuple hs
   refine SeqAt.notIn_tupleAt _ pl (fun w hw => mem_eqR hR I hu rx ra r pa w (by simpa using hw)) ⟨.bl _, H, I, rfl, ?_⟩
   simp only [List.any_toArray, in_any r pa one]
   simpa using q
end
end L2
namespace L2
open PySem PySem.Spec PyProof.Rows
section
variable {X : Cx} {pins : List (Addr × Obj)} {σ : St} {H : Hp} {s : Shared} {h' : Heap}
theorem Inv.turnedL {t' : Nat} {ch : List Addr} (I : Inv X pins σ H s) (k : ∀ b o, b ∉ ch → s.heap.get? b = some o → h'.get? b = some o) (hf : ∀ b ∈ ch, FpOk X pins H b) : Inv X pins σ H { s with heap := h', toks := t' } := by
 have nit : ∀ b u, H b = some u → b ∉ ch := fun b u e z => by rw [(hf b z).1] at e; cases e
 refine I.step (g' := s.gens) (d' := s.drawn) (ch := ch) (fun b hb => ?_) (fun b o _ _ hc e _ => k b o hc e) (fun b o _ _ hc e _ => ⟨o.slots, k b o hc e⟩) (fun _ _ _ _ n => n)
   (fun b o hc e => ⟨o, k b o hc e⟩) (fun _ _ e => e) (fun _ _ _ e => e) (fun b ps e => ⟨#[], by rw [e]; simp⟩) (fun m hm => ?_) (fun b u e => ?_) I.bare
 · obtain ⟨_, a2, _, a4, a5, a6⟩ := hf b hb
   exact ⟨a4, a2, a5, a6⟩
 · obtain ⟨o, es, ep, ho, r⟩ := hm
   exact ⟨o, es, ep, k _ o (fun z => (hf _ z).2.1 rfl) ho, r⟩
 · refine (I.hok b u e).stay (fun c v hc q => k c v ?_ q) (fun _ q => q) fun _ _ q => q
   rcases hc with z | z
   · rw [z]; exact nit b u e
   · exact nit c _ z
theorem Inv.track {a : Addr} {o : HO} {t' : Nat} (I : Inv X pins σ H s) (hf : FpOk X pins H a) (new : ObjOk X.prog X.w (upd H a o) s.heap a o) : Inv X pins σ (upd H a o) { s with toks := t' } := by
 have hn := hf.1
 refine I.step (h' := s.heap) (g' := s.gens) (d' := s.drawn) (ch := [a]) (fun b hb => ?_) (fun b o _ _ _ e _ => e) (fun b o _ _ _ e _ => ⟨o.slots, e⟩) (fun b ob hc e n => ?_)
   (fun b o _ e => ⟨o, e⟩) (fun b xs e => by rw [uN (nN e hn)]; exact e) (fun b ob u e => by rw [uN (nN e hn)]; exact e) (fun b ps e => ⟨#[], by rw [uN (nN e hn), e]; simp⟩) (fun m hm => hm) (I.hok.track hn new) I.bare
 · have e : b = a := by simpa using hb
   subst e
   obtain ⟨_, a2, _, a4, a5, a6⟩ := hf
   exact ⟨a4, a2, a5, a6⟩
 · rw [uN (fun z => hc (by simp [z]))]; exact n
end
def Itz (K : PySem.W.Frag) (l1 l2 : Addr) : It :=
 ⟨fun i H => ∃ xs ys x y, SqL K H l1 xs ∧ SqL K H l2 ys ∧ xs[i]? = some x ∧ ys[i]? = some y,
  fun i H v H' => ∃ T x y, v = .ref T ∧ H T = none ∧ H' = upd H T (.tup [x, y]) ∧ (∀ xs, SqL K H l1 xs → xs[i]? = some x) ∧ (∀ ys, SqL K H l2 ys → ys[i]? = some y),
  fun i H => ∃ xs ys, SqL K H l1 xs ∧ SqL K H l2 ys ∧ (xs.length ≤ i ∨ ys.length ≤ i)⟩
theorem turn_zip {P : Program} {w : World} {K : PySem.W.Frag} {es : List Expr} {k : Nat} {pos : Pos} {z TI TO i1 i2 l1 l2 : Addr} (D : ZipApart z TI TO i1 i2 l1 l2) :
   Turn P w K (.Tuple es k pos) (Itz K l1 l2) [z, TI, TO, i1, i2] z (fun i h => IsZip h z TI TO .none ∧ IsPair h TI (.ref i1) (.ref i2) ∧ (∃ a b, IsPair h TO a b) ∧ h.IsListIter i1 l1 i ∧ h.IsListIter i2 l2 i) where
 mem := by simp
 obj := fun i h st b hb => by
   obtain ⟨hz, hTI, ⟨a', b', hTO⟩, ⟨o1, e1, c1, d1⟩, ⟨o2, e2, c2, d2⟩⟩ := st
   simp only [List.mem_cons, List.not_mem_nil, or_false] at hb
   rcases hb with rfl | rfl | rfl | rfl | rfl
   · exact ⟨_, hz, fun v z => nomatch z⟩
   · exact ⟨_, hTI, fun v z => nomatch z⟩
   · exact ⟨_, hTO, fun v z => nomatch z⟩
   · exact ⟨o1, e1, fun v z => by rw [d1] at z; cases z⟩
   · exact ⟨o2, e2, fun v z => by rw [d2] at z; cases z⟩
 keep := fun i h h' st kk => by
   obtain ⟨hz, hTI, ⟨a', b', hTO⟩, h1, h2⟩ := st
   exact ⟨kk z (by simp) _ hz, kk TI (by simp) _ hTI, ⟨a', b', kk TO (by simp) _ hTO⟩, h1.at fun o e => kk i1 (by simp) o e, h2.at fun o e => kk i2 (by simp) o e⟩
 item := by
   intro X hP hw hK hc i pins s σ H E I hf st hg
   subst hP hw hK
   obtain ⟨xs, ys, x, y, hq1, hq2, hx, hy⟩ := hg
   obtain ⟨its, rv, p1, _⟩ := I.list hq1
   obtain ⟨jts, rw', p2, _⟩ := I.list hq2
   obtain ⟨u1, hu1, ru1⟩ := rv.get hx
   obtain ⟨u2, hu2, ru2⟩ := rw'.get hy
   obtain ⟨hz, hTI, ⟨a, b, hTO⟩, h1, h2⟩ := st
   refine wpAny_pyNext_zip_item D hz hTI hTO h1 h2 p1.isList p2.isList (x := u1) (y := u2) (by simpa using hu1) (by simpa using hu2) fun h' a1 a2 a3 a4 a5 a6 hk => ?_
   refine ⟨_, rfl, wpAny_letOwnedTupleGo_zip a1 fun h'' hz'' hs'' => ?_⟩
   have hne : ∀ c, c ∈ [z, TI, TO, i1, i2] → s.heap.objs.size ≠ c := fun c hc => by
     have : ∃ o, s.heap.get? c = some o := by
       simp only [List.mem_cons, List.not_mem_nil, or_false] at hc
       obtain ⟨o1, e1, _⟩ := id h1
       obtain ⟨o2, e2, _⟩ := id h2
       rcases hc with rfl | rfl | rfl | rfl | rfl
       · exact ⟨_, hz⟩
       · exact ⟨_, hTI⟩
       · exact ⟨_, hTO⟩
       · exact ⟨_, e1⟩
       · exact ⟨_, e2⟩
     obtain ⟨o, e⟩ := this
     exact Nat.ne_of_gt (Heap.lt_size e)
   have I1 : Inv X pins σ H { s with heap := h'' } := I.turnedL (t' := s.toks) (ch := [z, TI, TO, i1, i2]) (fun c o hc e => hs''.extBut _ _ (fun q => hc (by simp [q])) (hk c o (fun q => hc (by simp [q])) (fun q => hc (by simp [q])) (fun q => hc (by simp [q])) (fun q => hc (by simp [q])) e)) hf
   have hT : h''.get? s.heap.objs.size = some { cls := .type "tuple", data := .seq #[u1, u2] } := hs''.extBut _ _ (hne z (by simp)) a5
   have I2 : Inv X pins σ (upd H s.heap.objs.size (.tup [x, y])) { s with heap := h'' } := I1.track (t' := s.toks) (I.fpOk (Nat.le_refl _) (I.hok.fresh (Nat.le_refl _))) ⟨by show 2 ≤ sizeLine; decide, [u1, u2], .cons ru1 (.cons ru2 .nil), ⟨_, hT, rfl, _, rfl⟩⟩
   refine ⟨.ref s.heap.objs.size, _, I2, rfl, ⟨_, x, y, rfl, I.hok.fresh (Nat.le_refl _), rfl, fun xs' h => by rw [I.list_inj h hq1]; exact hx, fun ys' h => by rw [I.list_inj h hq2]; exact hy⟩, ⟨hz'', hs''.extBut _ _ D.TIz (hk _ _ D.TIz D.TITO D.TIi1 D.TIi2 hTI), ⟨_, _, hs''.extBut _ _ D.TOz a2⟩, a3.extBut hs''.extBut D.i1z, a4.extBut hs''.extBut D.i2z⟩, fun c hc => ?_⟩
   rw [uN (Ne.symm (hne c hc))]
   exact (hf c hc).1
 done := by
   intro X hP hw hK hc i pins s σ H E I hf st hg
   subst hP hw hK
   obtain ⟨xs, ys, hq1, hq2, hx⟩ := hg
   obtain ⟨its, rv, p1, _⟩ := I.list hq1
   obtain ⟨jts, rw', p2, _⟩ := I.list hq2
   obtain ⟨hz, hTI, ⟨a, b, hTO⟩, h1, h2⟩ := st
   have l1 := rv.length
   have l2 := rw'.length
   refine wpAny_pyNext_zip_end (I.ok.hd hc) D hz hTI hTO h1 h2 p1.isList p2.isList ?_ fun h' hk => ⟨rfl, ?_⟩
   · rcases hx with z | z
     · exact .inl (by simp; omega)
     · exact .inr (by simp; omega)
   · exact I.turnedL (t' := s.toks) (ch := [z, TI, TO, i1, i2]) (fun c o hc e => hk c o (fun q => hc (by simp [q])) (fun q => hc (by simp [q])) (fun q => hc (by simp [q])) (fun q => hc (by simp [q])) e) hf
 self := fun _ _ _ _ _ st h => wpAny_pyIter_zip st.1 h
def iZip (K : PySem.W.Frag) (ta : TA) : TI := fun σ H R => ta σ H fun vs H1 => ∃ l1 l2 xs ys, vs = [.ref l1, .ref l2] ∧ SqL K H1 l1 xs ∧ SqL K H1 l2 ys ∧ R (Itz K l1 l2) H1
theorem pi_zip {X : Cx} {a b : Expr} {ta : TA} {p pos : Pos} {es : List Expr} {k : Nat} {pt : Pos} (hg : Gl X "zip") (hm : X.mg "zip" = none) (ha : PA X [a, b] ta)
   (hs : starEach [a, b] X.env = [(false, eval a X.env), (false, eval b X.env)] := by rfl) (hs2 : starEach [b] X.env = [(false, eval b X.env)] := by rfl) (hv : bootBuiltins "zip" = some (.type "zip") := by decide +kernel) :
   PI X (.Tuple es k pt) (.Call (.Name "zip" p) [a, b] [] pos) (iZip X.K ta) := by
 intro pins s σ H R I h
 refine Call_ (ld_blt I hg hm hv (PyProof.Rows.callWith_type1 (thn (ha pos pins s σ H _ I h) fun us s1 ⟨vs, H1, I1, r1, q1⟩ => ?_) (by rw [hs, hs2]) (by rw [hs2]; rfl)))
 obtain ⟨l1, l2, xs, ys, e, hq1, hq2, q⟩ := q1
 subst e
 cases r1 with
 | cons r rr =>
   cases rr with
   | cons r' rr =>
     cases rr
     cases r
     cases r'
     obtain ⟨its, rv, p1, _⟩ := I1.list hq1
     obtain ⟨jts, rw', p2, _⟩ := I1.list hq2
     have lt1 : l1 < s1.heap.objs.size := by obtain ⟨o, n, e, _⟩ := p1; exact Heap.lt_size e
     have lt2 : l2 < s1.heap.objs.size := by obtain ⟨o, n, e, _⟩ := p2; exact Heap.lt_size e
     refine call_zip_2 p1.isList p2.isList fun h' hz hTI hTO hi1 hi2 hsz hk => wpAny_pyIter_zip hz ?_
     refine ⟨_, [_, _, _, _, _], _, Itz X.K l1 l2, H1, rfl, I1.kept (t' := s1.toks) hk, turn_zip (zipApart_new lt1 lt2), ⟨hz, hTI, ⟨_, _, hTO⟩, hi1, hi2⟩, fun b hb => ?_, q⟩
     have hb' : s1.heap.objs.size ≤ b := by
       simp only [List.mem_cons, List.not_mem_nil, or_false] at hb
       rcases hb with rfl | rfl | rfl | rfl | rfl <;> omega
     exact I1.fpOk hb' (I1.hok.fresh hb')
theorem for_zip {K : PySem.W.Frag} {l1 l2 : Addr} {xs ys : List V} {g : TG} {tb : TS} {D : Ends} {σ : St} {H : Hp} (hlen : xs.length = ys.length) (Pv : Nat → St → Hp → Prop) (h0 : Pv 0 σ H) (hl : ∀ i σ H, i ≤ xs.length → Pv i σ H → SqL K H l1 xs ∧ SqL K H l2 ys)
   (hs : ∀ i x y T σ H, xs[i]? = some x → ys[i]? = some y → H T = none → Pv i σ H → g (.ref T) σ (upd H T (.tup [x, y])) fun σ2 H2 => tb { D with nx := Pv (i + 1), ct := Pv (i + 1), bk := D.nx } σ2 H2) (hd : ∀ σ H, Pv xs.length σ H → D.nx σ H) :
   ∃ W : Nat → Nat → St → Hp → Prop, (∃ m, W 0 m σ H) ∧ ∀ i m σ H, W i m σ H →
     ((Itz K l1 l2).stop i H ∧ D.nx σ H) ∨ ((Itz K l1 l2).go i H ∧ ∃ N : St → Hp → Prop, (∀ σ' H', N σ' H' → ∃ m', m' < m ∧ W (i + 1) m' σ' H') ∧ ∀ x H', (Itz K l1 l2).yld i H x H' → g x σ H' fun σ2 H2 => tb { D with nx := N, ct := N, bk := D.nx } σ2 H2) := by
 refine ⟨fun i m σ H => m = xs.length - i ∧ i ≤ xs.length ∧ Pv i σ H, ⟨xs.length, by simp, Nat.zero_le _, h0⟩, ?_⟩
 rintro i m σ H ⟨rfl, hi, p⟩
 obtain ⟨q1, q2⟩ := hl i σ H hi p
 by_cases hlt : i < xs.length
 · refine .inr ⟨⟨xs, ys, xs[i], ys[i], q1, q2, by simp [hlt], by simp [← hlen, hlt]⟩, Pv (i + 1), fun σ' H' p' => ⟨xs.length - (i + 1), by omega, rfl, hlt, p'⟩, fun x H' y => ?_⟩
   obtain ⟨T, a, b, e1, hn, e2, ya, yb⟩ := y
   subst e1 e2
   exact hs i a b T σ _ (ya xs q1) (yb ys q2) hn p
 · have e : i = xs.length := by omega
   subst e
   exact .inl ⟨⟨xs, ys, q1, q2, .inl (Nat.le_refl _)⟩, hd σ H p⟩
theorem lc_range {lo : Int} {n : Nat} {cap : St} {tt : TT} {te : TE} {H : Hp} {P : List V → Hp → Prop} (Pv : Nat → List V → Hp → Prop) (h0 : Pv 0 [] H) (hn : n < sizeLine) (hb : ∀ i ys H, Pv i ys H → ys.length ≤ i)
   (hs : ∀ i ys H, i < n → Pv i ys H → tt (some (.int (lo + i)) :: cap) H fun b H3 => if b = true then te (some (.int (lo + i)) :: cap) H3 fun v H4 => Pv (i + 1) (ys ++ [v]) H4 else Pv (i + 1) ys H3) (hd : ∀ ys H, Pv n ys H → P ys H) :
   LcLoop (Itr lo n) cap tt te H P := by
 refine ⟨fun i m ys H => m = n - i ∧ i ≤ n ∧ Pv i ys H, ⟨n, by simp, Nat.zero_le _, h0⟩, ?_⟩
 rintro i m ys H ⟨rfl, hi, p⟩
 have hl := hb i ys H p
 by_cases hlt : i < n
 · refine .inr ⟨hlt, by omega, Pv (i + 1), fun σ' H' p' => ⟨n - (i + 1), by omega, rfl, hlt, p'⟩, fun x H' y => ?_⟩
   obtain ⟨e, y⟩ := y
   subst e y
   exact hs i ys _ hlt p
 · have e : i = n := by omega
   subst e
   exact .inl ⟨Nat.le_refl _, by omega, hd ys H p⟩
theorem lc_list {K : PySem.W.Frag} {a : Addr} {xs : List V} {cap : St} {tt : TT} {te : TE} {H : Hp} {P : List V → Hp → Prop} (Pv : Nat → List V → Hp → Prop) (h0 : Pv 0 [] H) (hn : xs.length < sizeLine) (hb : ∀ i ys H, Pv i ys H → ys.length ≤ i) (hl : ∀ i ys H, i ≤ xs.length → Pv i ys H → SqL K H a xs)
   (hs : ∀ i x ys H, xs[i]? = some x → Pv i ys H → tt (some x :: cap) H fun b H3 => if b = true then te (some x :: cap) H3 fun v H4 => Pv (i + 1) (ys ++ [v]) H4 else Pv (i + 1) ys H3) (hd : ∀ ys H, Pv xs.length ys H → P ys H) :
   LcLoop (Itl K a) cap tt te H P := by
 refine ⟨fun i m ys H => m = xs.length - i ∧ i ≤ xs.length ∧ Pv i ys H, ⟨xs.length, by simp, Nat.zero_le _, h0⟩, ?_⟩
 rintro i m ys H ⟨rfl, hi, p⟩
 have hyl := hb i ys H p
 have q := hl i ys H hi p
 by_cases hlt : i < xs.length
 · refine .inr ⟨⟨xs, xs[i], q, by simp [hlt]⟩, by omega, Pv (i + 1), fun σ' H' p' => ⟨xs.length - (i + 1), by omega, rfl, hlt, p'⟩, fun x H' y => ?_⟩
   obtain ⟨e, y⟩ := y
   subst e
   exact hs i x ys _ (y xs q) p
 · have e : i = xs.length := by omega
   subst e
   exact .inl ⟨⟨xs, q, Nat.le_refl _⟩, by omega, hd ys H p⟩
theorem lc_tup {K : PySem.W.Frag} {a : Addr} {xs : List V} {cap : St} {tt : TT} {te : TE} {H : Hp} {P : List V → Hp → Prop} (Pv : Nat → List V → Hp → Prop) (h0 : Pv 0 [] H) (hn : xs.length < sizeLine) (hb : ∀ i ys H, Pv i ys H → ys.length ≤ i) (hl : ∀ i ys H, i ≤ xs.length → Pv i ys H → SqT K H a xs)
   (hs : ∀ i x ys H, xs[i]? = some x → Pv i ys H → tt (some x :: cap) H fun b H3 => if b = true then te (some x :: cap) H3 fun v H4 => Pv (i + 1) (ys ++ [v]) H4 else Pv (i + 1) ys H3) (hd : ∀ ys H, Pv xs.length ys H → P ys H) :
   LcLoop (Itt K a) cap tt te H P := by
 refine ⟨fun i m ys H => m = xs.length - i ∧ i ≤ xs.length ∧ Pv i ys H, ⟨xs.length, by simp, Nat.zero_le _, h0⟩, ?_⟩
 rintro i m ys H ⟨rfl, hi, p⟩
 have hyl := hb i ys H p
 have q := hl i ys H hi p
 by_cases hlt : i < xs.length
 · refine .inr ⟨⟨xs, xs[i], q, by simp [hlt]⟩, by omega, Pv (i + 1), fun σ' H' p' => ⟨xs.length - (i + 1), by omega, rfl, hlt, p'⟩, fun x H' y => ?_⟩
   obtain ⟨e, y⟩ := y
   subst e
   exact hs i x ys _ (y xs q) p
 · have e : i = xs.length := by omega
   subst e
   exact .inl ⟨⟨xs, q, Nat.le_refl _⟩, by omega, hd ys H p⟩
section
variable (P : Program) (w : World) (K : PySem.W.Frag) (mg : Str → Option Value) (base : Heap) (k : Nat)
def FnB (x : Str) (ps : List Str) (sp : Sp) : Prop := ∃ f fd, FnOk P w K mg base CX0 k f fd ps sp ∧ mg x = some (.ref f) ∧ PySem.W.keepIn K (.ref f) = true ∧ Binds K fd ps []
def MeB (C : Addr) (m : Str) (ps : List Str) (sp : Sp) : Prop := ∃ f fd, FnOk P w K mg base CX0 k f fd ps sp ∧ Meth K C m f ∧ Binds K fd ps [] ∧ Cls K C
def MkB (x : Str) (C : Addr) (ps : List Str) (sp : Sp) : Prop := ∃ f fd, FnOk P w K mg base CX0 k f fd ps sp ∧ mg x = some (.ref C) ∧ Mk K C f ∧ Binds K fd ps []
end
section
variable {X : Cx} {k : Nat} {x m : Str} {C : Addr} {ps : List Str} {sp : Sp} {p pos apos : Pos} {e o : Expr} {es : List Expr} {ta : TE} {t : TA}
theorem eF (F : FnB X.prog X.w X.K X.mg X.base k x ps sp) (hr : Room k X.A) (ha : PA X (e :: es) t) (hg : Gl X x := by rfl) (hdb : (x == ("__debug__" : Str)) = false := by decide) (he : starEach (e :: es) X.env = (false, eval e X.env) :: starEach es X.env := by rfl) (hpl : (backTo pos (starEach es X.env)).any (·.1) = false := by rfl) :
   PE X (.Call (.Name x p) (e :: es) [] pos) (tCall sp [] E0 t) := by
 obtain ⟨f, fd, F, hm, hk, hb⟩ := F
 exact pe_call F hr hg hm hk hb .nil pass0 ha hdb he hpl
theorem pe_me {pl : Sem Bool} (M : MeB X.prog X.w X.K X.mg X.base k C m ps sp) (he : PE X o ta) (hr : Room k X.A) (ha : PA X (e :: es) t)
   (hst : starEach (e :: es) X.env = (false, eval e X.env) :: starEach es X.env := by rfl) (hpl : (backTo pos (starEach es X.env)).any (·.1) = false := by rfl)
   (ht : eval (.Call (.Attribute o m apos) (e :: es) [] pos) X.env = (do
     let ov ← eval o X.env
     standAt apos.atName
     let (f, first) ← holding [ov] (getMethod ov m pl)
     callWith pos f first (backTo pos (starEach (e :: es) X.env)) (backToKw pos (keywordEach [] X.env))) := by rfl) :
   PE X (.Call (.Attribute o m apos) (e :: es) [] pos) (tMeth C m sp [] E0 ta t) := by
 obtain ⟨f, fd, F, hm, hb, hc⟩ := M
 exact pe_meth he hc hm F hr hb .nil pass0 ha hst hpl ht
theorem pe_me0 {pl : Sem Bool} (M : MeB X.prog X.w X.K X.mg X.base k C m ps sp) (he : PE X o ta) (hr : Room k X.A)
   (ht : eval (.Call (.Attribute o m apos) [] [] pos) X.env = (do
     let ov ← eval o X.env
     standAt apos.atName
     let (f, first) ← holding [ov] (getMethod ov m pl)
     callWith pos f first (backTo pos (starEach [] X.env)) (backToKw pos (keywordEach [] X.env))) := by rfl) :
   PE X (.Call (.Attribute o m apos) [] [] pos) (tMeth C m sp [] E0 ta tNil) := by
 obtain ⟨f, fd, F, hm, hb, hc⟩ := M
 exact pe_meth0 he hc hm F hr hb .nil pass0 ht
theorem pe_mk (M : MkB X.prog X.w X.K X.mg X.base k x C ps sp) (hr : Room (k + 1) X.A) (ha : PA X (e :: es) t) (hg : Gl X x := by rfl) (hdb : (x == ("__debug__" : Str)) = false := by decide) (he : starEach (e :: es) X.env = (false, eval e X.env) :: starEach es X.env := by rfl) (hpl : (backTo pos (starEach es X.env)).any (·.1) = false := by rfl) :
   PE X (.Call (.Name x p) (e :: es) [] pos) (tMake C sp [] E0 t) := by
 obtain ⟨f, fd, F, hm, hM, hb⟩ := M
 exact pe_make hM F hr hg hm hb .nil pass0 ha hdb he hpl
end
theorem Room.u20 {k : Nat} {A : Around} (r : Room k A) : A.units + 20 < cLine := by have := r.un; omega
theorem Same.new {H : Hp} {a : Addr} {o : HO} (h : H a = none) : Same H (upd H a o) := fun b u e => by rw [uN (nN e h)]; exact e
theorem Same.lay {H H' : Hp} {a : Addr} {o : HO} (s : Same H H') (h : H' a = none) : Same H (upd H' a o) := s.trans (Same.new h)
theorem Same.put {H H' : Hp} {a : Addr} {o : HO} (s : Same H H') (h : H a = none) : Same H (upd H' a o) := fun b u e => by rw [uN (nN e h)]; exact s b u e
def rCatU : R2 := fun x y H Q => ∃ a b xs ys, x = .ref a ∧ y = .ref b ∧ H a = some (.tup xs) ∧ H b = some (.tup ys) ∧ xs.length + ys.length ≤ sizeLine ∧ ∀ p H', Same H H' → H' p = some (.tup (xs ++ ys)) → Q (.ref p) H'
theorem op_catU {X : Cx} : OpR X (binaryOp .Add) rCatU := by
 intro pins s σ H x y v u Q I rx ry h
 obtain ⟨a, b, xs, ys, rfl, rfl, ha, hb, hz, q⟩ := h
 by_cases hx : xs = []
 · subst hx
   cases rx
   cases ry
   obtain ⟨its, r1, p1, _⟩ := I.tuple (SqT.of (K := X.K) ha)
   obtain ⟨its2, r2, p2, _⟩ := I.tuple (SqT.of (K := X.K) hb)
   cases r1
   obtain ⟨⟨cls, dd, data, sl⟩, ho, hc, n, hd⟩ := id p1
   obtain ⟨⟨cls2, dd2, data2, sl2⟩, ho2, hc2, n2, hd2⟩ := id p2
   simp only at hc hd hc2 hd2
   subst hc hd hc2 hd2
   refine concat_meets ⟨_, ho, rfl⟩ ⟨_, ho2, rfl⟩ noFill_tuple_add seq_tuple_add PySem.F.slot_tuple_add PySem.F.entry_tuple_add (PySem.F.args_tuple_add_2 _ _)
     (tuple_addW0 a b _ _ n n2 dd dd2 sl sl2 (by simp)) ⟨ho, ho2, ⟨.ref b, H, I, rfl, q b H (Same.refl _) (by simpa using hb)⟩⟩
 · refine op_catT pins s σ H (.ref a) (.ref b) v u Q I rx ry ⟨a, b, xs, ys, rfl, rfl, SqT.of ha, SqT.of hb, hx, hz, fun e => ?_, fun e p hp => ?_⟩
   · subst e
     exact q a H (Same.refl _) (by simpa using ha)
   · exact q p _ (Same.new hp) uS
end L2
namespace L2
open PySem PySem.Spec PyProof.Rows
section
variable {X : Cx} {k : Nat} {x m : Str} {ps : List Str} {sp : Sp} {p pos apos : Pos} {e o : Expr} {es : List Expr} {ta : TE} {t : TA}
def tMethU (S : Addr → Prop) (m : Str) (sp : Sp) (ta : TE) (t : TA) : TE := fun σ H Q => ta σ H fun x H1 => ∃ C a dx fs, S C ∧ x = .ref a ∧ H1 a = some (.ins C dx fs) ∧ fs.lookup m = none ∧
 t σ H1 fun vs H2 => sp (x :: (vs ++ [])) H2 Q E0
theorem pe_meU {pl : Sem Bool} {S : Addr → Prop} (M : ∀ C, S C → MeB X.prog X.w X.K X.mg X.base k C m ps sp) (he : PE X o ta) (hr : Room k X.A) (ha : PA X (e :: es) t)
   (hst : starEach (e :: es) X.env = (false, eval e X.env) :: starEach es X.env := by rfl) (hpl : (backTo pos (starEach es X.env)).any (·.1) = false := by rfl)
   (ht : eval (.Call (.Attribute o m apos) (e :: es) [] pos) X.env = (do
     let ov ← eval o X.env
     standAt apos.atName
     let (f, first) ← holding [ov] (getMethod ov m pl)
     callWith pos f first (backTo pos (starEach (e :: es) X.env)) (backToKw pos (keywordEach [] X.env))) := by rfl) :
   PE X (.Call (.Attribute o m apos) (e :: es) [] pos) (tMethU S m sp ta t) := by
 intro pins s σ H Q I h
 refine PySem.W.methodCall_KW (pl := pl) (thn (he pins s σ H _ I h) fun u s1 ⟨x, H1, I1, rx, C, a, dx, fs, hS, ex, ea, l, q⟩ => ?_) ht
 subst ex
 obtain rfl : u = Value.ref a := rx
 obtain ⟨f, fd, F, hm, hb, c⟩ := M C hS
 refine getmeth_ok I1 ea c hm l ?_
 refine PySem.W.callWith_K (first := [.ref a]) (h₀ := X.base) I.ok.mod.kin hm.kp (thn (ha pos pins s1 σ H1 _ I1 q) fun us s2 ⟨vs, H2, I2, r, q2⟩ => ⟨I2.kIn, ?_⟩) hst hpl
 exact run_fn (us := .ref a :: us) (vs := .ref a :: vs) F hr hb .nil pass0 I2 (.cons rfl r) q2
end
theorem vals_strs : ∀ {ss : List Str} {us : List Value}, Vals (ss.map V.str) us → StrsAre us ss
 | [], us, r => by cases r; exact .nil
 | x :: ss, us, r => by
   cases r with
   | cons r rr =>
     obtain ⟨t, rfl⟩ := r
     exact .cons _ _ (vals_strs rr)
section
variable {X : Cx}
def rJoin (K : PySem.W.Frag) : V → List V → Hp → VK → Prop := fun x vs H Q => ∃ sep l ss, x = .str sep ∧ vs = [.ref l] ∧ SqL K H l (ss.map V.str) ∧ (ss.map (·.length)).sum + ss.length * sep.length ≤ 16777216 ∧ Q (.str (Txt.join sep ss)) H
theorem mt_join : MtR X "str.join" (rJoin X.K) := by
 intro pins s σ H x vs v us Q I rx rv h
 obtain ⟨sep, l, ss, rfl, rfl, hl, hz, q⟩ := h
 obtain ⟨t, rfl⟩ := rx
 obtain ⟨u, rfl, ru⟩ := rv.one
 cases ru
 obtain ⟨its, r, pl, _⟩ := I.list hl
 exact join_list pl.isList (by simpa using vals_strs r) hz fun t' k => ⟨.str _, H, I.tok k, ⟨t', rfl⟩, q⟩
def rSplit : V → List V → Hp → VK → Prop := fun x vs H Q => ∃ z sep, x = .str z ∧ vs = [.str sep] ∧ (sep.length == 0) = false ∧ z.length ≤ sizeLine ∧ (Txt.split z sep).length ≤ sizeLine ∧ ∀ l, H l = none → Q (.ref l) (upd H l (.lst ((Txt.split z sep).map V.str)))
theorem vals_strsFrom : ∀ (ss : List Str) (t : Nat), Vals (ss.map V.str) (strsFrom t ss)
 | [], _ => .nil
 | x :: ss, t => .cons ⟨t, rfl⟩ (vals_strsFrom ss (t + 1))
open Builtin Builtin.Str in
theorem mt_split : MtR X "str.split" rSplit := by
 intro pins s σ H x vs v us Q I rx rv h
 obtain ⟨z, y, rfl, rfl, hy, hz, hn, q⟩ := h
 obtain ⟨t, rfl⟩ := rx
 obtain ⟨_, rfl, u, rfl⟩ := rv.one
 cases h1 : (decide (z.length < y.length) || decide (strKind z < strKind y))
 · cases hf : (occurrences z y 0 z.length (z.length + 1)).isEmpty
   · have e : Txt.split z y = partsBetween z (occurrences z y 0 z.length (z.length + 1)) y.length := (if_neg (ne_true_of_eq_false h1)).trans (if_neg (ne_true_of_eq_false hf))
     rw [e] at hn q
     refine call_meets F.slot_str_split (typeIs_str _ _ _) F.entry_str_split (F.args_str_split_2 _ _) (meets_str_split_sep z y t u h1 hy hf hz hn) ?_
     exact ⟨.ref s.heap.objs.size, _, I.lnew (vals_strsFrom _ _) (by rw [List.length_map]; exact hn), rfl, q _ I.fresh⟩
   · have e : Txt.split z y = [z] := (if_neg (ne_true_of_eq_false h1)).trans (if_pos hf)
     rw [e] at q
     refine call_meets F.slot_str_split (typeIs_str _ _ _) F.entry_str_split (F.args_str_split_2 _ _) (meets_str_split_not_found z y t u h1 hy hf) ?_
     exact ⟨.ref s.heap.objs.size, _, I.lnew (t' := s.toks) (ys := [.str z]) (.cons ⟨t, rfl⟩ .nil) (by show 1 ≤ sizeLine; decide), rfl, q _ I.fresh⟩
 · have e : Txt.split z y = [z] := if_pos h1
   rw [e] at q
   refine call_meets F.slot_str_split (typeIs_str _ _ _) F.entry_str_split (F.args_str_split_2 _ _) (meets_str_split_cannot_occur z y t u h1) ?_
   exact ⟨.ref s.heap.objs.size, _, I.lnew (t' := s.toks) (ys := [.str z]) (.cons ⟨t, rfl⟩ .nil) (by show 1 ≤ sizeLine; decide), rfl, q _ I.fresh⟩
theorem call_int_str : CallR X (.type "int") (fun xs H Q => ∃ x n, xs = [.str x] ∧ PySem.intText? x = some n ∧ x.length ≤ 640 ∧ Q (.int n) H) := by
 intro pins s σ H xs us Q I r h
 obtain ⟨x, n, rfl, hn, hl, q⟩ := h
 obtain ⟨u, rfl, t, rfl⟩ := vals1 r
 exact PySem.W.KIN.call_text hn hl ⟨.int n, H, I.tok _, ⟨_, rfl⟩, q⟩
end
theorem for_rangeN {n : Nat} {g : TG} {tb : TS} {D : Ends} {σ : St} {H : Hp} (Pv : Nat → St → Hp → Prop) (h0 : Pv 0 σ H)
   (hs : ∀ (i : Nat) σ H, i < n → Pv i σ H → g (.int (i : Int)) σ H fun σ2 H2 => tb { D with nx := Pv (i + 1), ct := Pv (i + 1), bk := D.nx } σ2 H2) (hd : ∀ σ H, Pv n σ H → D.nx σ H) :
   ∃ W : Nat → Nat → St → Hp → Prop, (∃ m, W 0 m σ H) ∧ ∀ i m σ H, W i m σ H →
     ((Itr 0 n).stop i H ∧ D.nx σ H) ∨ ((Itr 0 n).go i H ∧ ∃ N : St → Hp → Prop, (∀ σ' H', N σ' H' → ∃ m', m' < m ∧ W (i + 1) m' σ' H') ∧ ∀ x H', (Itr 0 n).yld i H x H' → g x σ H' fun σ2 H2 => tb { D with nx := N, ct := N, bk := D.nx } σ2 H2) :=
 for_range (lo := 0) (n := n) Pv h0 (fun i σ H hi p => by rw [Int.zero_add]; exact hs i σ H hi p) hd
theorem lc_rangeN {n : Nat} {cap : St} {tt : TT} {te : TE} {H : Hp} {P : List V → Hp → Prop} (Pv : Nat → List V → Hp → Prop) (h0 : Pv 0 [] H) (hn : n < sizeLine) (hb : ∀ i ys H, Pv i ys H → ys.length ≤ i)
   (hs : ∀ (i : Nat) ys H, i < n → Pv i ys H → tt (some (.int (i : Int)) :: cap) H fun b H3 => if b = true then te (some (.int (i : Int)) :: cap) H3 fun v H4 => Pv (i + 1) (ys ++ [v]) H4 else Pv (i + 1) ys H3) (hd : ∀ ys H, Pv n ys H → P ys H) :
   LcLoop (Itr 0 n) cap tt te H P := lc_range (lo := 0) (n := n) Pv h0 hn hb (fun i ys H hi p => by rw [Int.zero_add]; exact hs i ys H hi p) hd
section
variable {X : Cx} {a e : Expr} {ta te : TE} {apos cpos : Pos}
theorem pe_append (ha : PE X a ta) (he : PE X e te) (hbase : attributeBase a "append" X.env (eval a X.env) = eval a X.env := by rfl)
   (hfew : ((backTo cpos (starEach [e] X.env)).all (fun x => !x.1) && (backToKw cpos (keywordEach [] X.env)).all (fun x => x.1.isSome)
     && decide (([e] : List Expr).length + ([] : List Keyword).length + (if ([] : List Keyword).isEmpty then 0 else 1) < 30)) = true := by rfl)
   (hline : (apos.endLine == cpos.line) = true := by rfl) (hs : starEach [e] X.env = (false, eval e X.env) :: starEach [] X.env := by rfl) (hplain : (backTo cpos (starEach [] X.env)).any (·.1) = false := by rfl) :
   PE X (.Call (.Attribute a "append" apos) [e] [] cpos) (tBM X.K "list" rAppend ta (tCons te tNil)) :=
 pe_bm PySem.F.plainAttrs_list PySem.F.slot_list_append PySem.F.type_list_append mt_append ha (pK he pN hs) hbase hfew hline hs hplain
theorem pe_extend (ha : PE X a ta) (he : PE X e te) (hbase : attributeBase a "extend" X.env (eval a X.env) = eval a X.env := by rfl)
   (hfew : ((backTo cpos (starEach [e] X.env)).all (fun x => !x.1) && (backToKw cpos (keywordEach [] X.env)).all (fun x => x.1.isSome)
     && decide (([e] : List Expr).length + ([] : List Keyword).length + (if ([] : List Keyword).isEmpty then 0 else 1) < 30)) = true := by rfl)
   (hline : (apos.endLine == cpos.line) = true := by rfl) (hs : starEach [e] X.env = (false, eval e X.env) :: starEach [] X.env := by rfl) (hplain : (backTo cpos (starEach [] X.env)).any (·.1) = false := by rfl) :
   PE X (.Call (.Attribute a "extend" apos) [e] [] cpos) (tBM X.K "list" rExtend ta (tCons te tNil)) :=
 pe_bm PySem.F.plainAttrs_list PySem.F.slot_list_extend PySem.F.type_list_extend mt_extend ha (pK he pN hs) hbase hfew hline hs hplain
theorem pe_join (ha : PE X a ta) (he : PE X e te) (hbase : attributeBase a "join" X.env (eval a X.env) = eval a X.env := by rfl)
   (hfew : ((backTo cpos (starEach [e] X.env)).all (fun x => !x.1) && (backToKw cpos (keywordEach [] X.env)).all (fun x => x.1.isSome)
     && decide (([e] : List Expr).length + ([] : List Keyword).length + (if ([] : List Keyword).isEmpty then 0 else 1) < 30)) = true := by rfl)
   (hline : (apos.endLine == cpos.line) = true := by rfl) (hs : starEach [e] X.env = (false, eval e X.env) :: starEach [] X.env := by rfl) (hplain : (backTo cpos (starEach [] X.env)).any (·.1) = false := by rfl) :
   PE X (.Call (.Attribute a "join" apos) [e] [] cpos) (tBM X.K "str" (rJoin X.K) ta (tCons te tNil)) :=
 pe_bm PySem.F.plainAttrs_str PySem.F.slot_str_join PySem.F.type_str_join mt_join ha (pK he pN hs) hbase hfew hline hs hplain
theorem pe_split (ha : PE X a ta) (he : PE X e te) (hbase : attributeBase a "split" X.env (eval a X.env) = eval a X.env := by rfl)
   (hfew : ((backTo cpos (starEach [e] X.env)).all (fun x => !x.1) && (backToKw cpos (keywordEach [] X.env)).all (fun x => x.1.isSome)
     && decide (([e] : List Expr).length + ([] : List Keyword).length + (if ([] : List Keyword).isEmpty then 0 else 1) < 30)) = true := by rfl)
   (hline : (apos.endLine == cpos.line) = true := by rfl) (hs : starEach [e] X.env = (false, eval e X.env) :: starEach [] X.env := by rfl) (hplain : (backTo cpos (starEach [] X.env)).any (·.1) = false := by rfl) :
   PE X (.Call (.Attribute a "split" apos) [e] [] cpos) (tBM X.K "str" rSplit ta (tCons te tNil)) :=
 pe_bm PySem.F.plainAttrs_str PySem.F.slot_str_split PySem.F.type_str_split mt_split ha (pK he pN hs) hbase hfew hline hs hplain
theorem pe_clear (ha : PE X a ta) (hbase : attributeBase a "clear" X.env (eval a X.env) = eval a X.env := by rfl) (hline : (apos.endLine == cpos.line) = true := by rfl) :
   PE X (.Call (.Attribute a "clear" apos) [] [] cpos) (tBM0 X.K "list" rClear ta) :=
 pe_bm0 PySem.F.plainAttrs_list PySem.F.slot_list_clear PySem.F.type_list_clear mt_clear ha hbase hline
end
end L2
namespace L2
open PySem PySem.Spec PyProof.Rows
section
variable {X : Cx}
theorem call_rangeR : CallR X (.type "range") (fun xs H Q => ∃ j : Int, xs = [.int j] ∧ ∀ p, H p = none → Q (.ref p) (upd H p (.rng 0 j))) := by
 intro pins s σ H xs us Q I r h
 obtain ⟨j, rfl, q⟩ := h
 obtain ⟨u, rfl, t, rfl⟩ := vals1 r
 refine call_range_1 ⟨.ref s.heap.objs.size, _, I.laid (o := .rng 0 j) (fun b o e => Heap.get?_push_of_some _ e) (Nat.le_refl _) ⟨_, _, _, Heap.get?_push_size _ rfl⟩, rfl, q _ I.fresh⟩
theorem vals_items {F : Nat → Int} : ∀ (l : List Value) (n : Nat), l.length = n → (∀ i v, l[i]? = some v → ∃ t, v = Value.int (F i) t) → Vals ((List.range n).map fun k => V.int (F k)) l := by
 intro l n hl h
 have : ∀ (l : List Value) (k n : Nat), l.length = n → (∀ i v, l[i]? = some v → ∃ t, v = Value.int (F (k + i)) t) → Vals ((List.range' k n).map fun k => V.int (F k)) l := by
   intro l
   induction l with
   | nil => intro k n hl _; subst hl; exact .nil
   | cons a l ih =>
     intro k n hl h
     cases n with
     | zero => cases hl
     | succ n =>
       rw [List.range'_succ, List.map_cons]
       refine .cons ?_ (ih (k + 1) n (by simpa using hl) fun i v e => ?_)
       · exact h 0 a rfl
       · have := h (i + 1) v (by simpa using e)
         rw [Nat.add_assoc, Nat.add_comm 1 i]
         exact this
 rw [List.range_eq_range']
 exact this l 0 n hl fun i v e => by rw [Nat.zero_add]; exact h i v e
theorem call_list_rng (hc : X.calm = true) : CallR X (.type "list") (fun xs H Q => ∃ p hi, xs = [.ref p] ∧ H p = some (.rng 0 hi) ∧ -(2 ^ 62) ≤ hi ∧ hi ≤ 16777216 ∧ ∀ l, H l = none → Q (.ref l) (upd H l (.lst ((List.range hi.toNat).map fun (k : Nat) => V.int (k : Int))))) := by
 intro pins s σ H xs us Q I r h
 obtain ⟨p, hi, rfl, hp, h1, h2, q⟩ := h
 obtain ⟨u, rfl, ru⟩ := vals1 r
 cases ru
 obtain ⟨t, u, v, e⟩ := (show ObjOk X.prog X.w H s.heap p (.rng 0 hi) from I.hok p _ hp)
 have e2 : Builtin.Range.rangeSize 0 hi 1 = ((hi.toNat : Nat) : Int) := by rw [rangeSize_one]; split <;> omega
 refine call_list_range (I.ok.hd hc) e (small_one (by decide) (by decide) h1 (by omega)) e2 (by omega) fun h' tk acc' c' hk hS hacc => ?_
 refine ⟨.ref s.heap.objs.size, _, I.laid (t' := tk) (o := .lst ((List.range hi.toNat).map fun (k : Nat) => V.int (k : Int))) hk (Nat.le_refl _) ⟨?_, acc'.toList, c', ?_, ?_⟩, rfl, q _ I.fresh⟩
 · rw [List.length_map, List.length_range]; show _ ≤ 2 ^ 24; omega
 · refine vals_items (F := fun k => (k : Int)) acc'.toList _ (by simpa using hacc.1) fun i v e => ?_
   obtain ⟨t', rfl⟩ := hacc.2 i v (by simpa using e)
   exact ⟨t', by simp⟩
 · simpa using hS
def intsOf : List Expr → Option (List Int)
 | [] => some []
 | .Constant (.int i) _ _ :: es => (intsOf es).map (i :: ·)
 | _ => none
theorem pa_ints : ∀ {es : List Expr} {ns : List Int}, intsOf es = some ns → PA X es (fun _ H Q => Q (ns.map V.int) H)
 | [], ns, h => by
   cases h
   exact pN
 | e :: es, ns, h => by
   cases e with
   | Constant c k pos =>
     cases c with
     | int i =>
       have h' : (intsOf es).map (i :: ·) = some ns := h
       cases hq : intsOf es with
       | none => rw [hq] at h'; cases h'
       | some ms =>
         rw [hq] at h'
         have e' : i :: ms = ns := Option.some.inj h'
         subst e'
         exact pK (te := tC (.int i)) eI (pa_ints hq) rfl
     | _ => cases h
   | _ => cases h
end
end L2
namespace L2
open PySem PySem.Spec PyProof.Rows
section
variable {X : Cx}
theorem vals_bl {bs : List Bool} {us : List Value} (r : Vals (bs.map V.bl) us) {i : Nat} {v : Value} (h : us[i]? = some v) : ∃ b, bs[i]? = some b ∧ v = .bool b := by
 have hl := r.length
 rw [List.length_map] at hl
 have hi : i < bs.length := by have := (List.getElem?_eq_some_iff.mp h).1; omega
 have e : (bs.map V.bl)[i]? = some (V.bl bs[i]) := by simp [hi]
 obtain ⟨u, hu, ru⟩ := r.get e
 rw [h] at hu
 cases hu
 exact ⟨bs[i], by simp [hi], ru⟩
theorem any_range (bs : List Bool) : ((List.range bs.length).any fun i => (bs[i]?).getD false) = bs.any id := by
 rw [Bool.eq_iff_iff, List.any_eq_true, List.any_eq_true]
 constructor
 · rintro ⟨i, hi, e⟩
   have hi' := List.mem_range.mp hi
   rw [List.getElem?_eq_getElem hi'] at e
   exact ⟨_, List.getElem_mem hi', e⟩
 · rintro ⟨b, hb, e⟩
   obtain ⟨i, hi⟩ := List.mem_iff_getElem?.mp hb
   exact ⟨i, List.mem_range.mpr (List.getElem?_eq_some_iff.mp hi).1, by rw [hi]; exact e⟩
theorem all_range (bs : List Bool) : ((List.range bs.length).all fun i => (bs[i]?).getD true) = bs.all id := by
 rw [Bool.eq_iff_iff, List.all_eq_true, List.all_eq_true]
 constructor
 · intro h b hb
   obtain ⟨i, hi⟩ := List.mem_iff_getElem?.mp hb
   have := h i (List.mem_range.mpr (List.getElem?_eq_some_iff.mp hi).1)
   rw [hi] at this
   exact this
 · intro h i hi
   have hi' := List.mem_range.mp hi
   rw [List.getElem?_eq_getElem hi']
   exact h _ (List.getElem_mem hi')
theorem call_any (hc : X.calm = true) : CallR X (.builtin "any") (fun xs H Q => ∃ (l : Addr) (bs : List Bool), xs = [.ref l] ∧ SqL X.K H l (bs.map V.bl) ∧ Q (.bl (bs.any id)) H) := by
 intro pins s σ H xs us Q I r h
 obtain ⟨l, bs, rfl, hl, q⟩ := h
 obtain ⟨u, rfl, ru⟩ := vals1 r
 cases ru
 obtain ⟨its, rv, pl, _⟩ := I.list hl
 have hli := pl.isList
 have hlt : l < s.heap.objs.size := by obtain ⟨_, e, _⟩ := hli; exact Heap.lt_size e
 have hlen := rv.length
 rw [List.length_map] at hlen
 refine call_any_walk (wpAny_pyIter_list hli ?_)
 refine ⟨s.heap.objs.size, [s.heap.objs.size, l], [s.heap.objs.size], its.toArray.size, _, _, fun i => (bs[i]?).getD false, rfl, Walks.list (A := X.A.in1) (I.ok.hd hc) _ l (Nat.ne_of_lt hlt) its.toArray,
   ⟨⟨_, Heap.get?_push_size _ rfl, rfl, rfl⟩, hli.push _⟩, fun i v s' Q' E' hP hQ => ?_, fun h' tk hk => ?_⟩
 · obtain ⟨b, e, rfl⟩ := vals_bl rv (i := i) (v := v) (by simpa using hP)
   simp only [e, Option.getD_some] at hQ
   exact wpAny_truthy_bool hQ
 · rw [List.size_toArray, ← hlen, any_range]
   exact ⟨.bl _, H, I.kept (t' := tk) fun b o e => hk b o (fun hm => by rw [List.mem_singleton.mp hm] at e; exact Nat.lt_irrefl _ (Heap.lt_size e)) (Heap.get?_push_of_some _ e), rfl, q⟩
theorem call_all (hc : X.calm = true) : CallR X (.builtin "all") (fun xs H Q => ∃ (l : Addr) (bs : List Bool), xs = [.ref l] ∧ SqL X.K H l (bs.map V.bl) ∧ Q (.bl (bs.all id)) H) := by
 intro pins s σ H xs us Q I r h
 obtain ⟨l, bs, rfl, hl, q⟩ := h
 obtain ⟨u, rfl, ru⟩ := vals1 r
 cases ru
 obtain ⟨its, rv, pl, _⟩ := I.list hl
 have hli := pl.isList
 have hlt : l < s.heap.objs.size := by obtain ⟨_, e, _⟩ := hli; exact Heap.lt_size e
 have hlen := rv.length
 rw [List.length_map] at hlen
 refine call_all_walk (wpAny_pyIter_list hli ?_)
 refine ⟨s.heap.objs.size, [s.heap.objs.size, l], [s.heap.objs.size], its.toArray.size, _, _, fun i => (bs[i]?).getD true, rfl, Walks.list (A := X.A.in1) (I.ok.hd hc) _ l (Nat.ne_of_lt hlt) its.toArray,
   ⟨⟨_, Heap.get?_push_size _ rfl, rfl, rfl⟩, hli.push _⟩, fun i v s' Q' E' hP hQ => ?_, fun h' tk hk => ?_⟩
 · obtain ⟨b, e, rfl⟩ := vals_bl rv (i := i) (v := v) (by simpa using hP)
   simp only [e, Option.getD_some] at hQ
   exact wpAny_truthy_bool hQ
 · rw [List.size_toArray, ← hlen, all_range]
   exact ⟨.bl _, H, I.kept (t' := tk) fun b o e => hk b o (fun hm => by rw [List.mem_singleton.mp hm] at e; exact Nat.lt_irrefl _ (Heap.lt_size e)) (Heap.get?_push_of_some _ e), rfl, q⟩
theorem RcD.same {H : Hp} {d : Nat} {l m : Addr} {ps : List Addr} (hl : SqL X.K H l (ps.map V.ref)) (hm : SqL X.K H m (ps.map V.ref)) : RcD X H d (.ref l) (.ref m) true := by
 intro A s pins σ u v I hu ru rv
 cases ru; cases rv
 obtain ⟨its, r1, t1, _⟩ := I.list hl
 obtain ⟨jts, r2, t2, _⟩ := I.list hm
 have he : its = jts := by
   have : ∀ {ps : List Addr} {its jts : List Value}, Vals (ps.map V.ref) its → Vals (ps.map V.ref) jts → its = jts := by
     intro ps
     induction ps with
     | nil => intro its jts a b; cases a; cases b; rfl
     | cons p ps ih =>
       intro its jts a b
       cases a with
       | cons a1 a2 =>
         cases b with
         | cons b1 b2 =>
           cases a1; cases b1
           rw [ih a2 b2]
   exact this r1 r2
 subst he
 have hu1 : A.units < cLine := by omega
 have hE : ∀ j (h1 : j < its.toArray.size) (h2 : j < its.toArray.size), SeqAt.EqAt A.in1 s its.toArray[j] its.toArray[j] ((fun _ => true) j) := fun j h1 h2 => SeqAt.EqAt.same _
 have z1 := SeqAt.RcAt.lists (A := A) (s := s) t1.isList t2.isList rfl hu1 hE
 have z2 := SeqAt.RcNeAt.lists (A := A) (s := s) t1.isList t2.isList rfl hu1 hE
 have hb : (List.range its.toArray.size).all (fun _ => true) = true := by simp
 rw [hb] at z1 z2
 exact ⟨z1, z2⟩
end
section
variable {X : Cx} {K : PySem.W.Frag}
def rIsi (K : PySem.W.Frag) : List V → Hp → VK → Prop := fun xs H Q => ∃ x c t cv b, xs = [x, c] ∧ ClV c cv ∧ TyOf K H x t ∧ PySem.W.kitOne K t cv = some b ∧ Q (.bl b) H
theorem cI (K : PySem.W.Frag) (hK : X.K = K := by rfl) : CallR X (.builtin "isinstance") (rIsi K) := by subst hK; exact call_isinst
theorem ix_listK (K : PySem.W.Frag) (hK : X.K = K := by rfl) : IxR X (rIxL K) := by subst hK; exact ix_list
theorem ix_tupK (K : PySem.W.Frag) (hK : X.K = K := by rfl) : IxR X (rIxT K) := by subst hK; exact ix_tup
def rLen (K : PySem.W.Frag) : List V → Hp → VK → Prop := fun xs H Q => ∃ p ys, xs = [.ref p] ∧ (SqL K H p ys ∨ SqT K H p ys) ∧ Q (.int ys.length) H
theorem call_lenK (K : PySem.W.Frag) (hK : X.K = K := by rfl) : CallR X (.builtin "len") (rLen K) := by subst hK; exact call_len_seq
end
end L2
namespace L2
open PySem PySem.Spec PyProof.Rows
def Cx.catch (X : Cx) (E : Value → Shared → Prop) : Cx := { X with xe := E }
section
variable {X : Cx}
theorem Inv.catch {E : Value → Shared → Prop} {pins : List (Addr × Obj)} {σ : St} {H : Hp} {s : Shared} (I : Inv X pins σ H s) : Inv (X.catch E) pins σ H s :=
 ⟨⟨I.ok.mod, I.ok.kind, I.ok.glob, I.ok.blt, I.ok.above, I.ok.inj, I.ok.has, I.ok.cab, I.ok.hd, I.ok.frames, I.ok.stk, I.ok.exf, I.ok.bs, I.ok.bsz, I.ok.noex, I.ok.exfs, I.ok.funs, I.ok.frf⟩, I.os, I.bare, I.base, I.loc, I.cell, I.free, I.freeC, I.pin, I.hok, I.len⟩
theorem Inv.uncatch {E : Value → Shared → Prop} {pins : List (Addr × Obj)} {σ : St} {H : Hp} {s : Shared} (I : Inv (X.catch E) pins σ H s) : Inv X pins σ H s :=
 ⟨⟨I.ok.mod, I.ok.kind, I.ok.glob, I.ok.blt, I.ok.above, I.ok.inj, I.ok.has, I.ok.cab, I.ok.hd, I.ok.frames, I.ok.stk, I.ok.exf, I.ok.bs, I.ok.bsz, I.ok.noex, I.ok.exfs, I.ok.funs, I.ok.frf⟩, I.os, I.bare, I.base, I.loc, I.cell, I.free, I.freeC, I.pin, I.hok, I.len⟩
theorem SP.uncatch {E : Value → Shared → Prop} {pins : List (Addr × Obj)} {D : Ends} {f : Flow} {s : Shared} (h : SP (X.catch E) pins D f s) : SP X pins D f s := by
 cases f with
 | next => obtain ⟨σ, H, I, q⟩ := h; exact ⟨σ, H, I.uncatch, q⟩
 | brk => obtain ⟨σ, H, I, q⟩ := h; exact ⟨σ, H, I.uncatch, q⟩
 | cont => obtain ⟨σ, H, I, q⟩ := h; exact ⟨σ, H, I.uncatch, q⟩
 | ret u => obtain ⟨v, σ, H, I, r, q⟩ := h; exact ⟨v, σ, H, I.uncatch, r, q⟩
theorem ps_try {body : List Stmt} {h₀ : ExceptHandler} {hs : List ExceptHandler} {pos : Pos} {t : TS} (hb : ∀ E, PSs (X.catch E) body t) : PS X (.Try body (h₀ :: hs) [] [] pos) t := by
 intro pins s σ H D I h
 refine wpAny_Try_except (wpAny_mono (hb (fun e s₁ => wpAny (model X.prog X.w) X.A (noteFrame e X.env) (fun _ s₂ => wpAny (model X.prog X.w) X.A (setFlight e none) (fun _ s₃ => wpAny (model X.prog X.w) X.A (handleBy e X.env (h₀ :: hs)) (SP X pins D) X.xe s₃) X.xe s₂) X.xe s₁) pins s σ H D I.catch h) (fun f s1 q => ?_) fun _ _ e => e)
 have q' := SP.uncatch q
 cases f with
 | next => exact wpAny_execs_nil q'
 | brk => exact q'
 | cont => exact q'
 | ret u => exact q'
def rSum (K : PySem.W.Frag) : List V → Hp → VK → Prop := fun xs H Q => ∃ (l : Addr) (ns : List Int), xs = [.ref l] ∧ SqL K H l (ns.map V.int) ∧ Q (.int ns.sum) H
theorem call_sum (hc : X.calm = true) : CallR X (.builtin "sum") (rSum X.K) := by
 intro pins s σ H xs us Q I r h
 obtain ⟨l, ns, rfl, hl, q⟩ := h
 obtain ⟨u, rfl, ru⟩ := vals1 r
 cases ru
 obtain ⟨its, rv, pl, _⟩ := I.list hl
 have hi := intsAre_of rv
 obtain ⟨xs, hx⟩ := hi.allInts.items
 have hl' : s.heap.IsList l (intItems xs) := hx ▸ pl.isList
 refine sum_intListG (I.ok.hd hc) hl' fun h' tk t' hk => ?_
 have e1 : ns = xs.toList.map (·.1) := by
   rw [← nums_intItems, ← hx]
   exact (show numsOf its.toArray.toList = ns from hi.numsOf).symm
 have e2 : preSum (numAt xs) xs.size = ns.sum := by
   rw [preSum_eq, List.take_of_length_le (by simp), e1]
 rw [e2]
 exact ⟨.int _, H, I.kept (t' := tk) hk, ⟨t', rfl⟩, q⟩
theorem dedup_full : ∀ (ns acc : List Int), (acc ++ ns).Nodup → ns.foldl step_dedup acc = acc ++ ns
 | [], acc, _ => by simp
 | n :: ns, acc, h => by
   have hn : ¬ (acc.any (· == n) = true) := by
     intro e
     obtain ⟨x, hx, e2⟩ := List.any_eq_true.mp e
     have : x = n := by simpa using e2
     subst this
     have := (List.nodup_append.mp h).2.2 x hx x List.mem_cons_self
     exact this rfl
   rw [List.foldl_cons]
   have e : step_dedup acc n = acc ++ [n] := by unfold step_dedup; rw [if_neg hn]
   rw [e, dedup_full ns (acc ++ [n]) (by rw [List.append_assoc]; exact h), List.append_assoc]
   rfl
theorem firstMet_full {ns : List Int} (h : ns.Nodup) : (firstMet (fun i => ns.getD i 0) ns.length).length = ns.length := by
 unfold firstMet
 have e : (List.range ns.length).map (fun i => ns.getD i 0) = ns := by
   apply List.ext_getElem?
   intro i
   by_cases hi : i < ns.length
   · simp [hi]
   · simp [hi]
 rw [e, dedup_full ns [] (by simpa using h)]
 simp
def tLenSet (K : PySem.W.Frag) (te : TE) : TE := fun σ H Q => te σ H fun x H1 => ∃ (l : Addr) (ns : List Int), x = .ref l ∧ SqL K H1 l (ns.map V.int) ∧ ns.Nodup ∧ ns.length < 1000 ∧ Q (.int ns.length) H1
theorem pe_lenset {e : Expr} {te : TE} {p p' pos pos' : Pos} (hc : X.calm = true) (hg : Gl X "len") (hm : X.mg "len" = none) (hg' : Gl X "set") (hm' : X.mg "set" = none) (he : PE X e te)
   (hs : starEach [e] X.env = (false, eval e X.env) :: starEach [] X.env := by rfl)
   (hs2 : starEach [Expr.Call (.Name "set" p') [e] [] pos'] X.env = (false, eval (.Call (.Name "set" p') [e] [] pos') X.env) :: starEach [] X.env := by rfl)
   (hv : bootBuiltins "set" = some (.type "set") := by decide +kernel) :
   PE X (.Call (.Name "len" p) [.Call (.Name "set" p') [e] [] pos'] [] pos) (tLenSet X.K te) := by
 intro pins s σ H Q I h
 refine wpAny_Call_Name_kw (ld_blt I hg hm PySem.boot_len ?_)
 refine PyProof.Rows.callWith_builtin1 ?_ hs2
 rw [hs2]
 show wpAny _ _ (spliced ((false, eval (.Call (.Name "set" p') [e] [] pos') X.env) :: backTo pos (starEach [] X.env))) _ _ s
 refine Calls.spliced_cons (wpAny_Call_Name_kw (ld_blt I hg' hm' hv ?_))
 refine PyProof.Rows.callWith_type1 ?_ hs
 rw [hs]
 show wpAny _ _ (spliced ((false, eval e X.env) :: backTo pos' (starEach [] X.env))) _ _ s
 refine Calls.spliced_cons (thn (he pins s σ H _ I h) fun u s1 ⟨x, H1, I1, r1, l, ns, e1, hl, hnd, hlt, q⟩ => Calls.spliced_nil ?_)
 subst e1
 cases r1
 obtain ⟨its, rv, pl, _⟩ := I1.list hl
 have hi := intsAre_of rv
 have hlen := rv.length
 rw [List.length_map] at hlen
 refine PySem.call_set_list (items := its.toArray) (ns := ns) (I1.ok.hd hc) pl.isList (by simpa using hi) (by rw [List.size_toArray]; unfold scanBound; omega) fun h' tk hS hk => ?_
 have I2 : Inv X pins σ H1 { s1 with heap := h', toks := tk } := I1.kept (t' := tk) fun b o e => hk b o (Heap.lt_size e) e
 have hsz : its.toArray.size = ns.length := by rw [List.size_toArray, hlen]
 rw [hsz, firstMet_full hnd] at hS
 obtain ⟨o, es, ep, t, ho, hex, hd, _, _, _, hf, hn⟩ := hS
 refine Calls.spliced_nil ?_
 refine call_len_set ho hex hd hf (by omega) ?_
 rw [hn]
 exact ⟨.int _, H1, I2.tok _, ⟨_, rfl⟩, q⟩
end
end L2
namespace L2
open PySem PySem.Spec PyProof.Rows
section
variable {X : Cx} {st : Stmt} {rest : List Stmt} {t u : TS}
end
end L2
namespace L2
open PySem PySem.Spec PyProof.Rows
section
variable {prog : Program} {w : World} {A : Around} {E : Value → Shared → Prop} {s : Shared} {d it : Addr} {od : Obj} {es : Array DictEntry} {ep i : Nat}
theorem es_iter {Q : Value → Shared → Prop} (nd : (d == sysModules) = false) (hg : s.heap.get? d = some od) (hx : od.ExactDict) (ht : od.data = .dict es ep)
   (q : Q (.ref s.heap.objs.size) { s with heap := s.heap.push { cls := .type "dict_keyiterator", data := .fields #[.ref d, .int 0 0, .int es.size 0, .int ep 0] } }) : wpAny (model prog w) A (pyIter (.ref d)) Q E s := by
 have ty : s.TypeIs (.ref d) "dict" := ⟨od, hg, hx.1⟩
 refine wpAny_pyIter_slot ty F.slot_dict_iter (wpAny_call_entry F.slot_dict_iter ty F.entry_dict_iter ?_ (F.args_dict_iter_1 _))
 unfold Builtin.«dict.__iter__»
 unfold Builtin.Dict.dictSlotNone
 refine wpAny_bind (wpAny_bind (wpAny_notOrdered_dict ty (wpAny_pure ?_)))
 refine (show wpAny _ _ (Builtin.Dict.showsAll d >>= _) _ _ s from ?_)
 unfold Builtin.Dict.showsAll
 rw [if_neg (by rw [nd]; exact Bool.false_ne_true)]
 refine wpAny_bind (wpAny_pure (wpAny_bind (wpAny_dictEntries hg ht (wpAny_bind (wpAny_dictEpoch hg ht ?_)))))
 refine wpAny_bind (wpAny_newObj_type (wpAny_pure ⟨_, rfl, "dict_keyiterator", _, ⟨_, Heap.get?_push_size _ rfl, rfl⟩, F.slot_dict_keyiterator_next.lookup, ?_⟩))
 simpa [rawInt] using q
theorem es_item {Q : Option Value → Shared → Prop} (st : s.heap.IsKeyIter it d i es.size ep) (hg : s.heap.get? d = some od) (ht : od.data = .dict es ep) (lt : i < es.size)
   (q : ∀ h', h'.IsKeyIter it d (i + 1) es.size ep → Heap.SameBut it s.heap h' → Q (some es[i].key) { s with heap := h' }) : wpAny (model prog w) A (pyNext (.ref it)) Q E s := by
 obtain ⟨o, ho, hc, hf⟩ := id st
 have ty := st.typeIs
 unfold pyNext
 refine wpAny_bind (wpAny_attempt (wpAny_callSpecial?_slot (name := Str.ofString "__next__") ty F.slot_dict_keyiterator_next (wpAny_call_entry F.slot_dict_keyiterator_next ty F.entry_dict_keyiterator_next ?_ (F.args_dict_keyiterator_next_1 _))))
 refine wpAny_bind (wpAny_pure (wpAny_bind (wpAny_bind ?_)))
 first | refine wpAny_bind (wpAny_typeNameOfWhole_keyiter ty (wpAny_pure (wpAny_bind (wpAny_fieldsOf ho hf ?_)))) | refine wpAny_bind (wpAny_typeNameOf_keyiter ty (wpAny_pure (wpAny_bind (wpAny_fieldsOf ho hf ?_))))
 simp only [show Builtin.Dict_items.ownsTuple "dict_keyiterator" = false by decide, Bool.false_eq_true, if_false]
 show wpAny _ _ (if (Value.ref d == Value.none) = true then _ else _) _ _ s
 rw [if_neg (show ¬ ((Value.ref d == Value.none) = true) from Bool.false_ne_true)]
 refine wpAny_bind (wpAny_pure (wpAny_bind (wpAny_dictEntries hg ht ?_)))
 rw [if_neg (by simp)]
 refine wpAny_bind (wpAny_pure (wpAny_bind (wpAny_dictEpoch hg ht ?_)))
 rw [if_neg (by simp)]
 refine wpAny_pure ?_
 simp only [show ¬ ((i : Int) < 0) from by omega, if_false, Int.toNat_natCast, Array.getElem?_eq_getElem lt]
 refine wpAny_bind ?_
 first | refine wpAny_bind (wpAny_typeNameOfWhole_keyiter ty (wpAny_pure (wpAny_bind (wpAny_isOneOf_keyiter ty ?_)))) | refine wpAny_bind (wpAny_typeNameOf_keyiter ty (wpAny_pure (wpAny_bind (wpAny_isOneOf_keyiter ty ?_))))
 show wpAny _ _ (setField (.ref it) 1 (rawInt ((i : Int) + 1)) >>= _) _ _ s
 refine wpAny_bind (wpAny_setField ho hf (by simp) ?_)
 have st' : (s.heap.update it (Obj.mapFields (·.setIfInBounds 1 (rawInt ((i : Int) + 1))))).IsKeyIter it d (i + 1) es.size ep :=
   ⟨_, Heap.get?_update_self _ ho (Obj.isFreed_of_fields (Obj.data_mapFields hf _)), (Obj.cls_mapFields ..).trans hc, by rw [Obj.data_mapFields hf]; simp [rawInt]⟩
 refine wpAny_bind (wpAny_holding (wpAny_bind (wpAny_isOneOf_keyiter (s := { s with heap := s.heap.update it (Obj.mapFields (·.setIfInBounds 1 (rawInt ((i : Int) + 1)))) }) st'.typeIs ?_)))
 show wpAny _ _ (pure es[i].key) _ _ _
 exact wpAny_pure (wpAny_pure ⟨_, rfl, wpAny_pure (q _ st' (Heap.SameBut.update ..))⟩)
theorem es_end {Q : Option Value → Shared → Prop} (hh : A.handled = none) (st : s.heap.IsKeyIter it d i es.size ep) (hg : s.heap.get? d = some od) (ht : od.data = .dict es ep) (ge : es.size ≤ i)
   (q : ∀ h', Heap.ExtBut it s.heap h' → Q none { s with heap := h' }) : wpAny (model prog w) A (pyNext (.ref it)) Q E s := by
 obtain ⟨o, ho, hc, hf⟩ := id st
 have ty := st.typeIs
 unfold pyNext
 refine wpAny_bind (wpAny_attempt (wpAny_callSpecial?_slot (name := Str.ofString "__next__") ty F.slot_dict_keyiterator_next (wpAny_call_entry F.slot_dict_keyiterator_next ty F.entry_dict_keyiterator_next ?_ (F.args_dict_keyiterator_next_1 _))))
 refine wpAny_bind (wpAny_pure (wpAny_bind (wpAny_bind ?_)))
 first | refine wpAny_bind (wpAny_typeNameOfWhole_keyiter ty (wpAny_pure (wpAny_bind (wpAny_fieldsOf ho hf ?_)))) | refine wpAny_bind (wpAny_typeNameOf_keyiter ty (wpAny_pure (wpAny_bind (wpAny_fieldsOf ho hf ?_))))
 simp only [show Builtin.Dict_items.ownsTuple "dict_keyiterator" = false by decide, Bool.false_eq_true, if_false]
 show wpAny _ _ (if (Value.ref d == Value.none) = true then _ else _) _ _ s
 rw [if_neg (show ¬ ((Value.ref d == Value.none) = true) from Bool.false_ne_true)]
 refine wpAny_bind (wpAny_pure (wpAny_bind (wpAny_dictEntries hg ht ?_)))
 rw [if_neg (by simp)]
 refine wpAny_bind (wpAny_pure (wpAny_bind (wpAny_dictEpoch hg ht ?_)))
 rw [if_neg (by simp)]
 refine wpAny_pure ?_
 simp only [show ¬ ((i : Int) < 0) from by omega, if_false, Int.toNat_natCast, Array.getElem?_eq_none ge]
 refine wpAny_bind ?_
 first | refine wpAny_bind (wpAny_typeNameOfWhole_keyiter ty (wpAny_pure ?_)) | refine wpAny_bind (wpAny_typeNameOf_keyiter ty (wpAny_pure ?_))
 show wpAny _ _ (setField (.ref it) 0 .none >>= _) _ _ s
 refine wpAny_bind (wpAny_setField ho hf (by simp) ?_)
 show wpAny _ _ (newExc (.type "StopIteration") [] >>= _) _ _ _
 refine wpAny_bind ?_
 simp only [newExc, newTuple]
 refine wpAny_bind (wpAny_newObj_type ?_ (by size_fits))
 refine wpAny_bind (m := firstArgMember _ _) (wpAny_of_eq (a := Value.none) (by first | rfl | (simp only [firstArgMember]; rfl)) (wpAny_newObj_type ?_ (by size_fits)))
 simp only [raiseNew]
 refine wpAny_bind (wpAny_handled ?_)
 rw [show A.in1.handled = none from hh]
 refine wpAny_bind (wpAny_pure (wpAny_throw ?_))
 refine wpAny_bind (wpAny_isInstance (b := true) (T := "StopIteration") ⟨_, Heap.get?_push_size _ rfl, rfl⟩ isSubtype_stop ?_)
 exact wpAny_pure (q _ (((Heap.SameBut.update ..).extBut.push _).push _))
end
def Itd (a : Addr) (kvs : List (List Key × V)) (o : Obj) : It :=
 ⟨fun i H => H a = some (.frz o (.dT kvs)) ∧ i < kvs.length, fun i H x H' => H' = H ∧ ∃ b k v, x = .ref b ∧ kvs[i]? = some (k, v) ∧ H b = some (.tup (k.map kV)), fun i H => H a = some (.frz o (.dT kvs)) ∧ kvs.length ≤ i⟩
theorem KT.at {H : Hp} {kvs : List (List Key × V)} {xs : List (List Key × Addr × Value)} (r : KT H kvs xs) {i : Nat} {p : List Key × V} (e : kvs[i]? = some p) : ∃ q, xs[i]? = some q ∧ p.1 = q.1 ∧ H q.2.1 = some (.tup (p.1.map kV)) ∧ RelV p.2 q.2.2 := by
 induction r generalizing i with
 | nil => simp at e
 | cons h _ ih =>
   cases i with
   | zero => simp at e; subst e; exact ⟨_, rfl, h⟩
   | succ i => simpa using ih (by simpa using e)
theorem turn_dt {P : Program} {w : World} {K : PySem.W.Frag} {tg : Expr} (a it : Addr) (kvs : List (List Key × V)) (o : Obj) :
   Turn P w K tg (Itd a kvs o) [it] it (fun i h => ∃ es ep, o.data = .dict es ep ∧ h.IsKeyIter it a i es.size ep) where
 mem := by simp
 obj := fun i h st b hb => by
   have e : b = it := by simpa using hb
   subst e
   obtain ⟨_, _, _, o, e, c, d⟩ := st
   exact ⟨o, e, fun v z => by rw [d] at z; cases z⟩
 keep := fun i h h' ⟨es, ep, e, st⟩ k => ⟨es, ep, e, st.at fun o e => k it (by simp) o e⟩
 item := by
   intro X hP hw hK hc i pins s σ H E I hf st hg
   subst hP hw hK
   obtain ⟨ha, hi⟩ := hg
   obtain ⟨es, ep, ed, st⟩ := st
   obtain ⟨ho, _, _, xs, r, o', es', ep', h1, h2, h3, h4, _⟩ := (show ObjOk X.prog X.w H s.heap a (.frz o (.dT kvs)) from I.hok a _ ha)
   rw [ho] at h1; cases h1
   rw [ed] at h3; cases h3
   obtain ⟨f0, f1, f2, f3, f4, f5⟩ := hf it (by simp)
   have hk : kvs[i]? = some kvs[i] := by simp [hi]
   obtain ⟨q, q1, q2, q3, q4⟩ := KT.at r hk
   have he : es.toList[i]? = some (entryOfKey (tupleKind (mixKind X.prog X.w)) q) := by rw [h4, List.getElem?_map, q1]; rfl
   obtain ⟨hl, he'⟩ := List.getElem?_eq_some_iff.mp he
   have lt : i < es.size := by simpa using hl
   refine es_item st ho ed lt fun h' st' sb => ?_
   have ek : es[i].key = .ref q.2.1 := by
     have : es[i] = entryOfKey (tupleKind (mixKind X.prog X.w)) q := by rw [← he']; simp
     rw [this]; rfl
   rw [ek]
   have I1 : Inv X pins σ H { s with heap := h' } := I.turned (t' := s.toks) (fun b o hb e => (sb.2 b hb).trans e) f0 f1 f3 f4 f5
   obtain ⟨oi, e, c, d⟩ := id st'
   exact ⟨_, rfl, go_of (s := { s with heap := h' }) e c d (by decide) ⟨.ref q.2.1, H, I1, rfl, ⟨rfl, q.2.1, kvs[i].1, kvs[i].2, rfl, hk, q3⟩, ⟨es, ep, ed, st'⟩, fun b hb => (hf b hb).1⟩⟩
 done := by
   intro X hP hw hK hc i pins s σ H E I hf st hg
   subst hP hw hK
   obtain ⟨ha, hi⟩ := hg
   obtain ⟨es, ep, ed, st⟩ := st
   obtain ⟨ho, _, _, xs, r, o', es', ep', h1, h2, h3, h4, _⟩ := (show ObjOk X.prog X.w H s.heap a (.frz o (.dT kvs)) from I.hok a _ ha)
   rw [ho] at h1; cases h1
   rw [ed] at h3; cases h3
   obtain ⟨f0, f1, f2, f3, f4, f5⟩ := hf it (by simp)
   have hl : es.size = kvs.length := by
     have e1 : es.toList.length = xs.length := by rw [h4]; simp
     have e2 := Paired.length r
     simp at e1; omega
   exact es_end (I.ok.hd hc) st ho ed (by omega) fun h' eb => ⟨rfl, I.turned (t' := s.toks) (fun b o hb e => eb b o hb e) f0 f1 f3 f4 f5⟩
 self := fun _ _ _ _ _ ⟨_, _, _, st⟩ h => wpAny_pyIter_keyiter st h
section
variable {X : Cx} {tg : Expr}
theorem Inv.fastT {pins : List (Addr × Obj)} {σ : St} {H : Hp} {s : Shared} {a : Addr} {kvs : List (List Key × V)} (I : Inv X pins σ H s) (e : H a = some (.dT kvs)) : ∃ o, s.heap.get? a = some o ∧ Inv X pins σ (upd H a (.frz o (.dT kvs))) s := by
 obtain ⟨z, y, xs, r, o, es, ep, h1, h2, h3⟩ := (show ObjOk X.prog X.w H s.heap a (.dT kvs) from I.hok a _ e)
 refine ⟨o, h1, ?_⟩
 refine I.write (x := a) (e := a) (h' := s.heap) (t' := s.toks) (by rw [e]; trivial) (.inl rfl) (fun b u _ q => q) ⟨o, h1⟩ ⟨h1, z, y, xs, Paired.mapP r fun p q t => ⟨t.1, ?_, t.2.2⟩, o, es, ep, h1, h2, h3⟩
 rw [uN (ne_of t.2.1 e (by intro h; cases h))]
 exact t.2.1
def iDt (td : TE) : TI := fun σ H R => td σ H fun x H1 => ∃ a kvs, x = .ref a ∧ ((H1 a = some (.dT kvs) ∧ ∀ o, R (Itd a kvs o) (upd H1 a (.frz o (.dT kvs)))) ∨ ∃ o, H1 a = some (.frz o (.dT kvs)) ∧ R (Itd a kvs o) H1)
theorem pi_dt {l : Expr} {td : TE} (hl : PE X l td) : PI X tg l (iDt td) := by
 intro pins s σ H R I h
 refine thn (hl pins s σ H _ I h) fun v s1 ⟨x, H1, I1, r1, q1⟩ => ?_
 obtain ⟨a, kvs, e, q⟩ := q1
 subst e
 cases r1
 have core : ∀ (o : Obj) (H2 : Hp), Inv X pins σ H2 s1 → H2 a = some (.frz o (.dT kvs)) → R (Itd a kvs o) H2 → wpAny (model X.prog X.w) X.A (pyIter (.ref a)) (PIE X pins σ tg R) X.xe s1 := by
   intro o H2 I2 ha q
   obtain ⟨ho, _, y, xs, r, o', es, ep, h1, h2, h3, h4, _⟩ := (show ObjOk X.prog X.w H2 s1.heap a (.frz o (.dT kvs)) from I2.hok a _ ha)
   rw [ho] at h1; cases h1
   refine es_iter y ho h2 h3 ?_
   refine ⟨s1.heap.objs.size, [s1.heap.objs.size], _, _, H2, rfl, I2.kept (t' := s1.toks) fun b o e => Heap.get?_push_of_some _ e, turn_dt a _ kvs o, ⟨es, ep, h3, _, Heap.get?_push_size _ rfl, rfl, rfl⟩, fun b hb => ?_, q⟩
   have e : b = s1.heap.objs.size := by simpa using hb
   subst e
   exact I2.fpOk (Nat.le_refl _) (I2.hok.fresh (Nat.le_refl _))
 rcases q with ⟨ha, q⟩ | ⟨o, ha, q⟩
 · obtain ⟨o, ho, I2⟩ := I1.fastT ha
   exact core o _ I2 uS (q o)
 · exact core o H1 I1 ha q
theorem for_dt {a : Addr} {kvs : List (List Key × V)} {o : Obj} {g : TG} {tb : TS} {D : Ends} {σ : St} {H : Hp} (Pv : Nat → St → Hp → Prop) (h0 : Pv 0 σ H) (hl : ∀ i σ H, i ≤ kvs.length → Pv i σ H → H a = some (.frz o (.dT kvs)))
   (hs : ∀ i k v b σ H, kvs[i]? = some (k, v) → H b = some (.tup (k.map kV)) → Pv i σ H → g (.ref b) σ H fun σ2 H2 => tb { D with nx := Pv (i + 1), ct := Pv (i + 1), bk := D.nx } σ2 H2) (hd : ∀ σ H, Pv kvs.length σ H → D.nx σ H) :
   ∃ W : Nat → Nat → St → Hp → Prop, (∃ m, W 0 m σ H) ∧ ∀ i m σ H, W i m σ H →
     ((Itd a kvs o).stop i H ∧ D.nx σ H) ∨ ((Itd a kvs o).go i H ∧ ∃ N : St → Hp → Prop, (∀ σ' H', N σ' H' → ∃ m', m' < m ∧ W (i + 1) m' σ' H') ∧ ∀ x H', (Itd a kvs o).yld i H x H' → g x σ H' fun σ2 H2 => tb { D with nx := N, ct := N, bk := D.nx } σ2 H2) := by
 refine ⟨fun i m σ H => m = kvs.length - i ∧ i ≤ kvs.length ∧ Pv i σ H, ⟨kvs.length, by simp, Nat.zero_le _, h0⟩, ?_⟩
 rintro i m σ H ⟨rfl, hi, p⟩
 have q := hl i σ H hi p
 by_cases lt : i < kvs.length
 · refine .inr ⟨⟨q, lt⟩, Pv (i + 1), fun σ' H' p' => ⟨kvs.length - (i + 1), by omega, rfl, lt, p'⟩, fun x H' y => ?_⟩
   obtain ⟨rfl, b, k, v, rfl, e, hb⟩ := y
   exact hs i k v b σ _ e hb p
 · have e : i = kvs.length := by omega
   subst e
   exact .inl ⟨⟨q, Nat.le_refl _⟩, hd σ H p⟩
end
section
variable {X : Cx} {k v : Expr} {tk tv : TE} {pos : Pos}
def tDisp1T (tk tv : TE) : TE := fun σ H Q => ∀ p, H p = none → tk σ (upd H p (.dT [])) fun x H1 => tv σ H1 fun y H2 => ∃ ks b, x = .ref b ∧ H2 b = some (.tup (ks.map kV)) ∧ H2 p = some (.dT []) ∧ Q (.ref p) (upd H2 p (.dT [(ks, y)]))
theorem pe_disp1T (hu : X.A.units < cLine) (hk : PE X k tk) (hv : PE X v tv) : PE X (.Dict [some k] [v] pos) (tDisp1T tk tv) := by
 intro pins s σ H Q I q
 have hn := I.hok.fresh (Nat.le_refl s.heap.objs.size)
 have I1 := I.laid (a := s.heap.objs.size) (o := .dT []) (t' := s.toks) (fun _ _ q => Heap.get?_push_of_some _ q) (Nat.le_refl _) (dt_empty s.heap I.big)
 refine wpAny_Dict_any rfl rfl (by simp) (by simp) (pairTrees_cons_walk (thn (hk pins _ σ _ _ I1 (q _ hn)) fun u s1 ⟨x, H1, I1, rx, q1⟩ => thn (hv pins s1 σ H1 _ I1 q1) fun u2 s2 ⟨y, H2, I2, ry, q2⟩ => pairTrees_nil_walk ?_))
 obtain ⟨ks, b, rfl, eb, ep, q3⟩ := q2
 cases (show u = Value.ref b from rx)
 obtain ⟨z, hd, xs, rel, dd⟩ := dt_of I2.hok ep
 cases rel
 unfold storeAll
 rw [List.forIn_cons]
 refine wpAny_bind (wpAny_bind (wpAny_dictSet_heap (v := u2) (by exact hu) (key_of I2.hok eb) dd fun h' dd' hs => wpAny_pure ?_))
 dsimp only
 rw [List.forIn_nil]
 refine wpAny_pure ⟨.ref s.heap.objs.size, _, ?_, rfl, q3⟩
 obtain ⟨o, es, e2, hq, h2, h3, h4, _, h5⟩ := dd'
 refine d_write I2 (by rw [ep]; exact True.intro) hs ⟨o, hq⟩ ⟨by rw [sizeLine_eq]; simp, hd, _, .cons ⟨rfl, ?_, ry⟩ .nil, o, es, e2, hq, h2, h3, h4, h5⟩
 rw [uN (ne_of eb ep (fun z => nomatch z))]
 exact eb
end
section
variable {P : Program} {w : World} {A : Around} {I d : Addr} {od : Obj} {es : Array DictEntry} {ep : Nat}
theorem walks_es (hh : A.handled = none) (hne : d ≠ I) (ht : od.data = .dict es ep) :
   Walks P w A I [I, d] [I] es.size (fun i v => ∃ h : i < es.size, v = es[i].key) (fun i h => h.IsKeyIter I d i es.size ep ∧ h.get? d = some od) where
 sub := fun b hb => by simp at hb; simp [hb]
 frame := fun _ _ _ st hk => ⟨st.1.at fun o e => hk I (by simp) o e, hk d (by simp) od st.2⟩
 item := fun i s Q E hi st hQ => es_item st.1 st.2 ht hi fun h' st' sb => hQ _ h' s.toks ⟨hi, rfl⟩ ⟨st', (sb.2 d hne).trans st.2⟩ fun b o hb e => (sb.2 b fun z => hb (by simp [z])).trans e
 done := fun s Q E st hQ => es_end hh st.1 st.2 ht (Nat.le_refl _) fun h' he => hQ h' s.toks fun b o hb e => he b o (fun z => hb (by simp [z])) e
 self := fun _ _ _ _ st hQ => wpAny_pyIter_keyiter st.1 hQ
theorem src_es (nd : (d == sysModules) = false) (hx : od.ExactDict) (ht : od.data = .dict es ep) : PySem.W.KdlSrc P w "dict" d d es.size (fun i v => ∃ h : i < es.size, v = es[i].key) (fun h => h.get? d = some od) where
 type := fun s hm => ⟨od, hm, hx.1⟩
 there := fun h hm => ⟨Heap.lt_size hm, Heap.lt_size hm⟩
 keep := fun h h' hm hk => hk d (.inl rfl) od hm
 notList := by decide
 notTuple := by decide
 hint := fun _ _ s _ hm hq => PySem.W.kdl_hint_dict (⟨od, hm, hx.1⟩ : s.TypeIs (.ref d) "dict") hq
 iter := fun A s hh hm => ⟨_, _, (fun E Q q => es_iter nd hm hx ht q), walks_es hh (Nat.ne_of_lt (Heap.lt_size hm)) ht, ⟨⟨_, Heap.get?_push_size _ rfl, rfl, rfl⟩, Heap.get?_push_of_some _ hm⟩⟩
end
section
variable {X : Cx}
def KeysT (H : Hp) : List V → List (List Key × V) → Prop := Paired fun y kv => ∃ b, y = .ref b ∧ H b = some (.tup (kv.1.map kV))
theorem keys_of {H : Hp} : ∀ {kvs : List (List Key × V)} {xs : List (List Key × Addr × Value)}, KT H kvs xs → KeysT H (xs.map fun q => V.ref q.2.1) kvs
 | _, _, .nil => .nil
 | _, _, .cons h t => .cons ⟨_, rfl, h.2.1⟩ (keys_of t)
theorem vals_refs : ∀ (xs : List (List Key × Addr × Value)), Vals (xs.map fun q => V.ref q.2.1) (xs.map fun q => Value.ref q.2.1)
 | [] => .nil
 | _ :: xs => .cons rfl (vals_refs xs)
theorem call_list_dt (hc : X.calm = true) : CallR X (.type "list") (fun xs H Q => ∃ a kvs, xs = [.ref a] ∧ Rd H a (.dT kvs) ∧ ∀ l ys, H l = none → KeysT H ys kvs → Q (.ref l) (upd H l (.lst ys))) := by
 intro pins s σ H xs us Q I r h
 obtain ⟨a, kvs, rfl, ha, q⟩ := h
 obtain ⟨u, rfl, rx⟩ := vals1 r
 cases rx
 obtain ⟨z, y, ts, rel, o, es, ep, h1, h2, h3, h4, h5⟩ := (show ObjOk X.prog X.w H s.heap a (.dT kvs) from rd_of I.hok ha)
 have e1 : es.size = ts.length := by have := congrArg List.length h4; simpa using this
 have e2 := Paired.length rel
 refine PySem.W.kdl_call (src_es (P := X.prog) (w := X.w) y h2 h3) (I.ok.hd hc) h1 (by omega) fun h' tk acc c hk hS hacc => ?_
 refine ⟨.ref s.heap.objs.size, _, I.laid (t' := tk) (o := .lst (ts.map fun q => V.ref q.2.1)) hk (Nat.le_refl _) ⟨by simp; omega, acc.toList, c, ?_, by simpa using hS⟩, rfl, q _ _ I.fresh (keys_of rel)⟩
 have e3 : acc.toList = ts.map fun q => Value.ref q.2.1 := by
   refine List.ext_getElem? fun i => ?_
   by_cases hi : i < ts.length
   · have ha : i < acc.size := by have := hacc.1; omega
     obtain ⟨hj, e⟩ := hacc.2 i acc[i] (by simp [ha])
     have e4 : es.toList[i]? = some (entryOfKey (tupleKind (mixKind X.prog X.w)) ts[i]) := by rw [h4]; simp [hi]
     have e5 : es[i] = entryOfKey (tupleKind (mixKind X.prog X.w)) ts[i] := by
       obtain ⟨_, e6⟩ := List.getElem?_eq_some_iff.mp e4
       simpa using e6
     simp only [Array.getElem?_toList, List.getElem?_map]
     rw [Array.getElem?_eq_getElem ha, e, e5, List.getElem?_eq_getElem hi]
     rfl
   · have ha : acc.size ≤ i := by have := hacc.1; omega
     rw [List.getElem?_eq_none (by simpa using ha), List.getElem?_eq_none (by simpa using hi)]
 rw [e3]
 exact vals_refs ts
end
section
variable {P : Program} {w : World} {H : Hp} {h h' : Heap} {a : Addr} {o : HO}
theorem ObjOk.there : ∀ {o : HO}, ObjOk P w H h a o → ∃ ob, h.get? a = some ob
 | .lst _, ⟨_, _, _, _, e⟩ => ⟨_, e⟩
 | .tup _, ⟨_, _, _, _, e, _⟩ => ⟨_, e⟩
 | .dK _, ⟨_, _, _, _, _, _, _, e, _⟩ => ⟨_, e⟩
 | .dT _, ⟨_, _, _, _, _, _, _, e, _⟩ => ⟨_, e⟩
 | .set _ _, ⟨_, _, _, _, e, _⟩ => ⟨_, e⟩
 | .ins _ _ _, ⟨_, _, _, e, _⟩ => ⟨_, e⟩
 | .own _, ⟨_, e⟩ => ⟨_, e⟩
 | .xd _, ⟨_, ⟨_, _, _, e, _⟩, _⟩ => ⟨_, e⟩
 | .rng _ _, ⟨_, _, _, e⟩ => ⟨_, e⟩
 | .frz _ _, ⟨e, _⟩ => ⟨_, e⟩
 | .tbl _, e => ⟨_, e⟩
 | .met _ _, e => ⟨_, e⟩
 | .ext _, ⟨_, e, _⟩ => e
theorem HOk.noneAt (x : HOk P w H h) (na : h.get? a = none) : H a = none := by
 cases q : H a with
 | none => rfl
 | some u => obtain ⟨_, e⟩ := (x a u q).there; rw [na] at e; cases e
theorem HOk.laidAt (x : HOk P w H h) (k : ∀ b u, h.get? b = some u → h'.get? b = some u) (na : h.get? a = none) (new : ObjOk P w (upd H a o) h' a o) : HOk P w (upd H a o) h' := fun b u e => by
 have hn := x.noneAt na
 by_cases hb : b = a
 · subst hb
   rw [uS] at e
   cases e
   exact new
 · rw [uN hb] at e
   exact (x b u e).stay (fun c v _ q => k c v q) (fun c q => by rw [uN (nN q hn), q]) fun c xs q => by rw [uN (nN q hn), q]
theorem Un.laidAt {fs ex : List Addr} (k : ∀ b u, h.get? b = some u → h'.get? b = some u) (na : h.get? a = none) (hn : H a = none) : Un fs ex H (upd H a o) h h' :=
 ⟨fun b u q _ _ _ => k b u q, fun b u q _ _ _ => ⟨u.slots, k b u q⟩, fun b u q n _ => by rw [uN (fun z => by subst z; rw [na] at q; cases q)]; exact n, fun b u q _ => ⟨u, k b u q⟩,
   fun b xs q => by rw [uN (nN q hn), q], fun b u xs q => by rw [uN (nN q hn), q], fun b ps q => ⟨#[], by rw [uN (nN q hn), q]; simp⟩⟩
end
theorem Inv.laidAt {X : Cx} {pins : List (Addr × Obj)} {σ : St} {H : Hp} {s : Shared} {h' : Heap} {a : Addr} {o : HO} {t' : Nat} (I : Inv X pins σ H s) (k : ∀ b u, s.heap.get? b = some u → h'.get? b = some u) (na : s.heap.get? a = none)
   (new : ObjOk X.prog X.w (upd H a o) h' a o) : Inv X pins σ (upd H a o) { s with heap := h', toks := t' } := I.un (Un.laidAt k na (I.hok.noneAt na)) (I.hok.laidAt k na new)
section
variable {X : Cx}
end
end L2
namespace L2
open PySem PySem.Spec PyProof.Rows
section
variable {prog : Program} {w : World} {A : Around} {E : Value → Shared → Prop} {s : Shared} {T : String} {it S : Addr} {fp : List Addr} {n : Nat} {P : Nat → Value → Prop} {St : Nat → Heap → Prop}
theorem it_extend {R : Result → Shared → Prop} {res : Value} {c : Nat} (W : Walks prog w A.in1 it fp [it] n P St) (ty : s.TypeIs (.ref it) T) (nl : (Value.type T == Value.type "list") = false) (nt : (Value.type T == Value.type "tuple") = false)
   (hint : ∀ (E : Value → Shared → Prop) (Q : Bool → Shared → Prop), Q false s → wpAny (model prog w) A.in1 (Builtin.List.listLengthHint (.ref it)) Q E s) (st : St 0 s.heap) (hf : S ∉ fp) (hn : n ≤ sizeLine)
   (hS : s.heap.get? S = some { cls := .type "list", data := .seq #[] c })
   (q : ∀ h' tk acc c', (∀ b o, b ≠ S → b ≠ it → s.heap.get? b = some o → h'.get? b = some o) → h'.get? S = some { cls := .type "list", dict := none, data := .seq acc c', slots := #[] } → ItemsOf P acc n → R (.ok (.ret res)) { s with heap := h', toks := tk }) :
   wpAny (model prog w) A.in1 (Builtin.List.listExtendWith (.ref S) (.ref it) res)
     (fun fin s' => match fin with | .done f => R (.ok f) s' | .again c' => c'.quiet = true ∧ codeAny (model prog w) A c' R s') (fun e s' => R (.error e) s') s := by
 have hSit : S ≠ it := fun z => hf (z ▸ W.sub it (by simp))
 have key : ∀ (h : Heap) (c₁ tk : Nat), St 0 h → (∀ b o, b ≠ S → s.heap.get? b = some o → h.get? b = some o) → h.get? S = some { cls := .type "list", data := .seq #[] c₁ } →
     codeAny (model prog w) A (.builtin "list.extend.loop" ⟨[.ref S, .ref it, res], []⟩) R { s with heap := h, toks := tk } := by
   intro h c₁ tk st' hk hS'
   refine codeAny_extend_loopS W.toS hn S hf res n 0 _ #[] c₁ rfl (Nat.zero_le _) st' hS' (ItemsOf.nil _) fun s' acc c' hm hA hacc => ?_
   rw [Moved.eq_with hm]
   exact q s'.heap s'.toks acc c' (fun b o h1 h2 e => hm.heap b o (by simp [h1, h2]) (hk b o h1 e)) hA hacc
 unfold Builtin.List.listExtendWith
 refine wpAny_bind (wpAny_typeOf (T := T) ty ?_)
 simp only [show Builtin.List.listSameRef (.ref S) (.ref it) = false by simp [Builtin.List.listSameRef, hSit], nl, nt, Bool.or_false, Bool.false_eq_true, if_false]
 refine wpAny_bind (W.self 0 s _ _ st (wpAny_bind (wpAny_holding (hint _ _ ?_))))
 refine wpAny_ite_split (fun _ => wpAny_bind (wpAny_rule (wpAny_bind ?_))) (fun _ => wpAny_pure ⟨plainId_quiet PySem.F.plain_extend_loop _, key _ c _ st (fun b o _ e => e) hS⟩)
 refine (show wpAny _ _ (updateSeq S (·.push .none) >>= fun _ => updateSeq S (·.pop)) _ _ _ from wpAny_bind (wpAny_updateSeq hS rfl ?_))
 have h2 := Heap.get?_update_self (Obj.mapSeq (·.push Value.none)) hS rfl
 refine wpAny_updateSeq (hz := by seq_fits) h2 rfl (wpAny_pure ⟨plainId_quiet PySem.F.plain_extend_loop _, key _ _ _ (W.frame 0 _ _ st fun b hb o e => ?_) (fun b o hb e => ?_) (Heap.get?_update_self (Obj.mapSeq (·.pop)) h2 rfl)⟩)
 · have hbS : S ≠ b := fun z => hf (z ▸ hb)
   exact (Heap.get?_update_other _ _ hbS).trans ((Heap.get?_update_other _ _ hbS).trans e)
 · exact (Heap.get?_update_other _ _ (Ne.symm hb)).trans ((Heap.get?_update_other _ _ (Ne.symm hb)).trans e)
theorem it_list {Q : Value → Shared → Prop} (W : Walks prog w A.in1.in1 it fp [it] n P St) (ty : s.TypeIs (.ref it) T) (nl : (Value.type T == Value.type "list") = false) (nt : (Value.type T == Value.type "tuple") = false)
   (hint : ∀ (s' : Shared) (E : Value → Shared → Prop) (Q : Bool → Shared → Prop), s'.TypeIs (.ref it) T → Q false s' → wpAny (model prog w) A.in1.in1 (Builtin.List.listLengthHint (.ref it)) Q E s') (st : St 0 s.heap) (hf : ∀ b ∈ fp, b < s.heap.objs.size) (hn : n ≤ sizeLine)
   (q : ∀ h' tk acc c', (∀ b o, b ≠ it → s.heap.get? b = some o → h'.get? b = some o) → h'.get? s.heap.objs.size = some { cls := .type "list", dict := none, data := .seq acc c', slots := #[] } → ItemsOf P acc n → Q (.ref s.heap.objs.size) { s with heap := h', toks := tk }) :
   wpAny (model prog w) A (call (.type "list") [.ref it]) Q E s := by
 refine callType_codes (Q₁ := fun obj s₁ => obj = .ref s.heap.objs.size ∧ s₁ = { s with heap := s.heap.push { cls := .type "list", data := .seq #[] } }) PySem.F.called_list (PySem.F.typeCall_list_1 _) PySem.F.entry_list_init (code_list_new _ ⟨rfl, rfl⟩) fun obj s₁ h₁ => ?_
 obtain ⟨rfl, rfl⟩ := h₁
 have hS : (s.heap.push { cls := .type "list", data := .seq #[] }).get? s.heap.objs.size = some { cls := .type "list", data := .seq #[] } := Heap.get?_push_size _ rfl
 have nf : s.heap.objs.size ∉ fp := fun z => absurd (hf _ z) (Nat.lt_irrefl _)
 refine ⟨⟨_, hS, rfl⟩, PySem.F.args_list_init_2 _ _, ?_⟩
 have hSit : s.heap.objs.size ≠ it := fun z => nf (z ▸ W.sub it (by simp))
 refine (show wpAny _ _ (do let old ← Builtin.List.listItems (.ref s.heap.objs.size); Builtin.List.listUpdate (.ref s.heap.objs.size) (fun _ => #[]); letGo old.toList.reverse; Builtin.List.listExtendWith (.ref s.heap.objs.size) (.ref it) .none) _ _ _ from wpAny_bind ?_)
 unfold Builtin.List.listItems
 refine wpAny_bind (wpAny_seqItems hS rfl (wpAny_pure ?_))
 refine (show wpAny _ _ (updateSeq s.heap.objs.size (fun _ => #[]) >>= fun _ => letGo (#[] : Array Value).toList.reverse >>= fun _ => Builtin.List.listExtendWith (.ref s.heap.objs.size) (.ref it) .none) _ _ _ from wpAny_bind (wpAny_updateSeq hS rfl ?_))
 have h2 := Heap.get?_update_self (Obj.mapSeq (fun _ => (#[] : Array Value))) hS rfl
 have k2 : ∀ b o, s.heap.get? b = some o → ((s.heap.push { cls := .type "list", data := .seq #[] }).update s.heap.objs.size (Obj.mapSeq (fun _ => (#[] : Array Value)))).get? b = some o :=
   fun b o e => (Heap.get?_update_other _ _ (Nat.ne_of_gt (Heap.lt_size e))).trans (Heap.get?_push_of_some _ e)
 have ty2 : ({ s with heap := (s.heap.push { cls := .type "list", data := .seq #[] }).update s.heap.objs.size (Obj.mapSeq (fun _ => (#[] : Array Value))) } : Shared).TypeIs (.ref it) T := by
   obtain ⟨o, e, c⟩ := (show ∃ o, s.heap.get? it = some o ∧ o.cls = .type T from ty)
   exact ⟨o, k2 it o e, c⟩
 refine wpAny_bind (wpAny_letGo (it_extend (A := A.in1) W ty2 nl nt (fun E Q => hint _ E Q ty2) (W.frame 0 _ _ st fun b _ o e => k2 b o e) nf hn h2 fun h' tk acc c' hk hA hacc => ?_))
 exact ⟨rfl, q h' tk acc c' (fun b o hb e => hk b o (Nat.ne_of_lt (Heap.lt_size e)) hb (k2 b o e)) hA hacc⟩
theorem hint_rev {Q : Bool → Shared → Prop} (ty : s.TypeIs (.ref it) "list_reverseiterator") (h : Q false s) : wpAny (model prog w) A (Builtin.List.listLengthHint (.ref it)) Q E s := by
 unfold Builtin.List.listLengthHint
 have l1 : typeLookup (.type "list_reverseiterator") "__len__" = pure none := by rw [typeLookup_type, builtinLookup_eq_fast]; kernel_rfl
 have l2 : typeLookup (.type "list_reverseiterator") "__length_hint__" = pure (some (.builtin "list_reverseiterator.__length_hint__")) := by rw [typeLookup_type, builtinLookup_eq_fast]; kernel_rfl
 refine wpAny_bind (wpAny_specialOf ty l1 ?_)
 wp_delta
 refine wpAny_ite_split (fun z => absurd z (by decide)) (fun _ => ?_)
 refine wpAny_ite_split (fun z => absurd z (by decide)) (fun _ => ?_)
 refine wpAny_bind (wpAny_specialOf ty l2 ?_)
 generalize hid : ("list_reverseiterator.__length_hint__" : String) = id0
 wp_delta
 rw [show splitId id0 = some ("list_reverseiterator", "__length_hint__") from by subst hid; decide +kernel]
 subst hid
 refine wpAny_bind (wpAny_isInstance (b := true) (T := "list_reverseiterator") ty (by rw [isSubtype_type]; kernel_rfl) ?_)
 refine wpAny_ite_split (fun z => absurd z (by decide)) (fun _ => ?_)
 refine wpAny_ite_split (fun _ => ?_) (fun z => absurd (by decide +kernel) z)
 refine wpAny_ite_split (fun z => absurd z (by decide)) (fun _ => wpAny_pure h)
end
theorem vals_reverse : ∀ {xs : List V} {us : List Value}, Vals xs us → Vals xs.reverse us.reverse
 | _, _, .nil => .nil
 | _, _, .cons r t => by rw [List.reverse_cons, List.reverse_cons]; exact (vals_reverse t).append (.cons r .nil)
section
variable {X : Cx}
def tRevL (K : PySem.W.Frag) (te : TE) : TE := fun σ H Q => te σ H fun x H1 => ∃ a xs, x = .ref a ∧ SqL K H1 a xs ∧ ∀ l, H1 l = none → Q (.ref l) (upd H1 l (.lst xs.reverse))
theorem pe_revL {e : Expr} {te : TE} {p p' pos pos' : Pos} (hc : X.calm = true) (hg : Gl X "list") (hm : X.mg "list" = none) (hg' : Gl X "reversed") (hm' : X.mg "reversed" = none) (he : PE X e te)
   (hs : starEach [e] X.env = (false, eval e X.env) :: starEach [] X.env := by rfl)
   (hs2 : starEach [Expr.Call (.Name "reversed" p') [e] [] pos'] X.env = (false, eval (.Call (.Name "reversed" p') [e] [] pos') X.env) :: starEach [] X.env := by rfl)
   (hv : bootBuiltins "list" = some (.type "list") := by decide +kernel) (hv' : bootBuiltins "reversed" = some (.type "reversed") := by decide +kernel) :
   PE X (.Call (.Name "list" p) [.Call (.Name "reversed" p') [e] [] pos'] [] pos) (tRevL X.K te) := by
 intro pins s σ H Q I h
 refine wpAny_Call_Name_kw (ld_blt I hg hm hv (PyProof.Rows.callWith_type1 ?_ hs2))
 rw [hs2]
 refine Calls.spliced_cons (wpAny_Call_Name_kw (ld_blt I hg' hm' hv' (PyProof.Rows.callWith_type1 ?_ hs)))
 rw [hs]
 refine Calls.spliced_cons (thn (he pins s σ H _ I h) fun u s1 ⟨x, H1, I1, r1, a, xs, e1, hl, q⟩ => Calls.spliced_nil ?_)
 subst e1
 cases r1
 obtain ⟨its, rv, pl, hz⟩ := I1.list hl
 refine call_reversed_list pl.isList (Calls.spliced_nil ?_)
 have lt : a < s1.heap.objs.size := let ⟨_, e, _⟩ := pl.isList; Heap.lt_size e
 have hlen := rv.length
 have W := Walks.listRev (prog := X.prog) (w := X.w) (A := X.A.in1.in1) (I1.ok.hd hc) s1.heap.objs.size a (Nat.ne_of_lt lt) its.toArray
 refine it_list (s := { s1 with heap := s1.heap.push (revObj a ((its.toArray.size : Int) - 1)) }) W ⟨_, Heap.get?_push_size _ rfl, rfl⟩ (by decide) (by decide) (fun s' E Q t q => hint_rev t q) ⟨Nat.zero_le _, ⟨_, Heap.get?_push_size _ rfl, rfl, by simp [revObj]⟩, pl.isList.at fun o e => Heap.get?_push_of_some _ e⟩
   (fun b hb => ?_) (by rw [List.size_toArray]; omega) fun h' tk acc c' hk hA hacc => ?_
 · rw [size_push']
   rcases List.mem_cons.mp hb with z | z
   · rw [z]; exact Nat.lt_succ_self _
   · rw [List.mem_singleton.mp z]; exact Nat.lt_succ_of_lt lt
 · have k2 : ∀ b o, s1.heap.get? b = some o → h'.get? b = some o := fun b o e => hk b o (Nat.ne_of_lt (Heap.lt_size e)) (Heap.get?_push_of_some _ e)
   have sz : (s1.heap.push (revObj a ((its.toArray.size : Int) - 1))).objs.size = s1.heap.objs.size + 1 := size_push' ..
   have na : s1.heap.get? (s1.heap.push (revObj a ((its.toArray.size : Int) - 1))).objs.size = none := by
     cases z : s1.heap.get? (s1.heap.push (revObj a ((its.toArray.size : Int) - 1))).objs.size with
     | none => rfl
     | some o => exact absurd (Heap.lt_size z) (by rw [sz]; exact Nat.not_lt.mpr (Nat.le_succ _))
   have ea : acc.toList = its.reverse := by
     refine List.ext_getElem? fun i => ?_
     have h1 : acc.size = its.length := by have := hacc.1; simpa using this
     by_cases hi : i < its.length
     · have e : its[its.length - 1 - i]? = some (acc[i]'(by omega)) := by simpa using hacc.2 i (acc[i]'(by omega)) (by simp [h1, hi])
       rw [List.getElem?_reverse hi, e, Array.getElem?_toList, Array.getElem?_eq_getElem (by omega)]
     · rw [List.getElem?_eq_none (by simp; omega), List.getElem?_eq_none (by simp; omega)]
   refine ⟨.ref _, _, I1.laidAt (t' := tk) (o := .lst xs.reverse) k2 na ⟨by simp; omega, acc.toList, c', ?_, by rw [Array.toArray_toList]; exact hA⟩, rfl, q _ (I1.hok.noneAt na)⟩
   rw [ea]
   exact vals_reverse rv
end
end L2
namespace L2
open PySem PySem.Spec PyProof.Rows
section
variable {X : Cx}
inductive I_maxL (K : PySem.W.Frag) (xs : List V) (H : Hp) (Q : VK) : Prop where
 | mk (a : Addr) (ns : List Int) (h0 : xs = [.ref a]) (h1 : SqL K H a (ns.map V.int)) (h2 : 0 < ns.length) (h3 : ∀ M, M ∈ ns → (∀ x ∈ ns, x ≤ M) → Q (.int M) H) : I_maxL K xs H Q
theorem call_maxL (hc : X.calm = true) : CallR X (.builtin "max") (I_maxL X.K) := by
 intro pins s σ H xs us Q I r h
 obtain ⟨a, ns, rfl, hl, hne, q⟩ := h
 obtain ⟨u, rfl, rx⟩ := vals1 r
 cases rx
 obtain ⟨its, rv, pl, _⟩ := I.list hl
 have hi := intsAre_of rv
 obtain ⟨ps, e⟩ := hi.allInts.items
 have en : ns = ps.toList.map (·.1) := by rw [← hi.numsOf, ← nums_intItems, ← e]
 have sz : 0 < ps.size := by rw [en] at hne; simpa using hne
 have pl' := pl.isList
 rw [e] at pl'
 refine max_intList (I.ok.hd hc) pl' sz fun v h' tk hv hk => ?_
 obtain ⟨t, rfl⟩ := intItems_at hv
 obtain ⟨h1, h2⟩ := argBest_gt (numAt ps) (ps.size - 1)
 refine ⟨.int _, H, I.kept (t' := tk) fun b o e => hk b o e, ⟨t, rfl⟩, q _ ?_ fun x hx => ?_⟩
 · rw [en, numAt_eq]
   exact getD_mem (by rw [List.length_map, Array.length_toList]; exact Nat.lt_of_le_of_lt h1 (Nat.sub_lt sz Nat.one_pos))
 · rw [en] at hx
   obtain ⟨j, hj, rfl⟩ := mem_getD hx
   rw [← numAt_eq]
   exact h2 j (by simp at hj; omega)
inductive I_rngL (Q : VK) (vs : List V) (H : Hp) : Prop where
 | mk (i j k : Int) (n : Nat) (h0 : vs = [.int i, .int j, .int k]) (h1 : k ≠ 0) (h2 : Builtin.Range.small i j k = true) (h3 : Builtin.Range.rangeSize i j k = n) (h4 : n ≤ 2 ^ 24) (h5 : Builtin.divisionGoesByPylong (j - i) k = false)
   (h6 : ∀ l, H l = none → Q (.ref l) (upd H l (.lst ((List.range n).map fun (m : Nat) => V.int (i + m * k))))) : I_rngL Q vs H
end
end L2
namespace L2
open PySem PySem.Spec PyProof.Rows
def itF (d : Addr) (i n ep : Nat) (x y u v : Value) : Obj := { cls := .type "dict_itemiterator", dict := none, data := .fields #[x, y, .ref d, .int i 0, .int n 0, .int ep 0, u, v], slots := #[] }
def ISt (h : Heap) (it d S : Addr) (i n ep : Nat) : Prop := ∃ x y u v, h.get? it = some (itF d i n ep x y u v) ∧ (x = .none ∨ ∃ (a : Nat) (f : Bool) (oa : Obj), x = rawInt a ∧ y = .bool f ∧ h.get? a = some oa ∧ a ≠ it ∧ a ≠ S)
section
variable {prog : Program} {w : World} {A : Around} {E : Value → Shared → Prop} {s : Shared} {d it S : Addr} {od : Obj} {es : Array DictEntry} {ep i : Nat}
theorem ISt.keep {h h' : Heap} {n : Nat} (x : ISt h it d S i n ep) (hne : it ≠ S) (k : ∀ b o, b ≠ S → h.get? b = some o → h'.get? b = some o) : ISt h' it d S i n ep := by
 obtain ⟨x, y, u, v, e, c⟩ := x
 refine ⟨x, y, u, v, k _ _ hne e, ?_⟩
 rcases c with c | ⟨a, f, oa, c1, c2, c3, c4, c5⟩
 · exact .inl c
 · exact .inr ⟨a, f, oa, c1, c2, k _ _ c5 c3, c4, c5⟩
theorem item_next {Q : Option Value → Shared → Prop} (st : ISt s.heap it d S i es.size ep) (hS : S < s.heap.objs.size) (hg : s.heap.get? d = some od) (ht : od.data = .dict es ep) (lt : i < es.size)
   (q : ∀ h', ISt h' it d S (i + 1) es.size ep → h'.get? s.heap.objs.size = some { cls := .type "tuple", data := .seq #[es[i].key, es[i].val] } → h'.objs.size = s.heap.objs.size + 1 → (∀ b o, b ≠ it → s.heap.get? b = some o → h'.get? b = some o) →
     Q (some (.ref s.heap.objs.size)) { s with heap := h' }) : wpAny (model prog w) A (pyNext (.ref it)) Q E s := by
 obtain ⟨x, y, u, v, he, hx⟩ := st
 have ty : s.TypeIs (.ref it) "dict_itemiterator" := ⟨_, he, rfl⟩
 have li : it < s.heap.objs.size := Heap.lt_size he
 unfold pyNext
 refine wpAny_bind (wpAny_attempt (wpAny_callSpecial?_slot (name := Str.ofString "__next__") ty F.slot_dict_itemiterator_next (wpAny_call_entry F.slot_dict_itemiterator_next ty F.entry_dict_itemiterator_next ?_ (F.args_dict_itemiterator_next_1 _))))
 refine wpAny_bind (wpAny_pure (wpAny_bind (wpAny_bind ?_)))
 first | refine wpAny_bind (wpAny_typeNameOfWhole_itemiter ty (wpAny_pure (wpAny_bind (wpAny_fieldsOf he rfl ?_)))) | refine wpAny_bind (wpAny_typeNameOf_itemiter ty (wpAny_pure (wpAny_bind (wpAny_fieldsOf he rfl ?_))))
 simp only [show Builtin.Dict_items.ownsTuple "dict_itemiterator" = true by decide, if_true]
 refine (show wpAny _ _ (if (Value.ref d == Value.none) = true then _ else _) _ _ _ from ?_)
 rw [if_neg (show ¬ ((Value.ref d == Value.none) = true) from Bool.false_ne_true)]
 refine wpAny_bind (wpAny_pure (wpAny_bind (wpAny_dictEntries hg ht ?_)))
 rw [if_neg (by simp)]
 refine wpAny_bind (wpAny_pure (wpAny_bind (wpAny_dictEpoch hg ht ?_)))
 rw [if_neg (by simp)]
 refine wpAny_pure ?_
 simp only [show ¬ ((i : Int) < 0) from by omega, if_false, Int.toNat_natCast, Array.getElem?_eq_getElem lt]
 refine wpAny_bind ?_
 first | refine wpAny_bind (wpAny_typeNameOfWhole_itemiter ty (wpAny_pure (wpAny_bind (wpAny_isOneOf_itemiter ty ?_)))) | refine wpAny_bind (wpAny_typeNameOf_itemiter ty (wpAny_pure (wpAny_bind (wpAny_isOneOf_itemiter ty ?_))))
 refine (show wpAny _ _ (setField (.ref it) 3 (rawInt ((i : Int) + 1)) >>= _) _ _ _ from wpAny_bind (wpAny_setField_rec he (by simp) fun h1 he1 hs1 => ?_))
 have he1' : h1.get? it = some (itF d (i + 1) es.size ep x y u v) := by
   have e : ((i + 1 : Nat) : Int) = (i : Int) + 1 := by omega
   rw [he1]; unfold itF; rw [e]; simp [rawInt]
 have ty1 : ({ s with heap := h1 } : Shared).TypeIs (.ref it) "dict_itemiterator" := ⟨_, he1', rfl⟩
 refine wpAny_bind (wpAny_holding (wpAny_bind (wpAny_isOneOf_itemiter ty1 (wpAny_bind (wpAny_isOneOf_itemiter ty1 ?_)))))
 refine (show wpAny _ _ (Builtin.Dict_items.pairFromOwner (.ref it) 6 es[i].key es[i].val) _ _ _ from ?_)
 unfold Builtin.Dict_items.pairFromOwner
 refine wpAny_bind (wpAny_newTuple ?_)
 have sz1 : h1.objs.size = s.heap.objs.size := hs1.1
 obtain ⟨h2, e2⟩ : ∃ h2, h2 = h1.push { cls := .type "tuple", data := .seq #[es[i].key, es[i].val] } := ⟨_, rfl⟩
 have he2 : h2.get? it = some (itF d (i + 1) es.size ep x y u v) := by rw [e2]; exact Heap.get?_push_of_some _ he1'
 have t2 : h2.get? s.heap.objs.size = some { cls := .type "tuple", data := .seq #[es[i].key, es[i].val] } := by rw [e2, ← sz1]; exact Heap.get?_push_size _ rfl
 have sz2 : h2.objs.size = s.heap.objs.size + 1 := by rw [e2, Heap.size_push, sz1]
 have k2 : ∀ b o, b ≠ it → s.heap.get? b = some o → h2.get? b = some o := fun b o hb e => by rw [e2]; exact Heap.get?_push_of_some _ ((hs1.2 b hb).trans e)
 dsimp only
 rw [← e2, sz1]
 clear e2 he1 he1' hs1 ty1 sz1
 have fin : ∀ h3 : Heap, ISt h3 it d S (i + 1) es.size ep → Heap.SameBut it h2 h3 → Q (some (.ref s.heap.objs.size)) { s with heap := h3 } := fun h3 st3 sb => q h3 st3 ((sb.2 _ (Nat.ne_of_gt li)).trans t2) (by rw [sb.1, sz2]) fun b o hb e => (sb.2 b hb).trans (k2 b o hb e)
 refine wpAny_bind ?_
 unfold Builtin.Dict_items.ownedTupleIsFree
 rcases hx with rfl | ⟨a, f, oa, rfl, rfl, ha, hai, haS⟩
 · refine wpAny_bind (wpAny_field he2 rfl (x := .none) rfl (wpAny_pure ?_))
   simp only [if_true]
   refine wpAny_bind (wpAny_field he2 rfl (x := u) rfl (wpAny_bind (wpAny_field he2 rfl (x := v) rfl ?_)))
   refine wpAny_bind (wpAny_setField_rec he2 (by simp) fun h3 he3 hs3 => ?_)
   refine wpAny_bind (wpAny_setField_rec he3 (by simp) fun h4 he4 hs4 => ?_)
   refine wpAny_bind (wpAny_setField_rec he4 (by simp) fun h5 he5 hs5 => ?_)
   refine wpAny_bind (wpAny_setField_rec he5 (by simp) fun h6 he6 hs6 => ?_)
   have sb : Heap.SameBut it h2 h6 := ⟨by rw [hs6.1, hs5.1, hs4.1, hs3.1], fun b hb => by rw [hs6.2 b hb, hs5.2 b hb, hs4.2 b hb, hs3.2 b hb]⟩
   refine wpAny_bind (wpAny_letGo (wpAny_pure (wpAny_pure ⟨_, rfl, wpAny_pure (fin h6 ⟨rawInt s.heap.objs.size, .bool false, es[i].key, es[i].val, he6, .inr ⟨s.heap.objs.size, false, _, rfl, rfl, (sb.2 _ (Nat.ne_of_gt li)).trans t2, Nat.ne_of_gt li, Nat.ne_of_gt hS⟩⟩ sb)⟩)))
 · refine wpAny_bind (wpAny_field he2 rfl (x := rawInt a) rfl ?_)
   refine (show wpAny _ _ (loadIfAlive ((a : Int).toNat) >>= _) _ _ _ from ?_)
   rw [Int.toNat_natCast]
   refine wpAny_bind (PySem.W.kdx_alive (k2 a oa hai ha) ?_)
   simp only [Option.isNone_some, Bool.false_eq_true, if_false]
   refine wpAny_bind (wpAny_field he2 rfl (x := .bool f) rfl ?_)
   cases f with
   | true =>
     rw [if_neg (show ¬ ((Value.bool true != Value.bool true) = true) from Bool.false_ne_true)]
     refine wpAny_pure ?_
     simp only [Bool.false_eq_true, if_false]
     exact wpAny_pure (wpAny_pure ⟨_, rfl, wpAny_pure (fin h2 ⟨_, _, _, _, he2, .inr ⟨a, true, oa, rfl, rfl, k2 a oa hai ha, hai, haS⟩⟩ (Heap.SameBut.refl _ _))⟩)
   | false =>
     rw [if_pos (show (Value.bool false != Value.bool true) = true from rfl)]
     refine wpAny_bind (wpAny_setField_rec he2 (by simp) fun h3 he3 hs3 => wpAny_pure ?_)
     simp only [Bool.false_eq_true, if_false]
     exact wpAny_pure (wpAny_pure ⟨_, rfl, wpAny_pure (fin h3 ⟨_, _, _, _, he3, .inr ⟨a, true, oa, rfl, rfl, (hs3.2 a hai).trans (k2 a oa hai ha), hai, haS⟩⟩ hs3)⟩)
theorem item_end {Q : Option Value → Shared → Prop} (hh : A.handled = none) (st : ISt s.heap it d S i es.size ep) (hg : s.heap.get? d = some od) (ht : od.data = .dict es ep) (ge : es.size ≤ i)
   (q : ∀ h', Heap.ExtBut it s.heap h' → Q none { s with heap := h' }) : wpAny (model prog w) A (pyNext (.ref it)) Q E s := by
 obtain ⟨x, y, u, v, he, hx⟩ := st
 have ty : s.TypeIs (.ref it) "dict_itemiterator" := ⟨_, he, rfl⟩
 unfold pyNext
 refine wpAny_bind (wpAny_attempt (wpAny_callSpecial?_slot (name := Str.ofString "__next__") ty F.slot_dict_itemiterator_next (wpAny_call_entry F.slot_dict_itemiterator_next ty F.entry_dict_itemiterator_next ?_ (F.args_dict_itemiterator_next_1 _))))
 refine wpAny_bind (wpAny_pure (wpAny_bind (wpAny_bind ?_)))
 first | refine wpAny_bind (wpAny_typeNameOfWhole_itemiter ty (wpAny_pure (wpAny_bind (wpAny_fieldsOf he rfl ?_)))) | refine wpAny_bind (wpAny_typeNameOf_itemiter ty (wpAny_pure (wpAny_bind (wpAny_fieldsOf he rfl ?_))))
 simp only [show Builtin.Dict_items.ownsTuple "dict_itemiterator" = true by decide, if_true]
 refine (show wpAny _ _ (if (Value.ref d == Value.none) = true then _ else _) _ _ _ from ?_)
 rw [if_neg (show ¬ ((Value.ref d == Value.none) = true) from Bool.false_ne_true)]
 refine wpAny_bind (wpAny_pure (wpAny_bind (wpAny_dictEntries hg ht ?_)))
 rw [if_neg (by simp)]
 refine wpAny_bind (wpAny_pure (wpAny_bind (wpAny_dictEpoch hg ht ?_)))
 rw [if_neg (by simp)]
 refine wpAny_pure ?_
 simp only [show ¬ ((i : Int) < 0) from by omega, if_false, Int.toNat_natCast, Array.getElem?_eq_none ge]
 refine wpAny_bind ?_
 first | refine wpAny_bind (wpAny_typeNameOfWhole_itemiter ty (wpAny_pure ?_)) | refine wpAny_bind (wpAny_typeNameOf_itemiter ty (wpAny_pure ?_))
 refine (show wpAny _ _ (setField (.ref it) 2 .none >>= _) _ _ _ from wpAny_bind (wpAny_setField_rec he (by simp) fun h1 he1 hs1 => ?_))
 refine (show wpAny _ _ (newExc (.type "StopIteration") [] >>= _) _ _ _ from wpAny_bind ?_)
 simp only [newExc, newTuple]
 refine wpAny_bind (wpAny_newObj_type ?_ (by size_fits))
 refine wpAny_bind (m := firstArgMember _ _) (wpAny_of_eq (a := Value.none) (by first | rfl | (simp only [firstArgMember]; rfl)) (wpAny_newObj_type ?_ (by size_fits)))
 simp only [raiseNew]
 refine wpAny_bind (wpAny_handled ?_)
 rw [show A.in1.handled = none from hh]
 refine wpAny_bind (wpAny_pure (wpAny_throw ?_))
 refine wpAny_bind (wpAny_isInstance (b := true) (T := "StopIteration") ⟨_, Heap.get?_push_size _ rfl, rfl⟩ isSubtype_stop ?_)
 exact wpAny_pure (q _ ((hs1.extBut.push _).push _))
theorem items_loop {R : Result → Shared → Prop} {res : Value} {I N0 : Addr} {h1 : Heap} (hh : A.handled = none) (hSI : I ≠ S) (hSN : S < N0) (hIN : I < N0) (dS : d ≠ S) (dI : d ≠ I) (ht : od.data = .dict es ep) (hn : es.size ≤ sizeLine)
   (q : ∀ h' tk acc c, (∀ b o, b ≠ S → b ≠ I → h1.get? b = some o → h'.get? b = some o) → h'.get? S = some { cls := .type "list", dict := none, data := .seq acc c, slots := #[] } → acc.toList = (List.range es.size).map (fun j => Value.ref (N0 + j)) →
     (∀ j (hj : j < es.size), h'.get? (N0 + j) = some { cls := .type "tuple", data := .seq #[es[j].key, es[j].val] }) → R (.ok (.ret res)) { s with heap := h', toks := tk }) :
   ∀ (k i : Nat) (h : Heap) (tk c : Nat) (acc : Array Value), es.size - i = k → i ≤ es.size → ISt h I d S i es.size ep → h.get? d = some od → h.objs.size = N0 + i → (∀ j (hj : j < es.size), j < i → h.get? (N0 + j) = some { cls := .type "tuple", data := .seq #[es[j].key, es[j].val] }) →
     (∀ b o, b ≠ S → b ≠ I → h1.get? b = some o → h.get? b = some o) → h.get? S = some { cls := .type "list", dict := none, data := .seq acc c, slots := #[] } → acc.toList = (List.range i).map (fun j => Value.ref (N0 + j)) →
     codeAny (model prog w) A (.builtin "list.extend.loop" ⟨[.ref S, .ref I, res], []⟩) R { s with heap := h, toks := tk } := by
 intro k
 induction k with
 | zero =>
   intro i h tk c acc hk hi st hg sz tup keep hS hacc
   have e : i = es.size := by omega
   subst e
   refine codeAny_builtin PySem.F.entry_extend_loop ?_
   rw [Around.under_plainId PySem.F.plain_extend_loop _]
   refine (show wpAny _ A.in1 (pyNext (.ref I) >>= _) _ _ _ from wpAny_bind (item_end (s := { s with heap := h, toks := tk }) (A := A.in1) hh st hg ht (Nat.le_refl _) fun h' he => ?_))
   exact wpAny_pure (q h' tk acc c (fun b o h1 h2 e => he b o h2 (keep b o h1 h2 e)) (he S _ hSI.symm hS) hacc fun j hj => he _ _ (Nat.ne_of_gt (Nat.lt_of_lt_of_le hIN (Nat.le_add_right _ _))) (tup j hj hj))
 | succ k ih =>
   intro i h tk c acc hk hi st hg sz tup keep hS hacc
   have lt : i < es.size := by omega
   have la : acc.size = i := by rw [← Array.length_toList, hacc]; simp
   refine codeAny_builtin PySem.F.entry_extend_loop ?_
   rw [Around.under_plainId PySem.F.plain_extend_loop _]
   refine (show wpAny _ A.in1 (pyNext (.ref I) >>= _) _ _ _ from wpAny_bind (item_next (s := { s with heap := h, toks := tk }) (S := S) st (Heap.lt_size hS) hg ht lt fun h' st' t' sz' k' => ?_))
   dsimp only at t' sz' k' ⊢
   have hS' := k' S _ hSI.symm hS
   have up : ∀ b o, b ≠ S → h'.get? b = some o → (h'.update S (Obj.mapSeq (·.push (Value.ref h.objs.size)))).get? b = some o := fun b o hb e => (Heap.get?_update_other _ _ (Ne.symm hb)).trans e
   refine (show wpAny _ A.in1 (updateSeq S (·.push (Value.ref h.objs.size)) >>= _) _ _ _ from wpAny_bind ?_)
   refine wpAny_updateSeq hS' rfl (wpAny_pure ⟨plainId_quiet PySem.F.plain_extend_loop _, ih (i + 1) _ tk _ (acc.push (Value.ref h.objs.size)) (by omega) lt (st'.keep hSI up) (up d od dS (k' d od dI hg)) (by rw [Heap.size_update, sz', sz]; omega) (fun j hj hji => ?_)
     (fun b o h1 h2 e => up b o h1 (k' b o h2 (keep b o h1 h2 e))) (Heap.get?_update_self _ hS' rfl) ?_⟩) (by rw [la]; omega) (by show (acc.push (Value.ref h.objs.size)).size ≤ sizeLine + 1; rw [Array.size_push]; omega)
   · by_cases e : j = i
     · subst e
       refine up _ _ (Nat.ne_of_gt (Nat.lt_of_lt_of_le hSN (Nat.le_add_right _ _))) ?_
       rw [← sz]
       exact t'
     · exact up _ _ (Nat.ne_of_gt (Nat.lt_of_lt_of_le hSN (Nat.le_add_right _ _))) (k' _ _ (Nat.ne_of_gt (Nat.lt_of_lt_of_le hIN (Nat.le_add_right _ _))) (tup j hj (by omega)))
   · rw [Array.toList_push, hacc, List.range_succ, List.map_append, sz]
     rfl
theorem view_iter {vw : Addr} {Q : Value → Shared → Prop} (hv : s.heap.IsItemsView vw d) (hg : s.heap.get? d = some od) (ht : od.data = .dict es ep)
   (q : Q (.ref s.heap.objs.size) { s with heap := s.heap.push (itF d 0 es.size ep .none (.bool false) .none .none) }) : wpAny (model prog w) A (pyIter (.ref vw)) Q E s := by
 obtain ⟨ov, h1, h2, h3⟩ := id hv
 have ty := hv.typeIs
 refine wpAny_pyIter_slot ty F.slot_dict_items_iter (wpAny_call_entry F.slot_dict_items_iter ty F.entry_dict_items_iter ?_ (F.args_dict_items_iter_1 _))
 unfold Builtin.«dict_items.__iter__»
 refine wpAny_bind (wpAny_pure (wpAny_bind ?_))
 unfold Builtin.Dict_items.dictOf
 refine wpAny_bind (wpAny_field h1 h3 (x := .ref d) rfl (wpAny_pure (wpAny_bind ?_)))
 unfold Builtin.Dict_items.newIterator
 refine wpAny_bind (wpAny_dictEntries hg ht (wpAny_bind (wpAny_dictEpoch hg ht ?_)))
 simp only [show Builtin.Dict_items.ownsTuple "dict_itemiterator" = true by decide, if_true]
 refine wpAny_newObj_type (wpAny_pure ⟨_, rfl, "dict_itemiterator", _, ⟨_, Heap.get?_push_size _ rfl, rfl⟩, F.slot_dict_itemiterator_next.lookup, ?_⟩) (by simp [sizeOk, Builtin.Dict_items.ownedTupleFields, sizeLine_eq])
 simpa [rawInt, itF, Builtin.Dict_items.ownedTupleFields] using q
theorem items_list {vw : Addr} {Q : Value → Shared → Prop} (hh : A.handled = none) (hv : s.heap.IsItemsView vw d) (hg : s.heap.get? d = some od) (ht : od.data = .dict es ep) (hn : es.size ≤ sizeLine)
   (q : ∀ h' tk acc c, (∀ b o, s.heap.get? b = some o → h'.get? b = some o) → h'.get? s.heap.objs.size = some { cls := .type "list", dict := none, data := .seq acc c, slots := #[] } → acc.toList = (List.range es.size).map (fun j => Value.ref (s.heap.objs.size + 2 + j)) →
     (∀ j (hj : j < es.size), h'.get? (s.heap.objs.size + 2 + j) = some { cls := .type "tuple", data := .seq #[es[j].key, es[j].val] }) → Q (.ref s.heap.objs.size) { s with heap := h', toks := tk }) :
   wpAny (model prog w) A (call (.type "list") [.ref vw]) Q E s := by
 refine callType_codes (Q₁ := fun obj s₁ => obj = .ref s.heap.objs.size ∧ s₁ = { s with heap := s.heap.push { cls := .type "list", data := .seq #[] } }) PySem.F.called_list (PySem.F.typeCall_list_1 _) PySem.F.entry_list_init (code_list_new _ ⟨rfl, rfl⟩) fun obj s₁ h₁ => ?_
 obtain ⟨rfl, rfl⟩ := h₁
 have hS : (s.heap.push { cls := .type "list", data := .seq #[] }).get? s.heap.objs.size = some { cls := .type "list", data := .seq #[] } := Heap.get?_push_size _ rfl
 refine ⟨⟨_, hS, rfl⟩, PySem.F.args_list_init_2 _ _, ?_⟩
 refine (show wpAny _ _ (do let old ← Builtin.List.listItems (.ref s.heap.objs.size); Builtin.List.listUpdate (.ref s.heap.objs.size) (fun _ => #[]); letGo old.toList.reverse; Builtin.List.listExtendWith (.ref s.heap.objs.size) (.ref vw) .none) _ _ _ from wpAny_bind ?_)
 unfold Builtin.List.listItems
 refine wpAny_bind (wpAny_seqItems hS rfl (wpAny_pure ?_))
 refine (show wpAny _ _ (updateSeq s.heap.objs.size (fun _ => #[]) >>= fun _ => letGo (#[] : Array Value).toList.reverse >>= fun _ => Builtin.List.listExtendWith (.ref s.heap.objs.size) (.ref vw) .none) _ _ _ from wpAny_bind (wpAny_updateSeq hS rfl ?_))
 have h2 := Heap.get?_update_self (Obj.mapSeq (fun _ => (#[] : Array Value))) hS rfl
 obtain ⟨H2, eH2⟩ : ∃ H2, H2 = (s.heap.push { cls := .type "list", data := .seq #[] }).update s.heap.objs.size (Obj.mapSeq (fun _ => (#[] : Array Value))) := ⟨_, rfl⟩
 have k2 : ∀ b o, s.heap.get? b = some o → H2.get? b = some o := fun b o e => by rw [eH2]; exact (Heap.get?_update_other _ _ (Nat.ne_of_gt (Heap.lt_size e))).trans (Heap.get?_push_of_some _ e)
 have sz2 : H2.objs.size = s.heap.objs.size + 1 := by rw [eH2, Heap.size_update, Heap.size_push]
 have ld : d < s.heap.objs.size := Heap.lt_size hg
 have lv : vw < s.heap.objs.size := let ⟨_, e, _⟩ := hv; Heap.lt_size e
 rw [← eH2] at h2 ⊢
 refine wpAny_bind (wpAny_letGo ?_)
 have hv2 : H2.IsItemsView vw d := let ⟨o, e, c⟩ := hv; ⟨o, k2 _ _ e, c⟩
 have ty2 : ({ s with heap := H2 } : Shared).TypeIs (.ref vw) "dict_items" := hv2.typeIs
 unfold Builtin.List.listExtendWith
 refine wpAny_bind (wpAny_typeOf (T := "dict_items") ty2 ?_)
 simp only [show Builtin.List.listSameRef (.ref s.heap.objs.size) (.ref vw) = false by simp [Builtin.List.listSameRef]; exact Nat.ne_of_gt lv, show (Value.type "dict_items" == Value.type "list") = false by decide, show (Value.type "dict_items" == Value.type "tuple") = false by decide, Bool.or_false, Bool.false_eq_true, if_false]
 refine wpAny_bind (view_iter (s := { s with heap := H2 }) hv2 (k2 _ _ hg) ht ?_)
 dsimp only
 obtain ⟨H3, eH3⟩ : ∃ H3, H3 = H2.push (itF d 0 es.size ep .none (.bool false) .none .none) := ⟨_, rfl⟩
 have hI : H3.get? H2.objs.size = some (itF d 0 es.size ep .none (.bool false) .none .none) := by rw [eH3]; exact Heap.get?_push_size _ rfl
 have sz3 : H3.objs.size = s.heap.objs.size + 2 := by rw [eH3, Heap.size_push, sz2]
 have k3 : ∀ b o, H2.get? b = some o → H3.get? b = some o := fun b o e => by rw [eH3]; exact Heap.get?_push_of_some _ e
 rw [← eH3]
 refine wpAny_bind (wpAny_holding (PySem.W.kdx_hint (s := { s with heap := H3 }) (let ⟨o, e, c, _⟩ := hv2; ⟨o, k3 _ _ e, c⟩) ?_))
 have IS : H2.objs.size ≠ s.heap.objs.size := by rw [sz2]; exact Nat.succ_ne_self _
 have key : ∀ (h : Heap) (c tk : Nat), (∀ b o, b ≠ s.heap.objs.size → H3.get? b = some o → h.get? b = some o) → h.objs.size = s.heap.objs.size + 2 → h.get? s.heap.objs.size = some { cls := .type "list", data := .seq #[] c } →
     codeAny (model prog w) A.in1 (.builtin "list.extend.loop" ⟨[.ref s.heap.objs.size, .ref H2.objs.size, .none], []⟩) (wants (fun r s₂ => r = Value.none ∧ Q (.ref s.heap.objs.size) s₂) E) { s with heap := h, toks := tk } := by
   intro h c tk hk hz hL
   refine items_loop (A := A.in1) (R := wants (fun r s₂ => r = Value.none ∧ Q (.ref s.heap.objs.size) s₂) E) (res := .none) (s := s) (h1 := H3) (N0 := s.heap.objs.size + 2) (od := od) hh IS (Nat.lt_succ_of_lt (Nat.lt_succ_self _)) (by rw [sz2]; exact Nat.lt_succ_self _) (Nat.ne_of_lt ld) (by rw [sz2]; exact Nat.ne_of_lt (Nat.lt_succ_of_lt ld)) ht hn (fun h' tk' acc c' k4 e1 e2 e3 => ⟨rfl, ?_⟩) es.size 0 h tk c #[] rfl (Nat.zero_le _)
     ⟨_, _, _, _, hk _ _ IS hI, .inl rfl⟩ (hk _ _ (Nat.ne_of_lt ld) (k3 _ _ (k2 _ _ hg))) hz (fun j _ hj => absurd hj (Nat.not_lt_zero _)) (fun b o h1 _ e => hk b o h1 e) hL rfl
   exact q h' tk' acc c' (fun b o e => k4 b o (Nat.ne_of_lt (Heap.lt_size e)) (by rw [sz2]; exact Nat.ne_of_lt (Nat.lt_succ_of_lt (Heap.lt_size e))) (k3 _ _ (k2 _ _ e))) e1 e2 e3
 have hS3 := k3 _ _ h2
 refine wpAny_ite_split (fun _ => wpAny_bind (wpAny_rule (wpAny_bind ?_))) (fun _ => wpAny_pure ⟨plainId_quiet PySem.F.plain_extend_loop _, key _ _ _ (fun b o _ e => e) sz3 hS3⟩)
 refine (show wpAny _ _ (updateSeq s.heap.objs.size (·.push .none) >>= fun _ => updateSeq s.heap.objs.size (·.pop)) _ _ _ from wpAny_bind (wpAny_updateSeq hS3 rfl ?_))
 have h4 := Heap.get?_update_self (Obj.mapSeq (·.push Value.none)) hS3 rfl
 refine wpAny_updateSeq (hz := by seq_fits) h4 rfl (wpAny_pure ⟨plainId_quiet PySem.F.plain_extend_loop _, key _ _ _ (fun b o hb e => ?_) (by rw [Heap.size_update, Heap.size_update, sz3]) (Heap.get?_update_self (Obj.mapSeq (·.pop)) h4 rfl)⟩)
 exact (Heap.get?_update_other _ _ (Ne.symm hb)).trans ((Heap.get?_update_other _ _ (Ne.symm hb)).trans e)
theorem items_view {Q : Value → Shared → Prop} (nd : (d == sysModules) = false) (hg : s.heap.get? d = some od) (hx : od.ExactDict)
   (q : Q (.ref s.heap.objs.size) { s with heap := s.heap.push { cls := .type "dict_items", data := .fields #[.ref d] } }) : wpAny (model prog w) A (call (.builtin "dict.items") [.ref d]) Q E s := by
 have ty : s.TypeIs (.ref d) "dict" := ⟨od, hg, hx.1⟩
 refine wpAny_call_entry F.slot_dict_items ty F.entry_dict_items ?_ (F.args_dict_items_1 _)
 unfold Builtin.«dict.items»
 unfold Builtin.Dict.noArgs
 refine wpAny_bind (wpAny_bind (wpAny_notOrdered_dict ty (wpAny_pure ?_)))
 refine (show wpAny _ _ (Builtin.Dict.showsAll d >>= _) _ _ s from ?_)
 unfold Builtin.Dict.showsAll
 rw [if_neg (by rw [nd]; exact Bool.false_ne_true)]
 exact wpAny_bind (wpAny_pure (wpAny_bind (wpAny_newObj_type (wpAny_pure ⟨_, rfl, q⟩))))
end
def lay (H nw : Hp) : Hp := fun b => match nw b with | some o => some o | none => H b
theorem lay_new {H nw : Hp} {b : Addr} {o : HO} (e : nw b = some o) : lay H nw b = some o := by unfold lay; rw [e]
theorem lay_old {H nw : Hp} {b : Addr} (e : nw b = none) : lay H nw b = H b := by unfold lay; rw [e]
section
variable {P : Program} {w : World} {H nw : Hp} {h h' : Heap}
theorem HOk.laidMany (x : HOk P w H h) (k : ∀ b u, h.get? b = some u → h'.get? b = some u) (hn : ∀ b o, nw b = some o → h.get? b = none) (new : ∀ b o, nw b = some o → ObjOk P w (lay H nw) h' b o) : HOk P w (lay H nw) h' := by
 have old : ∀ c o, H c = some o → nw c = none := fun c o e => by
   cases q : nw c with
   | none => rfl
   | some u => have := x.noneAt (hn c u q); rw [e] at this; cases this
 intro b u e
 cases q : nw b with
 | some o => rw [lay_new q] at e; cases e; exact new b _ q
 | none =>
   rw [lay_old q] at e
   exact (x b u e).stay (fun c v _ z => k c v z) (fun c z => by rw [lay_old (old _ _ z)]; exact z) fun c xs z => by rw [lay_old (old _ _ z)]; exact z
theorem Un.laidMany {fs ex : List Addr} (x : HOk P w H h) (k : ∀ b u, h.get? b = some u → h'.get? b = some u) (hn : ∀ b o, nw b = some o → h.get? b = none) : Un fs ex H (lay H nw) h h' := by
 have old : ∀ c o, H c = some o → nw c = none := fun c o e => by
   cases q : nw c with
   | none => rfl
   | some u => have := x.noneAt (hn c u q); rw [e] at this; cases this
 have there : ∀ c o, h.get? c = some o → nw c = none := fun c o e => by
   cases q : nw c with
   | none => rfl
   | some u => have := hn c u q; rw [e] at this; cases this
 exact ⟨fun b u q _ _ _ => k b u q, fun b u q _ _ _ => ⟨u.slots, k b u q⟩, fun b u q n _ => by rw [lay_old (there b u q)]; exact n, fun b u q _ => ⟨u, k b u q⟩,
   fun b xs q => by rw [lay_old (old _ _ q)]; exact q, fun b u xs q => by rw [lay_old (old _ _ q)]; exact q, fun b ps q => ⟨#[], by rw [lay_old (old _ _ q), q]; simp⟩⟩
end
theorem Inv.laidMany {X : Cx} {pins : List (Addr × Obj)} {σ : St} {H nw : Hp} {s : Shared} {h' : Heap} {t' : Nat} (I : Inv X pins σ H s) (k : ∀ b u, s.heap.get? b = some u → h'.get? b = some u) (hn : ∀ b o, nw b = some o → s.heap.get? b = none)
   (new : ∀ b o, nw b = some o → ObjOk X.prog X.w (lay H nw) h' b o) : Inv X pins σ (lay H nw) { s with heap := h', toks := t' } := I.un (Un.laidMany I.hok k hn) (I.hok.laidMany k hn new)
section
variable {X : Cx}
def PairsT (H : Hp) : List V → List (List Key × V) → Prop := Paired fun y kv => ∃ t b, y = .ref t ∧ H t = some (.tup [.ref b, kv.2]) ∧ H b = some (.tup (kv.1.map kV))
inductive I_itemsL (Q : VK) (x : V) (H : Hp) : Prop where
 | mk (a : Addr) (kvs : List (List Key × V)) (h0 : x = .ref a) (h1 : Rd H a (.dT kvs)) (h2 : ∀ (l : Addr) (H' : Hp) (ys : List V), (∀ b o, H b = some o → H' b = some o) → H l = none → H' l = some (.lst ys) → PairsT H' ys kvs → Q (.ref l) H') : I_itemsL Q x H
def tItemsL (to : TE) : TE := fun σ H Q => to σ H fun x H1 => I_itemsL Q x H1
theorem paired_build {α β : Type} {F : α → β → Prop} : ∀ (l₁ : List α) (l₂ : List β), l₁.length = l₂.length → (∀ (i : Nat) (a : α) (b : β), l₁[i]? = some a → l₂[i]? = some b → F a b) → Paired F l₁ l₂
 | [], [], _, _ => .nil
 | [], _ :: _, h, _ => by simp at h
 | _ :: _, [], h, _ => by simp at h
 | a :: l₁, b :: l₂, h, f => .cons (f 0 a b rfl rfl) (paired_build l₁ l₂ (by simpa using h) fun i a b e1 e2 => f (i + 1) a b (by simpa using e1) (by simpa using e2))
theorem pe_itemsL {o : Expr} {to : TE} {p apos cpos pos : Pos} (hc : X.calm = true) (hg : Gl X "list") (hm : X.mg "list" = none) (ho : PE X o to)
   (hbase : attributeBase o "items" X.env (eval o X.env) = eval o X.env := by rfl) (hline : (apos.endLine == cpos.line) = true := by rfl)
   (hs2 : starEach [Expr.Call (.Attribute o "items" apos) [] [] cpos] X.env = (false, eval (.Call (.Attribute o "items" apos) [] [] cpos) X.env) :: starEach [] X.env := by rfl)
   (hv : bootBuiltins "list" = some (.type "list") := by decide +kernel) :
   PE X (.Call (.Name "list" p) [.Call (.Attribute o "items" apos) [] [] cpos] [] pos) (tItemsL to) := by
 intro pins s σ H Q I h
 refine wpAny_Call_Name_kw (ld_blt I hg hm hv (PyProof.Rows.callWith_type1 ?_ hs2))
 rw [hs2]
 refine Calls.spliced_cons (wpAny_Call_method0_late hbase hline (thn (ho pins s σ H _ I h) fun u s1 ⟨x, H1, I1, r1, q1⟩ => ?_))
 obtain ⟨a, kvs, rfl, ha, q⟩ := q1
 cases (show u = Value.ref a from r1)
 obtain ⟨t1, t2, _⟩ := isD_at I1 (.inr ⟨kvs, ha⟩)
 obtain ⟨z, nd, xs, rel, od, es, ep, g1, g2, g3, g4, g5⟩ := (show ObjOk X.prog X.w H1 s1.heap a (.dT kvs) from rd_of I1.hok ha)
 have ln : es.size = xs.length := by have := congrArg List.length g4; simpa using this
 have lk : kvs.length = xs.length := Paired.length rel
 refine ⟨"dict", "dict.items", PySem.F.plainAttrs_dict, PySem.F.slot_dict_items, PySem.F.type_dict_items, t1, t2, Calls.callWith_builtin rfl (PySem.evalArgs_none (items_view nd g1 g2 (Calls.spliced_nil ?_)))⟩
 obtain ⟨B, eB⟩ : ∃ B, B = (s1.heap.push { cls := .type "dict_items", data := .fields #[.ref a] }).objs.size := ⟨_, rfl⟩
 have sB : B = s1.heap.objs.size + 1 := by rw [eB, Heap.size_push]
 refine items_list (s := { s1 with heap := s1.heap.push { cls := .type "dict_items", data := .fields #[.ref a] } }) (I1.ok.hd hc) ⟨_, Heap.get?_push_size _ rfl, rfl, rfl⟩ (Heap.get?_push_of_some _ g1) g3 (by omega) fun h' tk acc c hk hS hacc htup => ?_
 dsimp only at hk hS hacc htup ⊢
 rw [← eB] at hS hacc htup ⊢
 have k2 : ∀ b o, s1.heap.get? b = some o → h'.get? b = some o := fun b o e => hk b o (Heap.get?_push_of_some _ e)
 obtain ⟨nw, enw⟩ : ∃ nw : Hp, nw = fun b => if b = B then some (.lst ((List.range xs.length).map fun j => V.ref (B + 2 + j))) else match kvs[b - (B + 2)]?, xs[b - (B + 2)]? with
   | some kv, some q => if B + 2 ≤ b then some (.tup [.ref q.2.1, kv.2]) else none
   | _, _ => none := ⟨_, rfl⟩
 have nB : nw B = some (.lst ((List.range xs.length).map fun j => V.ref (B + 2 + j))) := by rw [enw]; exact if_pos rfl
 have nT : ∀ (j : Nat) (kv : List Key × V) (qq : List Key × Addr × Value), kvs[j]? = some kv → xs[j]? = some qq → nw (B + 2 + j) = some (.tup [.ref qq.2.1, kv.2]) := fun j kv qq e1 e2 => by
   have e3 : B + 2 + j - (B + 2) = j := by omega
   have e4 : ¬ B + 2 + j = B := by omega
   rw [enw]
   simp only [e4, if_false, e3, e1, e2, Nat.le_add_right, if_true]
 have inv : ∀ b o, nw b = some o → (b = B ∧ o = .lst ((List.range xs.length).map fun j => V.ref (B + 2 + j))) ∨ ∃ (j : Nat) (kv : List Key × V) (qq : List Key × Addr × Value), b = B + 2 + j ∧ kvs[j]? = some kv ∧ xs[j]? = some qq ∧ o = .tup [.ref qq.2.1, kv.2] := by
   intro b o e
   rw [enw] at e
   by_cases hb : b = B
   · simp only [hb, if_true] at e
     cases e
     exact .inl ⟨hb, rfl⟩
   · simp only [hb, if_false] at e
     cases e1 : kvs[b - (B + 2)]? with
     | none => rw [e1] at e; cases e
     | some kv =>
       cases e2 : xs[b - (B + 2)]? with
       | none => rw [e1, e2] at e; cases e
       | some qq =>
         rw [e1, e2] at e
         by_cases hl : B + 2 ≤ b
         · simp only [hl, if_true] at e
           cases e
           exact .inr ⟨b - (B + 2), kv, qq, (Nat.add_sub_cancel' hl).symm, e1, e2, rfl⟩
         · simp only [hl, if_false] at e
           cases e
 have hn : ∀ b o, nw b = some o → s1.heap.get? b = none := fun b o e => by
   have hb : s1.heap.objs.size ≤ b := by
     rcases inv b o e with ⟨rfl, _⟩ | ⟨j, _, _, rfl, _⟩
     · rw [sB]; exact Nat.le_succ _
     · rw [sB]; omega
   cases z : s1.heap.get? b with
   | none => rfl
   | some u => exact absurd (Heap.lt_size z) (Nat.not_lt.mpr hb)
 have ent : ∀ (j : Nat) (qq : List Key × Addr × Value), xs[j]? = some qq → ∃ hj : j < es.size, es[j] = entryOfKey (tupleKind (mixKind X.prog X.w)) qq := fun j qq e => by
   have e1 : es.toList[j]? = some (entryOfKey (tupleKind (mixKind X.prog X.w)) qq) := by rw [g4, List.getElem?_map, e]; rfl
   obtain ⟨hj, e2⟩ := List.getElem?_eq_some_iff.mp e1
   exact ⟨by simpa using hj, by simpa using e2⟩
 have I2 : Inv X pins σ (lay H1 nw) { s1 with heap := h', toks := tk } := by
   refine I1.laidMany k2 hn fun b o e => ?_
   rcases inv b o e with ⟨rfl, rfl⟩ | ⟨j, kv, qq, rfl, e1, e2, rfl⟩
   · refine ⟨by simp; omega, acc.toList, c, ?_, by rw [Array.toArray_toList]; exact hS⟩
     rw [hacc, ln]
     have vm : ∀ l : List Nat, Vals (l.map fun j => V.ref (b + 2 + j)) (l.map fun j => Value.ref (b + 2 + j)) := by
       intro l
       induction l with
       | nil => exact .nil
       | cons m l ih => exact .cons rfl ih
     exact vm _
   · obtain ⟨hj, e3⟩ := ent j qq e2
     obtain ⟨q', w1, w2, w3, w4⟩ := KT.at rel e1
     rw [e2] at w1
     cases w1
     have tj := htup j hj
     rw [e3] at tj
     exact ⟨by rw [sizeLine_eq]; simp, [.ref qq.2.1, qq.2.2], .cons rfl (.cons w4 .nil), _, tj, rfl, 0, rfl⟩
 refine ⟨.ref B, _, I2, rfl, q B _ ((List.range xs.length).map fun j => V.ref (B + 2 + j)) (fun b o e => ?_) (I1.hok.noneAt (hn _ _ nB)) (lay_new nB) ?_⟩
 · cases z : nw b with
   | none => rw [lay_old z]; exact e
   | some u => have := I1.hok.noneAt (hn b u z); rw [e] at this; cases this
 · refine paired_build _ _ (by simp [lk]) fun i y kv e1 e2 => ?_
   obtain ⟨qq, w1, w2, w3, w4⟩ := KT.at rel e2
   rw [List.getElem?_map] at e1
   obtain ⟨i', e3, e4⟩ := Option.map_eq_some_iff.mp e1
   have e5 : i' = i := by
     rw [List.getElem?_range (by have := (List.getElem?_eq_some_iff.mp w1).1; omega)] at e3
     exact (Option.some.inj e3).symm
   subst e5
   refine ⟨B + 2 + i', qq.2.1, e4.symm, lay_new (nT i' kv qq e2 w1), ?_⟩
   cases z : nw qq.2.1 with
   | none => rw [lay_old z]; exact w3
   | some u => have := I1.hok.noneAt (hn _ u z); rw [w3] at this; cases this
end
end L2
namespace L2
open PySem PySem.Spec PyProof.Rows
section
variable {X : Cx} {tg : Expr}
def iDtR (td : TE) : TI := fun σ H R => td σ H fun x H1 => ∃ a kvs, x = .ref a ∧ Rd H1 a (.dT kvs) ∧ ∀ o H2, (∀ b c, H1 b = some c → b ≠ a → H2 b = some c) → H2 a = some (.frz o (.dT kvs)) → R (Itd a kvs o) H2
theorem pi_dtR {l : Expr} {td : TE} (hl : PE X l td) : PI X tg l (iDtR td) := by
 intro pins s σ H R I h
 refine thn (hl pins s σ H _ I h) fun v s1 ⟨x, H1, I1, r1, q1⟩ => ?_
 obtain ⟨a, kvs, e, hq, q⟩ := q1
 subst e
 cases r1
 have core : ∀ (o : Obj) (H2 : Hp), Inv X pins σ H2 s1 → H2 a = some (.frz o (.dT kvs)) → R (Itd a kvs o) H2 → wpAny (model X.prog X.w) X.A (pyIter (.ref a)) (PIE X pins σ tg R) X.xe s1 := by
   intro o H2 I2 ha q
   obtain ⟨ho, _, y, xs, r, o', es, ep, h1, h2, h3, h4, _⟩ := (show ObjOk X.prog X.w H2 s1.heap a (.frz o (.dT kvs)) from I2.hok a _ ha)
   rw [ho] at h1; cases h1
   refine es_iter y ho h2 h3 ?_
   refine ⟨s1.heap.objs.size, [s1.heap.objs.size], _, _, H2, rfl, I2.kept (t' := s1.toks) fun b o e => Heap.get?_push_of_some _ e, turn_dt a _ kvs o, ⟨es, ep, h3, _, Heap.get?_push_size _ rfl, rfl, rfl⟩, fun b hb => ?_, q⟩
   have e : b = s1.heap.objs.size := by simpa using hb
   subst e
   exact I2.fpOk (Nat.le_refl _) (I2.hok.fresh (Nat.le_refl _))
 rcases hq with ha | ⟨o, ha⟩
 · obtain ⟨o, ho, I2⟩ := I1.fastT ha
   exact core o _ I2 uS (q o _ (fun b c e ne => by rw [uN ne]; exact e) uS)
 · exact core o H1 I1 ha (q o _ (fun b c e _ => e) ha)
end
theorem lc_dt {a : Addr} {kvs : List (List Key × V)} {o : Obj} {cap : St} {tt : TT} {te : TE} {H : Hp} {P : List V → Hp → Prop} (Pv : Nat → List V → Hp → Prop) (h0 : Pv 0 [] H) (hn : kvs.length < sizeLine) (hb : ∀ i ys H, Pv i ys H → ys.length ≤ i)
   (hl : ∀ i ys H, i ≤ kvs.length → Pv i ys H → H a = some (.frz o (.dT kvs)))
   (hs : ∀ i k v b ys H, kvs[i]? = some (k, v) → H b = some (.tup (k.map kV)) → Pv i ys H → tt (some (.ref b) :: cap) H fun c H3 => if c = true then te (some (.ref b) :: cap) H3 fun v H4 => Pv (i + 1) (ys ++ [v]) H4 else Pv (i + 1) ys H3) (hd : ∀ ys H, Pv kvs.length ys H → P ys H) :
   LcLoop (Itd a kvs o) cap tt te H P := by
 refine ⟨fun i m ys H => m = kvs.length - i ∧ i ≤ kvs.length ∧ Pv i ys H, ⟨kvs.length, by simp, Nat.zero_le _, h0⟩, ?_⟩
 rintro i m ys H ⟨rfl, hi, p⟩
 have hyl := hb i ys H p
 have q := hl i ys H hi p
 by_cases hlt : i < kvs.length
 · refine .inr ⟨⟨q, hlt⟩, by omega, Pv (i + 1), fun σ' H' p' => ⟨kvs.length - (i + 1), by omega, rfl, hlt, p'⟩, fun x H' y => ?_⟩
   obtain ⟨rfl, b, k, v, rfl, e, hb'⟩ := y
   exact hs i k v b ys _ e hb' p
 · have e : i = kvs.length := by omega
   subst e
   exact .inl ⟨⟨q, Nat.le_refl _⟩, by omega, hd ys H p⟩
theorem pe_fldK {X : Cx} {e : Expr} {f : Str} {pos : Pos} {ta : TE} (K : PySem.W.Frag) (he : PE X e ta) (hb : attributeBase e f X.env (eval e X.env) = eval e X.env) (hK : X.K = K := by rfl) : PE X (.Attribute e f pos) (tFld K ta f) := by
 subst hK; exact pe_fld he hb
end L2
namespace J
inductive Mv where
 | pour (a b : Nat) | fill (a : Nat) | emp (a : Nat)
 deriving DecidableEq
def at0 (l : List Int) (i : Nat) : Int := l.getD i 0
def much (sz st : List Int) (a b : Nat) : Int := if at0 sz b - at0 st b < at0 st a then at0 sz b - at0 st b else at0 st a
def behind (sz st : List Int) : Mv → List Int
 | .pour a b => (st.set a (at0 st a - much sz st a b)).set b (at0 st b + much sz st a b)
 | .fill a => st.set a (at0 sz a)
 | .emp a => st.set a 0
def pours (n : Nat) : List Mv := (List.range n).flatMap fun a => ((List.range n).filter fun b => b != a).map fun b => Mv.pour a b
def moves (n : Nat) (tap : Bool) : List Mv := pours n ++ if tap = true then (List.range n).map Mv.fill ++ (List.range n).map Mv.emp else []
def Mv.ok (n : Nat) (tap : Bool) : Mv → Prop
 | .pour a b => a < n ∧ b < n ∧ a ≠ b
 | .fill a => a < n ∧ tap = true
 | .emp a => a < n ∧ tap = true
theorem mem_moves {n : Nat} {tap : Bool} {m : Mv} : m ∈ moves n tap ↔ m.ok n tap := by
 unfold moves pours
 cases tap <;> cases m <;> simp [Mv.ok] <;> (try omega)
 all_goals
   constructor
   · rintro ⟨h1, h2, h3⟩; exact ⟨h1, h2, fun e => h3 e.symm⟩
   · rintro ⟨h1, h2, h3⟩; exact ⟨h1, h2, fun e => h3 e.symm⟩
structure IsSt (sz st : List Int) : Prop where
 len : st.length = sz.length
 bnd : ∀ i, i < sz.length → 0 ≤ at0 st i ∧ at0 st i ≤ at0 sz i
theorem at0_set (l : List Int) (a i : Nat) (v : Int) : at0 (l.set a v) i = if a = i ∧ i < l.length then v else at0 l i := by
 unfold at0
 simp only [List.getD_eq_getElem?_getD, List.getElem?_set]
 by_cases h : a = i
 · subst h
   by_cases hl : a < l.length
   · simp [hl]
   · simp [hl]
 · simp [h]
theorem IsSt.behind {sz st : List Int} {tap : Bool} {m : Mv} (hs : ∀ i, i < sz.length → 0 ≤ at0 sz i) (h : IsSt sz st) (hm : m.ok sz.length tap) : IsSt sz (behind sz st m) := by
 have hl := h.len
 cases m with
 | pour a b =>
   obtain ⟨ha, hb, hab⟩ := hm
   have h1 := h.bnd a ha
   have h2 := h.bnd b hb
   refine ⟨by simp [J.behind, hl], fun i hi => ?_⟩
   have h3 := h.bnd i hi
   simp only [J.behind, at0_set, List.length_set, hl]
   unfold much
   by_cases e1 : b = i
   · subst e1; simp only [hi, and_self, if_true]; split <;> omega
   · simp only [e1, false_and, if_false]
     by_cases e2 : a = i
     · subst e2; simp only [hi, and_self, if_true]; split <;> omega
     · simp only [e2, false_and, if_false]; exact h3
 | fill a =>
   refine ⟨by simp [J.behind, hl], fun i hi => ?_⟩
   have h3 := h.bnd i hi
   have h4 := hs i hi
   simp only [J.behind, at0_set, hl]
   by_cases e2 : a = i
   · subst e2; simp only [hi, and_self, if_true]; omega
   · simp only [e2, false_and, if_false]; exact h3
 | emp a =>
   refine ⟨by simp [J.behind, hl], fun i hi => ?_⟩
   have h3 := h.bnd i hi
   have h4 := hs i hi
   simp only [J.behind, at0_set, hl]
   by_cases e2 : a = i
   · subst e2; simp only [hi, and_self, if_true]; omega
   · simp only [e2, false_and, if_false]; exact h3
def more (told : List (List Int)) (size : Int) : List (List Int) := told.flatMap fun st => (List.range (size + 1).toNat).map fun (k : Nat) => st ++ [(k : Int)]
def states (sz : List Int) : List (List Int) := sz.foldl more [[]]
def prod1 (sz : List Int) : Int := sz.foldl (fun m s => m * (s + 1)) 1
theorem mem_fold (sz : List Int) : ∀ (L : List (List Int)) (x : List Int), x ∈ sz.foldl more L ↔ ∃ l ∈ L, ∃ t : List Int, x = l ++ t ∧ IsSt sz t := by
 induction sz with
 | nil =>
   intro L x
   simp only [List.foldl_nil]
   constructor
   · intro h; exact ⟨x, h, [], by simp, ⟨rfl, fun i hi => by simp at hi⟩⟩
   · rintro ⟨l, hl, t, rfl, ht⟩
     have : t = [] := by have := ht.len; simpa using this
     subst this; simpa using hl
 | cons s r ih =>
   intro L x
   rw [List.foldl_cons, ih]
   constructor
   · rintro ⟨l, hl, t, rfl, ht⟩
     unfold more at hl
     simp only [List.mem_flatMap, List.mem_map, List.mem_range] at hl
     obtain ⟨l0, h0, k, hk, rfl⟩ := hl
     refine ⟨l0, h0, (k : Int) :: t, by simp, ⟨by simp [ht.len], fun i hi => ?_⟩⟩
     cases i with
     | zero => simp [at0]; omega
     | succ i => have := ht.bnd i (by simpa using hi); simpa [at0] using this
   · rintro ⟨l, hl, t, rfl, ht⟩
     cases t with
     | nil => have := ht.len; simp at this
     | cons v t =>
       refine ⟨l ++ [v], ?_, t, by simp, ⟨by have := ht.len; simpa using this, fun i hi => ?_⟩⟩
       · unfold more
         simp only [List.mem_flatMap, List.mem_map, List.mem_range]
         have := ht.bnd 0 (by simp)
         simp [at0] at this
         exact ⟨l, hl, v.toNat, by omega, by rw [Int.toNat_of_nonneg this.1]⟩
       · have := ht.bnd (i + 1) (by simpa using hi); simpa [at0] using this
theorem mem_states {sz x : List Int} : x ∈ states sz ↔ IsSt sz x := by
 unfold states
 rw [mem_fold]
 constructor
 · rintro ⟨l, hl, t, rfl, ht⟩
   have : l = [] := by simpa using hl
   subst this; simpa using ht
 · intro h; exact ⟨[], by simp, x, by simp, h⟩
theorem len_more (L : List (List Int)) (s : Int) : (more L s).length = L.length * (s + 1).toNat := by
 unfold more
 induction L with
 | nil => simp
 | cons a L ih => rw [List.flatMap_cons, List.length_append, ih]; simp [Nat.add_mul]; omega
theorem len_fold (sz : List Int) (hs : ∀ s ∈ sz, 0 ≤ s) : ∀ (L : List (List Int)) (p : Int), (L.length : Int) = p → ((sz.foldl more L).length : Int) = sz.foldl (fun m s => m * (s + 1)) p := by
 induction sz with
 | nil => intro L p h; simpa using h
 | cons s r ih =>
   intro L p h
   rw [List.foldl_cons, List.foldl_cons]
   refine ih (fun x hx => hs x (List.mem_cons_of_mem _ hx)) _ _ ?_
   have := hs s List.mem_cons_self
   rw [len_more, Int.natCast_mul, h, Int.toNat_of_nonneg (by omega)]
theorem len_states {sz : List Int} (hs : ∀ s ∈ sz, 0 ≤ s) : ((states sz).length : Int) = prod1 sz := len_fold sz hs _ _ (by simp)
theorem nodup_le {α : Type} [DecidableEq α] : ∀ (xs ys : List α), xs.Nodup → (∀ x ∈ xs, x ∈ ys) → xs.length ≤ ys.length
 | [], ys, _, _ => by simp
 | x :: xs, ys, nd, h => by
   have hx : x ∈ ys := h x List.mem_cons_self
   obtain ⟨hn, nd'⟩ := List.nodup_cons.mp nd
   have := nodup_le xs (ys.erase x) nd' fun z hz => (List.mem_erase_of_ne (show z ≠ x from fun e => hn (e ▸ hz))).mpr (h z (List.mem_cons_of_mem _ hz))
   rw [List.length_erase_of_mem hx] at this
   have : 0 < ys.length := List.length_pos_of_mem hx
   simp only [List.length_cons]; omega
end J
namespace J
abbrev Way := List Int × Option (Nat × Mv)
def addOne (sz here : List Int) (p : Nat) (w : List Way) (m : Mv) : List Way :=
 if behind sz here m ∈ w.map (·.1) then w else w ++ [(behind sz here m, some (p, m))]
def addAll (sz here : List Int) (p : Nat) (ms : List Mv) (w : List Way) : List Way := ms.foldl (addOne sz here p) w
def run (sz : List Int) (ms : List Mv) (st : List Int) : Nat → List Way
 | 0 => [(st, none)]
 | p + 1 => match (run sz ms st p)[p]? with
   | none => run sz ms st p
   | some x => addAll sz x.1 p ms (run sz ms st p)
def ways (sz : List Int) (ms : List Mv) (st : List Int) : List Way := run sz ms st (states sz).length
theorem snoc_get {α : Type} {W : List α} {e y : α} {i : Nat} : (W ++ [e])[i]? = some y ↔ W[i]? = some y ∨ (i = W.length ∧ y = e) := by
 rw [List.getElem?_append]
 by_cases h : i < W.length
 · rw [if_pos h]
   constructor
   · exact .inl
   · rintro (z | ⟨z, _⟩)
     · exact z
     · omega
 · rw [if_neg h]
   constructor
   · intro z
     obtain ⟨hl, z⟩ := List.getElem?_eq_some_iff.mp z
     simp at hl
     refine .inr ⟨by omega, ?_⟩
     have : i - W.length = 0 := by omega
     simp [this] at z
     exact z.symm
   · rintro (z | ⟨z, rfl⟩)
     · have := (List.getElem?_eq_some_iff.mp z).1; omega
     · subst z; simp
structure WIn (sz : List Int) (ms : List Mv) (st : List Int) (p : Nat) (P : Nat) (done : List Mv) (W : List Way) : Prop where
 hd : W[0]? = some (st, none)
 nd : (W.map (·.1)).Nodup
 sts : ∀ x ∈ W, IsSt sz x.1
 par : ∀ (i : Nat) (x : List Int) (q : Nat) (m : Mv), W[i]? = some (x, some (q, m)) → q < P ∧ q < i ∧ m ∈ ms ∧ ∃ y, W[q]? = some y ∧ x = behind sz y.1 m
 non : ∀ (i : Nat) (x : List Int), W[i]? = some (x, none) → i = 0
 mono : ∀ (i j : Nat) (x y : List Int) (q : Nat) (m : Mv) (q' : Nat) (m' : Mv), i ≤ j → W[i]? = some (x, some (q, m)) → W[j]? = some (y, some (q', m')) → q ≤ q'
 cls : ∀ (i : Nat) (x : Way) (m : Mv), W[i]? = some x → (i < p ∧ m ∈ ms) ∨ (i = p ∧ m ∈ done) → ∃ (j : Nat) (y : Way), W[j]? = some y ∧ y.1 = behind sz x.1 m ∧ (y.2 = none ∨ ∃ q m', y.2 = some (q, m') ∧ q ≤ i)
section
variable {sz st : List Int} {ms done : List Mv} {p P : Nat} {W : List Way} {here : List Int} {m : Mv}
theorem WIn.add (h : WIn sz ms st p (p + 1) done W) (hp : ∃ o, W[p]? = some (here, o)) (hm : m ∈ ms) (hs : IsSt sz (behind sz here m)) : WIn sz ms st p (p + 1) (done ++ [m]) (addOne sz here p W m) := by
 obtain ⟨o, hp⟩ := hp
 have plt : p < W.length := (List.getElem?_eq_some_iff.mp hp).1
 unfold addOne
 by_cases hb : behind sz here m ∈ W.map (·.1)
 · rw [if_pos hb]
   refine ⟨h.hd, h.nd, h.sts, h.par, h.non, h.mono, fun i x m' hx hc => ?_⟩
   rcases hc with ⟨h1, h2⟩ | ⟨h1, h2⟩
   · exact h.cls i x m' hx (.inl ⟨h1, h2⟩)
   · rcases List.mem_append.mp h2 with h3 | h3
     · exact h.cls i x m' hx (.inr ⟨h1, h3⟩)
     · have e : m' = m := by simpa using h3
       subst e; subst h1
       rw [hp] at hx; cases hx
       obtain ⟨y, hy, e⟩ := List.mem_map.mp hb
       obtain ⟨j, hj⟩ := List.mem_iff_getElem?.mp hy
       refine ⟨j, y, hj, e, ?_⟩
       obtain ⟨y1, y2⟩ := y
       cases y2 with
       | none => exact .inl rfl
       | some qm => obtain ⟨q, m''⟩ := qm; exact .inr ⟨q, m'', rfl, by have := (h.par j _ _ _ hj).1; omega⟩
 · rw [if_neg hb]
   refine ⟨?_, ?_, ?_, ?_, ?_, ?_, ?_⟩
   · exact snoc_get.mpr (.inl h.hd)
   · rw [List.map_append, List.nodup_append]
     refine ⟨h.nd, by simp, fun a ha b hb' e => ?_⟩
     have : b = behind sz here m := by simpa using hb'
     subst this; subst e; exact hb ha
   · intro x hx
     rcases List.mem_append.mp hx with z | z
     · exact h.sts x z
     · have : x = (behind sz here m, some (p, m)) := by simpa using z
       subst this; exact hs
   · intro i x q m' hx
     rcases snoc_get.mp hx with z | ⟨z1, z2⟩
     · obtain ⟨a, b, c, y, hy, e⟩ := h.par i x q m' z
       exact ⟨a, b, c, y, snoc_get.mpr (.inl hy), e⟩
     · cases z2
       exact ⟨by omega, by omega, hm, (here, o), snoc_get.mpr (.inl hp), rfl⟩
   · intro i x hx
     rcases snoc_get.mp hx with z | ⟨z1, z2⟩
     · exact h.non i x z
     · cases z2
   · intro i j x y q m1 q' m2 hij hi hj
     rcases snoc_get.mp hi with z | ⟨z1, z2⟩
     · rcases snoc_get.mp hj with u | ⟨u1, u2⟩
       · exact h.mono i j x y q m1 q' m2 hij z u
       · cases u2; have := (h.par i x q m1 z).1; omega
     · cases z2
       rcases snoc_get.mp hj with u | ⟨u1, u2⟩
       · have := (List.getElem?_eq_some_iff.mp u).1; omega
       · cases u2; omega
   · intro i x m' hx hc
     rcases snoc_get.mp hx with z | ⟨z1, z2⟩
     · have old : ((i < p ∧ m' ∈ ms) ∨ (i = p ∧ m' ∈ done)) → ∃ (j : Nat) (y : Way), (W ++ [(behind sz here m, some (p, m))])[j]? = some y ∧ y.1 = behind sz x.1 m' ∧ (y.2 = none ∨ ∃ q m', y.2 = some (q, m') ∧ q ≤ i) := fun hc => by
         obtain ⟨j, y, a, b, c⟩ := h.cls i x m' z hc
         exact ⟨j, y, snoc_get.mpr (.inl a), b, c⟩
       rcases hc with hc | ⟨h1, h2⟩
       · exact old (.inl hc)
       · rcases List.mem_append.mp h2 with h3 | h3
         · exact old (.inr ⟨h1, h3⟩)
         · have e : m' = m := by simpa using h3
           subst e; subst h1
           rw [hp] at z; cases z
           exact ⟨W.length, _, snoc_get.mpr (.inr ⟨rfl, rfl⟩), rfl, .inr ⟨i, m', rfl, Nat.le_refl _⟩⟩
     · rcases hc with ⟨h1, h2⟩ | ⟨h1, h2⟩ <;> omega
theorem addOne_pre {here : List Int} {p : Nat} {m : Mv} {W : List Way} {i : Nat} {y : Way} (h : W[i]? = some y) : (addOne sz here p W m)[i]? = some y := by
 unfold addOne
 split
 · exact h
 · exact snoc_get.mpr (.inl h)
theorem WIn.all : ∀ (todo : List Mv) {done : List Mv} {W : List Way}, WIn sz ms st p (p + 1) done W → (∃ o, W[p]? = some (here, o)) → (∀ m ∈ todo, m ∈ ms) → (∀ m ∈ todo, IsSt sz (behind sz here m)) →
   WIn sz ms st p (p + 1) (done ++ todo) (addAll sz here p todo W)
 | [], done, W, h, _, _, _ => by simpa [addAll] using h
 | m :: todo, done, W, h, hp, hm, hs => by
   have h1 := h.add hp (hm m List.mem_cons_self) (hs m List.mem_cons_self)
   obtain ⟨o, hp⟩ := hp
   have h2 := WIn.all todo h1 ⟨o, addOne_pre hp⟩ (fun x hx => hm x (List.mem_cons_of_mem _ hx)) (fun x hx => hs x (List.mem_cons_of_mem _ hx))
   simpa [addAll, List.append_assoc] using h2
theorem WIn.next (h : WIn sz ms st p (p + 1) ms W) : WIn sz ms st (p + 1) (p + 1) [] W :=
 ⟨h.hd, h.nd, h.sts, h.par, h.non, h.mono, fun i x m hx hc => h.cls i x m hx (by
   rcases hc with ⟨h1, h2⟩ | ⟨_, h2⟩
   · by_cases e : i = p
     · exact .inr ⟨e, h2⟩
     · exact .inl ⟨by omega, h2⟩
   · simp at h2)⟩
theorem WIn.open (h : WIn sz ms st p p [] W) : WIn sz ms st p (p + 1) [] W :=
 ⟨h.hd, h.nd, h.sts, fun i x q m e => let ⟨a, b⟩ := h.par i x q m e; ⟨by omega, b⟩, h.non, h.mono, h.cls⟩
theorem WIn.beyond (h : WIn sz ms st p p [] W) (hl : W.length ≤ p) : WIn sz ms st (p + 1) (p + 1) [] W :=
 ⟨h.hd, h.nd, h.sts, fun i x q m e => let ⟨a, b⟩ := h.par i x q m e; ⟨by omega, b⟩, h.non, h.mono, fun i x m hx hc => by
   have := (List.getElem?_eq_some_iff.mp hx).1
   rcases hc with ⟨_, h2⟩ | ⟨_, h2⟩
   · exact h.cls i x m hx (.inl ⟨by omega, h2⟩)
   · simp at h2⟩
structure Good (sz : List Int) (ms : List Mv) : Prop where
 keep : ∀ st m, IsSt sz st → m ∈ ms → IsSt sz (behind sz st m)
theorem run_inv (g : Good sz ms) (hst : IsSt sz st) : ∀ p, WIn sz ms st p p [] (run sz ms st p)
 | 0 => by
   unfold run
   refine ⟨rfl, by simp, fun x hx => ?_, fun i x q m e => ?_, fun i x e => ?_, fun i j x y q m q' m' _ e _ => ?_, fun i x m _ hc => ?_⟩
   · have : x = (st, none) := by simpa using hx
     subst this; exact hst
   · cases i with
     | zero => simp at e
     | succ i => simp at e
   · cases i with
     | zero => rfl
     | succ i => simp at e
   · cases i with
     | zero => simp at e
     | succ i => simp at e
   · rcases hc with ⟨h1, _⟩ | ⟨_, h2⟩
     · omega
     · simp at h2
 | p + 1 => by
   have h := run_inv g hst p
   unfold run
   cases e : (run sz ms st p)[p]? with
   | none => exact h.beyond (List.getElem?_eq_none_iff.mp e)
   | some x =>
     have hx : IsSt sz x.1 := h.sts x (List.mem_iff_getElem?.mpr ⟨p, e⟩)
     have := h.open.all (here := x.1) ms ⟨x.2, e⟩ (fun _ q => q) (fun m q => g.keep x.1 m hx q)
     exact WIn.next (by simpa using this)
theorem run_le (g : Good sz ms) (hst : IsSt sz st) (p : Nat) : (run sz ms st p).length ≤ (states sz).length := by
 have h := run_inv g hst p
 have := nodup_le _ (states sz) h.nd fun x hx => by
   obtain ⟨y, hy, rfl⟩ := List.mem_map.mp hx
   exact mem_states.mpr (h.sts y hy)
 simpa using this
theorem run_stay {p : Nat} (h : (run sz ms st p).length ≤ p) : ∀ k, run sz ms st (p + k) = run sz ms st p
 | 0 => rfl
 | k + 1 => by
   have ih := run_stay h k
   show run sz ms st ((p + k) + 1) = _
   rw [run, ih, List.getElem?_eq_none_iff.mpr (by omega)]
theorem run_end (g : Good sz ms) (hst : IsSt sz st) {p : Nat} (h : (run sz ms st p).length ≤ p) : run sz ms st p = ways sz ms st := by
 unfold ways
 by_cases e : p ≤ (states sz).length
 · have := run_stay h ((states sz).length - p)
   rw [← this]; congr 1; omega
 · have := run_stay (p := (states sz).length) (run_le g hst _) (p - (states sz).length)
   rw [← this]; congr 1; omega
theorem run_step {p : Nat} {x : Way} (e : (run sz ms st p)[p]? = some x) : run sz ms st (p + 1) = addAll sz x.1 p ms (run sz ms st p) := by
 rw [run, e]
theorem ways_inv (g : Good sz ms) (hst : IsSt sz st) : WIn sz ms st (ways sz ms st).length (states sz).length [] (ways sz ms st) := by
 have h := run_inv g hst (states sz).length
 exact ⟨h.hd, h.nd, h.sts, h.par, h.non, h.mono, fun i x m hx hc => h.cls i x m hx (by
   rcases hc with ⟨h1, h2⟩ | ⟨_, h2⟩
   · exact .inl ⟨Nat.lt_of_lt_of_le h1 (run_le g hst _), h2⟩
   · simp at h2)⟩
end
theorem good_moves {sz : List Int} {tap : Bool} (hs : ∀ i, i < sz.length → 0 ≤ at0 sz i) : Good sz (moves sz.length tap) :=
 ⟨fun _ _ h hm => h.behind hs (mem_moves.mp hm)⟩
end J
namespace J
def hOne (acc : List Nat) (e : Way) : Nat := match e.2 with
 | none => 0
 | some (q, _) => acc.getD q 0 + 1
def hl (W : List Way) : List Nat := W.foldl (fun acc e => acc ++ [hOne acc e]) []
theorem hl_snoc (W : List Way) (e : Way) : hl (W ++ [e]) = hl W ++ [hOne (hl W) e] := by simp [hl]
theorem snoc_ind {α : Type} {P : List α → Prop} (h0 : P []) (h1 : ∀ l a, P l → P (l ++ [a])) : ∀ l, P l := by
 intro l
 have : ∀ r : List α, P r.reverse := fun r => by
   induction r with
   | nil => exact h0
   | cons a r ih => rw [List.reverse_cons]; exact h1 _ _ ih
 have := this l.reverse
 rwa [List.reverse_reverse] at this
theorem hl_len (W : List Way) : (hl W).length = W.length := by
 refine snoc_ind (P := fun W => (hl W).length = W.length) rfl (fun l a ih => ?_) W
 rw [hl_snoc]; simp [ih]
theorem hl_take (W V : List Way) : (hl (W ++ V)).take W.length = hl W := by
 refine snoc_ind (P := fun V => (hl (W ++ V)).take W.length = hl W) (by simp; exact List.take_of_length_le (by rw [hl_len]; exact Nat.le_refl _)) (fun V a ih => ?_) V
 rw [← List.append_assoc, hl_snoc, List.take_append_of_le_length (by rw [hl_len]; simp), ih]
def h (W : List Way) (i : Nat) : Nat := (hl W).getD i 0
theorem h_pre {W V : List Way} {i : Nat} (hi : i < W.length) : h (W ++ V) i = h W i := by
 unfold h
 have := hl_take W V
 rw [← this, List.getD_eq_getElem?_getD, List.getD_eq_getElem?_getD, List.getElem?_take_of_lt hi]
theorem h_at (W V : List Way) (e : Way) : h (W ++ e :: V) W.length = hOne (hl W) e := by
 have : W ++ e :: V = (W ++ [e]) ++ V := by simp
 rw [this, h_pre (by simp)]
 unfold h
 rw [hl_snoc, List.getD_eq_getElem?_getD, List.getElem?_append_right (by rw [hl_len]; exact Nat.le_refl _), hl_len]
 simp
theorem split_at {α : Type} {W : List α} {i : Nat} {x : α} (e : W[i]? = some x) : W = W.take i ++ x :: W.drop (i + 1) ∧ (W.take i).length = i := by
 obtain ⟨hl, e⟩ := List.getElem?_eq_some_iff.mp e
 constructor
 · have h1 := List.take_append_drop i W
   have h2 : W.drop i = x :: W.drop (i + 1) := by rw [List.drop_eq_getElem_cons hl, e]
   rw [h2] at h1; exact h1.symm
 · rw [List.length_take]; omega
theorem h_eq {W : List Way} {i : Nat} {x : Way} (e : W[i]? = some x) : h W i = hOne (hl (W.take i)) x := by
 obtain ⟨e1, e2⟩ := split_at e
 have := h_at (W.take i) (W.drop (i + 1)) x
 rw [← e1, e2] at this
 exact this
theorem h_none {W : List Way} {i : Nat} {x : List Int} (e : W[i]? = some (x, none)) : h W i = 0 := by rw [h_eq e]; rfl
theorem h_some {W : List Way} {i : Nat} {x : List Int} {q : Nat} {m : Mv} (e : W[i]? = some (x, some (q, m))) (hq : q < i) : h W i = h W q + 1 := by
 rw [h_eq e]
 obtain ⟨e1, e2⟩ := split_at e
 show (hl (W.take i)).getD q 0 + 1 = _
 have h1 : h ((W.take i) ++ (x, some (q, m)) :: W.drop (i + 1)) q = h (W.take i) q := h_pre (by omega)
 rw [← e1] at h1
 rw [h1]; rfl
section
variable {sz st : List Int} {ms done : List Mv} {p P : Nat} {W : List Way}
theorem get_lt {i : Nat} (hi : i < W.length) : ∃ x, W[i]? = some x := ⟨W[i], by simp [hi]⟩
theorem h_mono (w : WIn sz ms st p P done W) : ∀ (j i : Nat), i ≤ j → j < W.length → h W i ≤ h W j := by
 intro j
 induction j using Nat.strongRecOn with
 | ind j ih =>
   intro i hij hj
   obtain ⟨⟨x, xo⟩, hx⟩ := get_lt (W := W) (i := i) (by omega)
   obtain ⟨⟨y, yo⟩, hy⟩ := get_lt hj
   cases xo with
   | none => rw [h_none hx]; exact Nat.zero_le _
   | some qm =>
     obtain ⟨q, m⟩ := qm
     have p1 := (w.par i x q m hx).2.1
     cases yo with
     | none => have := w.non j y hy; omega
     | some qm' =>
       obtain ⟨q', m'⟩ := qm'
       have p2 := (w.par j y q' m' hy).2.1
       have := w.mono i j x y q m q' m' hij hx hy
       rw [h_some hx p1, h_some hy p2]
       have := ih q' p2 q this (by omega)
       omega
theorem h_step (w : WIn sz ms st W.length P [] W) {i : Nat} {x : Way} {m : Mv} (hx : W[i]? = some x) (hm : m ∈ ms) : ∃ (j : Nat) (y : Way), W[j]? = some y ∧ y.1 = behind sz x.1 m ∧ h W j ≤ h W i + 1 := by
 have hi := (List.getElem?_eq_some_iff.mp hx).1
 obtain ⟨j, y, hy, e, c⟩ := w.cls i x m hx (.inl ⟨hi, hm⟩)
 refine ⟨j, y, hy, e, ?_⟩
 obtain ⟨y1, y2⟩ := y
 rcases c with c | ⟨q, m', c, hq⟩
 · have c' : y2 = none := c
   subst c'
   rw [h_none hy]; exact Nat.zero_le _
 · have c' : y2 = some (q, m') := c
   subst c'
   rw [h_some hy (w.par j _ _ _ hy).2.1]
   have := h_mono w i q hq hi
   omega
def back (W : List Way) : Nat → Nat → List Mv
 | 0, _ => []
 | f + 1, i => match W[i]? with
   | some (_, some (q, m)) => m :: back W f q
   | _ => []
theorem back_ok (w : WIn sz ms st p P done W) : ∀ (f i : Nat) (x : Way), i < f → W[i]? = some x → (back W f i).length = h W i ∧ (back W f i).reverse.foldl (behind sz) st = x.1 ∧ ∀ m ∈ back W f i, m ∈ ms
 | 0, i, x, hf, _ => by omega
 | f + 1, i, (x, none), hf, hx => by
   have e0 := w.non i x hx
   subst e0
   have := w.hd
   rw [hx] at this; cases this
   rw [h_none hx]
   simp [back, hx]
 | f + 1, i, (x, some (q, m)), hf, hx => by
   obtain ⟨_, hq, hm, y, hy, e⟩ := w.par i x q m hx
   obtain ⟨a, b, c⟩ := back_ok w f q y (by omega) hy
   have e1 : back W (f + 1) i = m :: back W f q := by simp [back, hx]
   rw [e1, h_some hx hq]
   refine ⟨by simp [a], ?_, ?_⟩
   · rw [List.reverse_cons, List.foldl_append, b]
     simp [e]
   · intro m' hm'
     rcases List.mem_cons.mp hm' with z | z
     · rw [z]; exact hm
     · exact c m' z
end
end J
namespace Jug
open PySem L2
def top (i : Nat) : Stmt := PySem.Challenge.pw_jughouse_k05_whole_fewest.main.body.getD i (.Pass ⟨0, 0, 0, 0⟩)
abbrev s_is_number : Stmt := top 10
theorem sc_is_number : FS ["value", "least", "most"] ["value", "least", "most"] (dZ s_is_number) := ⟨rfl, rfl, rfl, by decide +kernel, rfl, by decide +kernel, by decide +kernel⟩
abbrev s_is_jug : Stmt := top 11
theorem sc_is_jug : FS ["value"] ["value"] (dZ s_is_jug) := ⟨rfl, rfl, rfl, by decide +kernel, rfl, by decide +kernel, by decide +kernel⟩
abbrev s_held_in : Stmt := top 12
theorem sc_held_in : FS ["house", "state", "held", "sizes", "many", "size"] ["house", "state"] (dZ s_held_in) := ⟨rfl, rfl, rfl, by decide +kernel, rfl, by decide +kernel, by decide +kernel⟩
abbrev s_check_jug : Stmt := top 15
theorem sc_check_jug : FS ["jug"] ["jug"] (dZ s_check_jug) := ⟨rfl, rfl, rfl, by decide +kernel, rfl, by decide +kernel, by decide +kernel⟩
abbrev s_check_amount : Stmt := top 17
theorem sc_check_amount : FS ["many"] ["many"] (dZ s_check_amount) := ⟨rfl, rfl, rfl, by decide +kernel, rfl, by decide +kernel, by decide +kernel⟩
abbrev s_jugs_in : Stmt := top 18
theorem sc_jugs_in : FS ["jugs", "told", "jug"] ["jugs"] (dZ s_jugs_in) := ⟨rfl, rfl, rfl, by decide +kernel, rfl, by decide +kernel, by decide +kernel⟩
abbrev s_amounts_in : Stmt := top 19
theorem sc_amounts_in : FS ["state", "told", "many"] ["state"] (dZ s_amounts_in) := ⟨rfl, rfl, rfl, by decide +kernel, rfl, by decide +kernel, by decide +kernel⟩
abbrev s_check_house_has : Stmt := top 20
theorem sc_check_house_has : FS ["house", "jug"] ["house", "jug"] (dZ s_check_house_has) := ⟨rfl, rfl, rfl, by decide +kernel, rfl, by decide +kernel, by decide +kernel⟩
abbrev s_check_state_of : Stmt := top 22
theorem sc_check_state_of : FS ["house", "state"] ["house", "state"] (dZ s_check_state_of) := ⟨rfl, rfl, rfl, by decide +kernel, rfl, by decide +kernel, by decide +kernel⟩
abbrev s_Goal_come : Stmt := inClass (top 23) 0
theorem sc_Goal_come : FS ["self", "house", "state", "held"] ["self", "house", "state"] (dZ s_Goal_come) := ⟨rfl, rfl, rfl, by decide +kernel, rfl, by decide +kernel, by decide +kernel⟩
abbrev s_Goal_met_by : Stmt := inClass (top 23) 1
theorem sc_Goal_met_by : FS ["self", "house", "held"] ["self", "house", "held"] (dZ s_Goal_met_by) := ⟨rfl, rfl, rfl, by decide +kernel, rfl, by decide +kernel, by decide +kernel⟩
abbrev s_Holds_init : Stmt := inClass (top 24) 0
theorem sc_Holds_init : FS ["self", "jug", "many"] ["self", "jug", "many"] (dZ s_Holds_init) := ⟨rfl, rfl, rfl, by decide +kernel, rfl, by decide +kernel, by decide +kernel⟩
abbrev s_Holds_met_by : Stmt := inClass (top 24) 1
theorem sc_Holds_met_by : FS ["self", "house", "held"] ["self", "house", "held"] (dZ s_Holds_met_by) := ⟨rfl, rfl, rfl, by decide +kernel, rfl, by decide +kernel, by decide +kernel⟩
abbrev s_Some_init : Stmt := inClass (top 25) 0
theorem sc_Some_init : FS ["self", "many"] ["self", "many"] (dZ s_Some_init) := ⟨rfl, rfl, rfl, by decide +kernel, rfl, by decide +kernel, by decide +kernel⟩
abbrev s_Some_met_by : Stmt := inClass (top 25) 1
theorem sc_Some_met_by : FS ["self", "house", "held"] ["self", "house", "held"] (dZ s_Some_met_by) := ⟨rfl, rfl, rfl, by decide +kernel, rfl, by decide +kernel, by decide +kernel⟩
abbrev s_Sum_init : Stmt := inClass (top 26) 0
theorem sc_Sum_init : FS ["self", "jugs", "many"] ["self", "jugs", "many"] (dZ s_Sum_init) := ⟨rfl, rfl, rfl, by decide +kernel, rfl, by decide +kernel, by decide +kernel⟩
abbrev s_Sum_met_by : Stmt := inClass (top 26) 1
theorem sc_Sum_met_by : FS ["self", "house", "held", "jug"] ["self", "house", "held"] (dZ s_Sum_met_by) := ⟨rfl, rfl, rfl, by decide +kernel, rfl, by decide +kernel, by decide +kernel⟩
abbrev s_Whole_init : Stmt := inClass (top 27) 0
theorem sc_Whole_init : FS ["self", "state"] ["self", "state"] (dZ s_Whole_init) := ⟨rfl, rfl, rfl, by decide +kernel, rfl, by decide +kernel, by decide +kernel⟩
abbrev s_Whole_met_by : Stmt := inClass (top 27) 1
theorem sc_Whole_met_by : FS ["self", "house", "held"] ["self", "house", "held"] (dZ s_Whole_met_by) := ⟨rfl, rfl, rfl, by decide +kernel, rfl, by decide +kernel, by decide +kernel⟩
abbrev s_check_goal : Stmt := top 28
theorem sc_check_goal : FS ["goal"] ["goal"] (dZ s_check_goal) := ⟨rfl, rfl, rfl, by decide +kernel, rfl, by decide +kernel, by decide +kernel⟩
abbrev s_ways_from : Stmt := top 30
theorem sc_ways_from : FS ["house", "state", "start", "moves", "ways", "row", "place", "here", "move", "behind"] ["house", "state"] (dZ s_ways_from) := ⟨rfl, rfl, rfl, by decide +kernel, rfl, by decide +kernel, by decide +kernel⟩
abbrev s_Poured_init : Stmt := inClass (top 33) 0
theorem sc_Poured_init : FS ["self", "pours", "heights"] ["self", "pours", "heights"] (dZ s_Poured_init) := ⟨rfl, rfl, rfl, by decide +kernel, rfl, by decide +kernel, by decide +kernel⟩
abbrev s_Barred_init : Stmt := inClass (top 34) 0
theorem sc_Barred_init : FS ["self", "among"] ["self", "among"] (dZ s_Barred_init) := ⟨rfl, rfl, rfl, by decide +kernel, rfl, by decide +kernel, by decide +kernel⟩
abbrev s_nearest : Stmt := top 35
theorem sc_nearest : FS ["house", "ways", "goal", "state"] ["house", "ways", "goal"] (dZ s_nearest) := ⟨rfl, rfl, rfl, by decide +kernel, rfl, by decide +kernel, by decide +kernel⟩
abbrev s_moves_to : Stmt := top 36
theorem sc_moves_to : FS ["ways", "state", "back", "way"] ["ways", "state"] (dZ s_moves_to) := ⟨rfl, rfl, rfl, by decide +kernel, rfl, by decide +kernel, by decide +kernel⟩
abbrev s_heights_in : Stmt := top 37
theorem sc_heights_in : FS ["ways", "heights", "state", "way"] ["ways"] (dZ s_heights_in) := ⟨rfl, rfl, rfl, by decide +kernel, rfl, by decide +kernel, by decide +kernel⟩
abbrev s_fewest : Stmt := top 38
theorem sc_fewest : FS ["house", "state", "goal", "ways", "last"] ["house", "state", "goal"] (dZ s_fewest) := ⟨rfl, rfl, rfl, by decide +kernel, rfl, by decide +kernel, by decide +kernel⟩
abbrev s_check_jug' : Stmt := top 40
theorem sc_check_jug' : FS ["jug"] ["jug"] (dZ s_check_jug') := ⟨rfl, rfl, rfl, by decide +kernel, rfl, by decide +kernel, by decide +kernel⟩
abbrev s_check_house_has' : Stmt := top 42
theorem sc_check_house_has' : FS ["house", "jug"] ["house", "jug"] (dZ s_check_house_has') := ⟨rfl, rfl, rfl, by decide +kernel, rfl, by decide +kernel, by decide +kernel⟩
abbrev s_check_house_can_tap : Stmt := top 44
theorem sc_check_house_can_tap : FS ["house", "jug"] ["house", "jug"] (dZ s_check_house_can_tap) := ⟨rfl, rfl, rfl, by decide +kernel, rfl, by decide +kernel, by decide +kernel⟩
abbrev s_with_amount : Stmt := top 45
theorem sc_with_amount : FS ["held", "jug", "many", "behind"] ["held", "jug", "many"] (dZ s_with_amount) := ⟨rfl, rfl, rfl, by decide +kernel, rfl, by decide +kernel, by decide +kernel⟩
abbrev s_Move_done : Stmt := inClass (top 46) 0
theorem sc_Move_done : FS ["self", "house", "state", "held"] ["self", "house", "state"] (dZ s_Move_done) := ⟨rfl, rfl, rfl, by decide +kernel, rfl, by decide +kernel, by decide +kernel⟩
abbrev s_Move_held_behind : Stmt := inClass (top 46) 1
theorem sc_Move_held_behind : FS ["self", "house", "held"] ["self", "house", "held"] (dZ s_Move_held_behind) := ⟨rfl, rfl, rfl, by decide +kernel, rfl, by decide +kernel, by decide +kernel⟩
abbrev s_Pour_init : Stmt := inClass (top 47) 0
theorem sc_Pour_init : FS ["self", "one", "other"] ["self", "one", "other"] (dZ s_Pour_init) := ⟨rfl, rfl, rfl, by decide +kernel, rfl, by decide +kernel, by decide +kernel⟩
abbrev s_Pour_held_behind : Stmt := inClass (top 47) 1
theorem sc_Pour_held_behind : FS ["self", "house", "held", "room", "many", "less"] ["self", "house", "held"] (dZ s_Pour_held_behind) := ⟨rfl, rfl, rfl, by decide +kernel, rfl, by decide +kernel, by decide +kernel⟩
abbrev s_Fill_init : Stmt := inClass (top 48) 0
theorem sc_Fill_init : FS ["self", "jug"] ["self", "jug"] (dZ s_Fill_init) := ⟨rfl, rfl, rfl, by decide +kernel, rfl, by decide +kernel, by decide +kernel⟩
abbrev s_Fill_held_behind : Stmt := inClass (top 48) 1
theorem sc_Fill_held_behind : FS ["self", "house", "held"] ["self", "house", "held"] (dZ s_Fill_held_behind) := ⟨rfl, rfl, rfl, by decide +kernel, rfl, by decide +kernel, by decide +kernel⟩
abbrev s_Empty_init : Stmt := inClass (top 49) 0
theorem sc_Empty_init : FS ["self", "jug"] ["self", "jug"] (dZ s_Empty_init) := ⟨rfl, rfl, rfl, by decide +kernel, rfl, by decide +kernel, by decide +kernel⟩
abbrev s_Empty_held_behind : Stmt := inClass (top 49) 1
theorem sc_Empty_held_behind : FS ["self", "house", "held"] ["self", "house", "held"] (dZ s_Empty_held_behind) := ⟨rfl, rfl, rfl, by decide +kernel, rfl, by decide +kernel, by decide +kernel⟩
abbrev s_moves_in : Stmt := top 50
theorem sc_moves_in : FS ["moves", "told", "move"] ["moves"] (dZ s_moves_in) := ⟨rfl, rfl, rfl, by decide +kernel, rfl, by decide +kernel, by decide +kernel⟩
abbrev s_sizes_in : Stmt := top 53
theorem sc_sizes_in : FS ["sizes", "told", "size"] ["sizes"] (dZ s_sizes_in) := ⟨rfl, rfl, rfl, by decide +kernel, rfl, by decide +kernel, by decide +kernel⟩
abbrev s_count_states : Stmt := top 54
theorem sc_count_states : FS ["sizes", "many", "size"] ["sizes"] (dZ s_count_states) := ⟨rfl, rfl, rfl, by decide +kernel, rfl, by decide +kernel, by decide +kernel⟩
abbrev s_pours_among : Stmt := top 55
theorem sc_pours_among : FS ["many", "pours", "one", "other"] ["many"] (dZ s_pours_among) := ⟨rfl, rfl, rfl, by decide +kernel, rfl, by decide +kernel, by decide +kernel⟩
abbrev s_House_init : Stmt := inClass (top 56) 0
theorem sc_House_init : FS ["self", "sizes", "tap"] ["self", "sizes", "tap"] (dZ s_House_init) := ⟨rfl, rfl, rfl, by decide +kernel, rfl, by decide +kernel, by decide +kernel⟩
abbrev s_House_sizes : Stmt := inClass (top 56) 1
theorem sc_House_sizes : FS ["self"] ["self"] (dZ s_House_sizes) := ⟨rfl, rfl, rfl, by decide +kernel, rfl, by decide +kernel, by decide +kernel⟩
abbrev s_House_moves : Stmt := inClass (top 56) 2
theorem sc_House_moves : FS ["self", "many", "told"] ["self"] (dZ s_House_moves) := ⟨rfl, rfl, rfl, by decide +kernel, rfl, by decide +kernel, by decide +kernel⟩
abbrev s_move_text : Stmt := top 58
theorem sc_move_text : FS ["move"] ["move"] (dZ s_move_text) := ⟨rfl, rfl, rfl, by decide +kernel, rfl, by decide +kernel, by decide +kernel⟩
abbrev s_routine_text : Stmt := top 59
theorem sc_routine_text : FS ["moves"] ["moves"] (dZ s_routine_text) := ⟨rfl, rfl, rfl, by decide +kernel, rfl, by decide +kernel, by decide +kernel⟩
abbrev s__law_cell_at : Stmt := top 61
theorem sc__law_cell_at : FS ["_law_script", "_law_k"] ["_law_script", "_law_k"] (dZ s__law_cell_at) := ⟨rfl, rfl, rfl, by decide +kernel, rfl, by decide +kernel, by decide +kernel⟩
abbrev s__law_draw : Stmt := top 62
theorem sc__law_draw : FS ["_law_cell", "_law_k", "_law_many", "_law_primes"] ["_law_cell", "_law_k", "_law_many"] (dZ s__law_draw) := ⟨rfl, rfl, rfl, by decide +kernel, rfl, by decide +kernel, by decide +kernel⟩
abbrev s__law_sizes : Stmt := top 63
theorem sc__law_sizes : FS ["_law_cell", "_law_many", "_law_most"] ["_law_cell"] (dZ s__law_sizes) := ⟨rfl, rfl, rfl, by decide +kernel, rfl, by decide +kernel, by decide +kernel⟩
abbrev s__law_state : Stmt := top 64
theorem sc__law_state : FS ["_law_cell", "_law_sizes_here", "_law_state_here", "_law_k", "_law_kind"] ["_law_cell", "_law_sizes_here"] (dZ s__law_state) := ⟨rfl, rfl, rfl, by decide +kernel, rfl, by decide +kernel, by decide +kernel⟩
abbrev s__law_all_moves : Stmt := top 65
theorem sc__law_all_moves : FS ["_law_sizes_here", "_law_tap", "_law_jugs", "_law_found", "_law_one"] ["_law_sizes_here", "_law_tap"] (dZ s__law_all_moves) := ⟨rfl, rfl, rfl, by decide +kernel, rfl, by decide +kernel, by decide +kernel⟩
abbrev s__law_behind : Stmt := top 66
theorem sc__law_behind : FS ["_law_sizes_here", "_law_state_here", "_law_told_here", "_law_sort", "_law_one", "_law_other", "_law_made_here", "_law_much"] ["_law_sizes_here", "_law_state_here", "_law_told_here"] (dZ s__law_behind) := ⟨rfl, rfl, rfl, by decide +kernel, rfl, by decide +kernel, by decide +kernel⟩
abbrev s__law_told : Stmt := top 67
theorem sc__law_told : FS ["_law_move", "_law_words"] ["_law_move"] (dZ s__law_told) := ⟨rfl, rfl, rfl, by decide +kernel, rfl, by decide +kernel, by decide +kernel⟩
abbrev s__law_goal : Stmt := top 68
theorem sc__law_goal : FS ["_law_cell", "_law_sizes_here", "_law_state_here", "_law_many", "_law_sort", "_law_mask"] ["_law_cell", "_law_sizes_here", "_law_state_here"] (dZ s__law_goal) := ⟨rfl, rfl, rfl, by decide +kernel, rfl, by decide +kernel, by decide +kernel⟩
abbrev s__law_met : Stmt := top 69
theorem sc__law_met : FS ["_law_told_here", "_law_state_here", "_law_sort", "_law_jugs", "_law_thing"] ["_law_told_here", "_law_state_here"] (dZ s__law_met) := ⟨rfl, rfl, rfl, by decide +kernel, rfl, by decide +kernel, by decide +kernel⟩
abbrev s__law_made : Stmt := top 70
theorem sc__law_made : FS ["_law_told_here", "_law_sort", "_law_jugs", "_law_thing"] ["_law_told_here"] (dZ s__law_made) := ⟨rfl, rfl, rfl, by decide +kernel, rfl, by decide +kernel, by decide +kernel⟩
abbrev s__law_is_state : Stmt := top 71
theorem sc__law_is_state : FS ["_law_sizes_here", "_law_state_here", "_law_k"] ["_law_sizes_here", "_law_state_here"] (dZ s__law_is_state) := ⟨rfl, rfl, rfl, by decide +kernel, rfl, by decide +kernel, by decide +kernel⟩
abbrev s__law_closed : Stmt := top 72
theorem sc__law_closed : FS ["_law_sizes_here", "_law_tap", "_law_heights", "_law_moves", "_law_state_here", "_law_told_here", "_law_there"] ["_law_sizes_here", "_law_tap", "_law_heights"] (dZ s__law_closed) := ⟨rfl, rfl, rfl, by decide +kernel, rfl, by decide +kernel, by decide +kernel⟩
abbrev s__law_poured : Stmt := top 73
theorem sc__law_poured : FS ["_law_found", "_law_sizes_here", "_law_tap", "_law_state_here", "_law_goal_here", "_law_heights", "_law_one", "_law_height", "_law_now", "_law_move", "_law_told_here"] ["_law_found", "_law_sizes_here", "_law_tap", "_law_state_here", "_law_goal_here"] (dZ s__law_poured) := ⟨rfl, rfl, rfl, by decide +kernel, rfl, by decide +kernel, by decide +kernel⟩
abbrev s__law_barred : Stmt := top 74
theorem sc__law_barred : FS ["_law_found", "_law_sizes_here", "_law_tap", "_law_state_here", "_law_goal_here", "_law_heights", "_law_one"] ["_law_found", "_law_sizes_here", "_law_tap", "_law_state_here", "_law_goal_here"] (dZ s__law_barred) := ⟨rfl, rfl, rfl, by decide +kernel, rfl, by decide +kernel, by decide +kernel⟩
abbrev s_law : Stmt := top 75
theorem sc_law : FS ["_law_script", "_law_sizes_here", "_law_tap", "_law_house", "_law_state_here", "_law_other", "_law_k", "_law_moves", "_law_goal_here", "_law_found", "_law_told_here", "_law_copied"] ["_law_script"] (dZ s_law) := ⟨rfl, rfl, rfl, by decide +kernel, rfl, by decide +kernel, by decide +kernel⟩
end Jug
namespace Jug
open PySem L2
structure Bt (mg : Str → Option Value) : Prop where
 isinstance : mg "isinstance" = none
 int : mg "int" = none
 bool : mg "bool" = none
 tuple : mg "tuple" = none
 list : mg "list" = none
 len : mg "len" = none
 zip : mg "zip" = none
 range : mg "range" = none
 min : mg "min" = none
 str : mg "str" = none
 jugs : ∃ t, mg "MOST_JUGS" = some (.int 4 t)
 size : ∃ t, mg "MOST_SIZE" = some (.int 60 t)
theorem bI : bootBuiltins "isinstance" = some (.builtin "isinstance") := by decide +kernel
theorem bt_int : bootBuiltins "int" = some (.type "int") := by decide +kernel
theorem bt_bool : bootBuiltins "bool" = some (.type "bool") := by decide +kernel
theorem bt_tuple : bootBuiltins "tuple" = some (.type "tuple") := by decide +kernel
theorem bt_list : bootBuiltins "list" = some (.type "list") := by decide +kernel
theorem bt_min : bootBuiltins "min" = some (.builtin "min") := by decide +kernel
theorem bt_str : bootBuiltins "str" = some (.type "str") := by decide +kernel
section
variable {P : Program} {w : World} {K : PySem.W.Frag} {mg : Str → Option Value} {base : Heap}
theorem kit_ii : PySem.W.kitOne K (.type "int") (.type "int") = some true := by
 unfold PySem.W.kitOne
 rw [if_pos (by simp)]
theorem kit_ib : PySem.W.kitOne K (.type "int") (.type "bool") = some false := by
 unfold PySem.W.kitOne
 rw [if_neg (by decide)]
 with_unfolding_all rfl
theorem kit_tt : PySem.W.kitOne K (.type "tuple") (.type "tuple") = some true := by
 unfold PySem.W.kitOne
 rw [if_pos (by simp)]
theorem kit_ll : PySem.W.kitOne K (.type "list") (.type "list") = some true := by
 unfold PySem.W.kitOne
 rw [if_pos (by simp)]
theorem kit_bb : PySem.W.kitOne K (.type "bool") (.type "bool") = some true := by
 unfold PySem.W.kitOne
 rw [if_pos (by simp)]
def sp_is_number : Sp := fun vs H Q _ => ∃ i lo hi : Int, vs = [.int i, .int lo, .int hi] ∧ Q (.bl (decide (lo ≤ i) && decide (i ≤ hi))) H
theorem ok_is_number {f : Addr} {fd : FuncData} (F : Fun K "is_number" "is_number" s_is_number f fd) (B : Bt mg) : FnOk P w K mg base CX0 1 f fd ["value", "least", "most"] sp_is_number := by
 refine F.ok sc_is_number (fun vs H Q E h => ?_) (fun cdv A outer s H vs Q E hr h => ?_)
 · obtain ⟨i, lo, hi, rfl, _⟩ := h
   rfl
 · obtain ⟨i, lo, hi, rfl, k⟩ := h
   refine ⟨_, s1' (sR (pe_and (eZ call_isinst (by rfl) B.isinstance bI (pK (pv 0) (pK (pe_bltn (v := .ty "int") (by rfl) B.int bt_int rfl) pN)))
     (pe_and (pe_not (eZ call_isinst (by rfl) B.isinstance bI (pK (pv 0) (pK (pe_bltn (v := .ty "bool") (by rfl) B.bool bt_bool rfl) pN))))
     (pe_one (pe_chain op_le op_le (pv 1) (pv 0) (pv 2)))))), ?_⟩
   refine ⟨_, rfl, _, _, _, _, _, rfl, .ty "int", .int i, kit_ii, _, rfl, iteT ?_⟩
   refine ⟨_, rfl, _, _, _, _, _, rfl, .ty "bool", .int i, kit_ib, _, rfl, _, rfl, iteT ?_⟩
   refine ⟨_, rfl, _, rfl, _, _, rfl, rfl, _, rfl, ?_⟩
   by_cases h1 : lo ≤ i
   · rw [decide_eq_true h1]
     refine iteT ⟨_, rfl, _, _, rfl, rfl, ?_⟩
     rw [decide_eq_true h1, Bool.true_and] at k
     exact k
   · rw [decide_eq_false h1]
     refine iteF ?_
     rw [decide_eq_false h1, Bool.false_and] at k
     exact k
def sp_is_jug : Sp := fun vs H Q _ => ∃ i : Int, vs = [.int i] ∧ Q (.bl (decide (0 ≤ i) && decide (i ≤ 3))) H
theorem ok_is_jug {f : Addr} {fd : FuncData} (F : Fun K "is_jug" "is_jug" s_is_jug f fd) (B : Bt mg) (N : FnB P w K mg base 1 "is_number" ["value", "least", "most"] sp_is_number) : FnOk P w K mg base CX0 2 f fd ["value"] sp_is_jug := by
 obtain ⟨t4, e4⟩ := B.jugs
 refine F.ok sc_is_jug (fun vs H Q E h => ?_) (fun cdv A outer s H vs Q E hr h => ?_)
 · obtain ⟨i, rfl, _⟩ := h
   rfl
 · obtain ⟨i, rfl, k⟩ := h
   refine ⟨_, s1' (sR (eF N hr (pK (pv 0) (pK eI (pK (pe_op op_sub (pe_glob (v := .int 4) (by rfl) e4 ⟨_, rfl⟩) eI) pN))))), ?_⟩
   exact ⟨_, rfl, _, _, rfl, rfl, i, 0, 3, rfl, k⟩
end
theorem mem_ints {l : List Int} {i : Nat} {x : V} (h : (l.map V.int)[i]? = some x) : ∃ z, l[i]? = some z ∧ x = .int z := by
 rw [List.getElem?_map] at h
 cases e : l[i]? with
 | none => rw [e] at h; cases h
 | some z => rw [e] at h; exact ⟨z, rfl, (Option.some.inj h).symm⟩
theorem at0_of {l : List Int} {i : Nat} {z : Int} (h : l[i]? = some z) : J.at0 l i = z := by
 unfold J.at0
 rw [List.getD_eq_getElem?_getD, h]; rfl
theorem get_of {l : List Int} {i : Nat} (h : i < l.length) : l[i]? = some (J.at0 l i) := by
 unfold J.at0
 rw [List.getD_eq_getElem?_getD, List.getElem?_eq_getElem h]; rfl
theorem getV_of {l : List Int} {i : Nat} (h : i < l.length) : (l.map V.int)[i]? = some (.int (J.at0 l i)) := by
 rw [List.getElem?_map, get_of h]; rfl
theorem st_at {sz st : List Int} {i : Nat} {z y : Int} (h : J.IsSt sz st) (h1 : st[i]? = some z) (h2 : sz[i]? = some y) : 0 ≤ z ∧ z ≤ y := by
 have := h.bnd i (List.getElem?_eq_some_iff.mp h2).1
 rw [at0_of h1, at0_of h2] at this
 exact this
def hF (t : Addr) (tap : Bool) : List (Str × V) := putF "tap" (.bl tap) (putF "jug_sizes" (.ref t) [])
theorem n_tap_js : ¬ (("tap" : Str) = "jug_sizes") := by decide +kernel
theorem hF_js (t : Addr) (tap : Bool) : (hF t tap).lookup ("jug_sizes" : Str) = some (.ref t) := by
 unfold hF
 rw [lP, if_neg (fun e => n_tap_js e.symm), lP, if_pos rfl]
theorem hF_tap (t : Addr) (tap : Bool) : (hF t tap).lookup ("tap" : Str) = some (.bl tap) := by
 unfold hF
 rw [lP, if_pos rfl]
theorem hF_no (t : Addr) (tap : Bool) {m : Str} (h1 : ¬ m = "tap") (h2 : ¬ m = "jug_sizes") : (hF t tap).lookup m = none := by
 unfold hF
 rw [lP, if_neg h1, lP, if_neg h2]
 rfl
def House (CH : Addr) (H : Hp) (p : Addr) (sz : List Int) (tap : Bool) : Prop := ∃ dx t, H p = some (.ins CH dx (hF t tap)) ∧ H t = some (.tup (sz.map V.int))
theorem House.mono {CH : Addr} {H H' : Hp} {p : Addr} {sz : List Int} {tap : Bool} (h : House CH H p sz tap) (s : Same H H') : House CH H' p sz tap := by
 obtain ⟨dx, t, h1, h2⟩ := h
 exact ⟨dx, t, s _ _ h1, s _ _ h2⟩
structure CHs (K : PySem.W.Frag) (C : Addr) : Prop where
 cl : Cls K C
 js : NoAttr K C "jug_sizes"
 tap : NoAttr K C "tap"
section
variable {P : Program} {w : World} {K : PySem.W.Frag} {mg : Str → Option Value} {base : Heap} {CH : Addr}
def sp_sizes (CH : Addr) : Sp := fun vs H Q _ => ∃ p sz tap, vs = [.ref p] ∧ House CH H p sz tap ∧ ∀ l, H l = none → Q (.ref l) (upd H l (.lst (sz.map V.int)))
theorem ok_sizes {f : Addr} {fd : FuncData} (F : Fun K "sizes" "House.sizes" s_House_sizes f fd) (B : Bt mg) (C : CHs K CH) : FnOk P w K mg base CX0 1 f fd ["self"] (sp_sizes CH) := by
 refine F.ok sc_House_sizes (fun vs H Q E h => ?_) (fun cdv A outer s H vs Q E hr h => ?_)
 · obtain ⟨p, sz, tap, rfl, _⟩ := h
   rfl
 · obtain ⟨p, sz, tap, rfl, ⟨dx, t, hp, ht⟩, k⟩ := h
   refine ⟨_, s1' (sR (eT cL (by rfl) B.list bt_list (pK (pe_fld (pv 0) rfl) pN))), ?_⟩
   exact ⟨_, rfl, p, CH, dx, _, _, rfl, hp, C.cl, C.js, hF_js _ _, t, _, rfl, .inr (SqT.of ht), fun l hl => k l hl⟩
def sp_held_in (CH : Addr) : Sp := fun vs H Q _ => ∃ p sz tap a st, vs = [.ref p, .ref a] ∧ House CH H p sz tap ∧ H a = some (.tup (st.map V.int)) ∧ J.IsSt sz st ∧
 ∀ l H', Same H H' → H l = none → H' l = some (.lst (st.map V.int)) → Q (.ref l) H'
theorem ok_held_in {f : Addr} {fd : FuncData} (F : Fun K "held_in" "held_in" s_held_in f fd) (B : Bt mg) (N : FnB P w K mg base 1 "is_number" ["value", "least", "most"] sp_is_number)
   (S : MeB P w K mg base 1 CH "sizes" ["self"] (sp_sizes CH)) : FnOk P w K mg base CX0 2 f fd ["house", "state"] (sp_held_in CH) := by
 refine F.ok sc_held_in (fun vs H Q E h => ?_) (fun cdv A outer s H vs Q E hr h => ?_)
 · obtain ⟨p, sz, tap, a, st, rfl, _⟩ := h
   rfl
 · obtain ⟨p, sz, tap, a, st, rfl, hh, ha, hst, k⟩ := h
   refine ⟨_, sK (ps_if (pt_not (pt_val (eZ call_isinst (by rfl) B.isinstance bI (pK (pv 1) (pK (pe_bltn (v := .ty "tuple") (by rfl) B.tuple bt_tuple rfl) pN))))) sV sN)
     (sK (sS (i := 2) sc_held_in.nd rfl (Or.inl rfl) (eT cL (by rfl) B.list bt_list (pK (pv 1) pN)))
     (sK (sS (i := 3) sc_held_in.nd rfl (Or.inl rfl) (pe_me0 S (pv 0) hr))
     (sK (ps_if (pt_cmpR op_ne (eZ call_len_seq (by rfl) B.len PySem.boot_len (pK (pv 2) pN)) (eZ call_len_seq (by rfl) B.len PySem.boot_len (pK (pv 3) pN)) (nomark _)) sV sN)
     (sK (ps_for PassesOwn.never rfl (pi_zip (by rfl) B.zip (pK (pv 2) (pK (pv 3) pN)))
       (pg_tup rfl (pgs_cons (pg_name (i := 4) sc_held_in.nd rfl (Or.inl rfl)) (pgs_cons (pg_name (i := 5) sc_held_in.nd rfl (Or.inl rfl)) pgs_nil)))
       (s1' (ps_if (pt_not (pt_val (eF N hr (pK (pv 4) (pK eI (pK (pv 5) pN)))))) sV sN)))
     (s1' (sR (pv 2))))))), ?_⟩
   refine ⟨_, rfl, _, _, _, _, _, rfl, .ty "tuple", .tup ha, kit_tt, _, rfl, iteF ?_⟩
   refine ⟨_, rfl, a, _, rfl, .inr (SqT.of ha), fun l hl => ?_⟩
   have s1 : Same H (upd H l (.lst (st.map V.int))) := Same.new hl
   obtain ⟨dx, t, hp, ht⟩ := id hh
   refine ⟨_, rfl, p, dx, _, rfl, s1 _ _ hp, hF_no _ _ (by decide +kernel) (by decide +kernel), p, sz, tap, rfl, hh.mono s1, fun m hm => ?_⟩
   have s2 : Same (upd H l (.lst (st.map V.int))) (upd (upd H l (.lst (st.map V.int))) m (.lst (sz.map V.int))) := Same.new hm
   have e1 := s2 _ _ (uS (H := H))
   have hlen : (st.map V.int).length = (sz.map V.int).length := by simp [hst.len]
   refine ⟨_, rfl, l, _, rfl, .inl (SqL.of e1), _, rfl, m, _, rfl, .inl (SqL.of uS), rfl, _, rfl, iteNS (by rw [hlen]) ?_⟩
   refine ⟨_, rfl, _, rfl, l, m, _, _, rfl, SqL.of e1, SqL.of uS, for_zip (xs := st.map V.int) (ys := sz.map V.int) hlen
     (fun i σ H' => ∃ v4 v5, σ = [some (.ref p), some (.ref a), some (.ref l), some (.ref m), v4, v5] ∧ Same (upd (upd H l (.lst (st.map V.int))) m (.lst (sz.map V.int))) H')
     ⟨none, none, rfl, Same.refl _⟩ (fun i σ H' _ ⟨_, _, _, s3⟩ => ⟨SqL.of (s3 _ _ e1), SqL.of (s3 _ _ uS)⟩) ?_ ?_⟩
   · rintro i x y T σ H' hx hy hT ⟨v4, v5, rfl, s3⟩
     obtain ⟨zx, ex, rfl⟩ := mem_ints hx
     obtain ⟨zy, ey, rfl⟩ := mem_ints hy
     have hb := st_at hst ex ey
     refine ⟨T, _, rfl, SqT.of uS, rfl, _, _, rfl, _, _, rfl, rfl, ?_⟩
     refine ⟨_, rfl, _, rfl, zx, 0, zy, rfl, _, rfl, ?_⟩
     rw [decide_eq_true hb.1, decide_eq_true hb.2]
     refine iteF ?_
     exact ⟨_, _, rfl, s3.lay hT⟩
   · rintro σ H' ⟨v4, v5, rfl, s3⟩
     exact ⟨_, rfl, k l H' (s1.trans (s2.trans s3)) hl (s3 _ _ e1)⟩
end
end Jug
namespace Jug
open PySem L2
structure Cz where
 P : Addr
 F : Addr
 E : Addr
def pF (a b : Nat) : List (Str × V) := putF "other" (.int b) (putF "one" (.int a) [])
def jF (a : Nat) : List (Str × V) := putF "jug" (.int a) []
theorem n_one_other : ¬ (("one" : Str) = "other") := by decide +kernel
theorem pF_one (a b : Nat) : (pF a b).lookup ("one" : Str) = some (.int a) := by
 unfold pF
 rw [lP, if_neg n_one_other, lP, if_pos rfl]
theorem pF_other (a b : Nat) : (pF a b).lookup ("other" : Str) = some (.int b) := by
 unfold pF
 rw [lP, if_pos rfl]
theorem pF_no (a b : Nat) {m : Str} (h1 : ¬ m = "other") (h2 : ¬ m = "one") : (pF a b).lookup m = none := by
 unfold pF
 rw [lP, if_neg h1, lP, if_neg h2]
 rfl
theorem jF_jug (a : Nat) : (jF a).lookup ("jug" : Str) = some (.int a) := by
 unfold jF
 rw [lP, if_pos rfl]
theorem jF_no (a : Nat) {m : Str} (h1 : ¬ m = "jug") : (jF a).lookup m = none := by
 unfold jF
 rw [lP, if_neg h1]
 rfl
def Cz.cl (Z : Cz) : J.Mv → Addr
 | .pour _ _ => Z.P
 | .fill _ => Z.F
 | .emp _ => Z.E
def fsOf : J.Mv → List (Str × V)
 | .pour a b => pF a b
 | .fill a => jF a
 | .emp a => jF a
def MvAt (Z : Cz) (H : Hp) (p : Addr) (m : J.Mv) : Prop := ∃ dx, H p = some (.ins (Z.cl m) dx (fsOf m))
theorem MvAt.mono {Z : Cz} {H H' : Hp} {p : Addr} {m : J.Mv} (h : MvAt Z H p m) (s : Same H H') : MvAt Z H' p m := let ⟨dx, e⟩ := h; ⟨dx, s _ _ e⟩
structure CPo (K : PySem.W.Frag) (C : Addr) : Prop where
 cl : Cls K C
 one : NoAttr K C "one"
 other : NoAttr K C "other"
structure CJu (K : PySem.W.Frag) (C : Addr) : Prop where
 cl : Cls K C
 jug : NoAttr K C "jug"
theorem ixN_of {n j : Nat} (h : j < n) : ixN n (j : Int) = some j := by
 unfold ixN
 rw [if_pos (by omega), if_pos (by omega)]; simp
theorem map_set_int (l : List Int) (j : Nat) (v : Int) : (l.map V.int).set j (.int v) = (l.set j v).map V.int := by
 rw [List.map_set]
section
variable {P : Program} {w : World} {K : PySem.W.Frag} {mg : Str → Option Value} {base : Heap} {CH : Addr} {Z : Cz}
def sp_with_amount : Sp := fun vs H Q _ => ∃ (l : Addr) (xs : List Int) (j : Nat) (v : Int), vs = [.ref l, .int j, .int v] ∧ H l = some (.lst (xs.map V.int)) ∧ j < xs.length ∧
 ∀ m H', Same H H' → H' m = some (.lst ((xs.set j v).map V.int)) → Q (.ref m) H'
theorem ok_with_amount {f : Addr} {fd : FuncData} (F : Fun K "with_amount" "with_amount" s_with_amount f fd) (B : Bt mg) : FnOk P w K mg base CX0 1 f fd ["held", "jug", "many"] sp_with_amount := by
 refine F.ok sc_with_amount (fun vs H Q E h => ?_) (fun cdv A outer s H vs Q E hr h => ?_)
 · obtain ⟨l, xs, j, v, rfl, _⟩ := h
   rfl
 · obtain ⟨l, xs, j, v, rfl, hl, hj, k⟩ := h
   refine ⟨_, sK (sS (i := 3) sc_with_amount.nd rfl (Or.inl rfl) (eT cL (by rfl) B.list bt_list (pK (pv 0) pN)))
     (sK (ps_asg (pv 2) (pg_sub (pv 3) (pv 1) set_list)) (s1' (sR (pv 3)))), ?_⟩
   refine ⟨_, rfl, l, _, rfl, .inl (SqL.of hl), fun m hm => ?_⟩
   refine ⟨_, rfl, _, rfl, _, rfl, m, _, _, j, rfl, rfl, uS, ixN_of (by simpa using hj), ?_⟩
   refine ⟨_, rfl, k m _ ((Same.new hm).put hm) ?_⟩
   rw [uS, map_set_int]
def sp_check_jug : Sp := fun vs H Q _ => ∃ (j : Nat), vs = [.int j] ∧ j ≤ 3 ∧ Q .non H
theorem ok_check_jug {f : Addr} {fd : FuncData} (F : Fun K "check_jug" "check_jug" s_check_jug' f fd) (N : FnB P w K mg base 2 "is_jug" ["value"] sp_is_jug) : FnOk P w K mg base CX0 3 f fd ["jug"] sp_check_jug := by
 refine F.ok sc_check_jug' (fun vs H Q E h => ?_) (fun cdv A outer s H vs Q E hr h => ?_)
 · obtain ⟨j, rfl, _⟩ := h
   rfl
 · obtain ⟨j, rfl, hj, k⟩ := h
   refine ⟨_, s1' (ps_if (pt_not (pt_val (eF N hr (pK (pv 0) pN)))) sV sN), ?_⟩
   refine ⟨_, rfl, (j : Int), rfl, _, rfl, ?_⟩
   rw [decide_eq_true (by omega : (0 : Int) ≤ j), decide_eq_true (by omega : (j : Int) ≤ 3)]
   exact iteF k
def sp_check_house_has (CH : Addr) : Sp := fun vs H Q _ => ∃ p sz tap, ∃ (j : Nat), vs = [.ref p, .int j] ∧ House CH H p sz tap ∧ j < sz.length ∧ ∀ H', Same H H' → Q .non H'
theorem ok_check_house_has {f : Addr} {fd : FuncData} (F : Fun K "check_house_has" "check_house_has" s_check_house_has' f fd) (B : Bt mg) (S : MeB P w K mg base 1 CH "sizes" ["self"] (sp_sizes CH)) :
   FnOk P w K mg base CX0 2 f fd ["house", "jug"] (sp_check_house_has CH) := by
 refine F.ok sc_check_house_has' (fun vs H Q E h => ?_) (fun cdv A outer s H vs Q E hr h => ?_)
 · obtain ⟨p, sz, tap, j, rfl, _⟩ := h
   rfl
 · obtain ⟨p, sz, tap, j, rfl, hh, hj, k⟩ := h
   obtain ⟨dx, t, hp, ht⟩ := id hh
   refine ⟨_, s1' (ps_if (pt_cmpR op_ge (pv 1) (eZ call_len_seq (by rfl) B.len PySem.boot_len (pK (pe_me0 S (pv 0) hr) pN)) (nomark _)) sV sN), ?_⟩
   refine ⟨_, rfl, _, rfl, p, dx, _, rfl, hp, hF_no _ _ (by decide +kernel) (by decide +kernel), p, sz, tap, rfl, hh, fun m hm => ?_⟩
   refine ⟨m, _, rfl, .inl (SqL.of uS), _, _, rfl, rfl, _, rfl, ?_⟩
   rw [decide_eq_false (by simp; omega)]
   exact iteF (k _ (Same.new hm))
def sp_check_house_can_tap (CH : Addr) : Sp := fun vs H Q _ => ∃ p sz, ∃ (j : Nat), vs = [.ref p, .int j] ∧ House CH H p sz true ∧ j < sz.length ∧ ∀ H', Same H H' → Q .non H'
theorem ok_check_house_can_tap {f : Addr} {fd : FuncData} (F : Fun K "check_house_can_tap" "check_house_can_tap" s_check_house_can_tap f fd) (C : CHs K CH) (N : FnB P w K mg base 2 "check_house_has_moves" ["house", "jug"] (sp_check_house_has CH)) :
   FnOk P w K mg base CX0 3 f fd ["house", "jug"] (sp_check_house_can_tap CH) := by
 refine F.ok sc_check_house_can_tap (fun vs H Q E h => ?_) (fun cdv A outer s H vs Q E hr h => ?_)
 · obtain ⟨p, sz, j, rfl, _⟩ := h
   rfl
 · obtain ⟨p, sz, j, rfl, hh, hj, k⟩ := h
   refine ⟨_, sK (ps_expr (eF N hr (pK (pv 0) (pK (pv 1) pN)))) (s1' (ps_if (pt_not (pt_val (pe_fld (pv 0) rfl))) sV sN)), ?_⟩
   refine ⟨_, rfl, _, rfl, p, sz, true, j, rfl, hh, hj, fun H1 s1 => ?_⟩
   obtain ⟨dx, t, hp, ht⟩ := hh.mono s1
   exact ⟨_, rfl, p, CH, dx, _, _, rfl, hp, C.cl, C.tap, hF_tap _ _, _, rfl, iteF (k _ s1)⟩
def sp_Pour_init (Z : Cz) : Sp := fun vs H Q _ => ∃ (p dx : Addr) (a b : Nat), vs = [.ref p, .int a, .int b] ∧ H p = some (.ins Z.P dx []) ∧ a ≤ 3 ∧ b ≤ 3 ∧ a ≠ b ∧
 ∀ H', (∀ c o, H c = some o → c ≠ p → H' c = some o) → H' p = some (.ins Z.P dx (pF a b)) → Q .non H'
theorem ok_Pour_init {f : Addr} {fd : FuncData} (F : Fun K "__init__" "Pour.__init__" s_Pour_init f fd) (C : CPo K Z.P) (N : FnB P w K mg base 3 "check_jug_moves" ["jug"] sp_check_jug) :
   FnOk P w K mg base CX0 4 f fd ["self", "one", "other"] (sp_Pour_init Z) := by
 refine F.ok sc_Pour_init (fun vs H Q E h => ?_) (fun cdv A outer s H vs Q E hr h => ?_)
 · obtain ⟨p, dx, a, b, rfl, _⟩ := h
   rfl
 · obtain ⟨p, dx, a, b, rfl, hp, ha, hb, hab, k⟩ := h
   refine ⟨_, sK (ps_expr (eF N hr (pK (pv 1) pN))) (sK (ps_expr (eF N hr (pK (pv 2) pN)))
     (sK (ps_if (pt_cmpR op_eq (pv 1) (pv 2) (nomark _)) sV sN)
     (sK (ps_fld (pv 0) (pv 1) rfl) (s1' (ps_fld (pv 0) (pv 2) rfl))))), ?_⟩
   refine ⟨_, rfl, a, rfl, ha, ?_⟩
   refine ⟨_, rfl, b, rfl, hb, ?_⟩
   refine ⟨_, rfl, _, rfl, rfl, _, rfl, ?_⟩
   rw [decide_eq_false (by simp; omega)]
   refine iteF ?_
   refine ⟨_, rfl, _, rfl, p, Z.P, dx, [], rfl, hp, C.cl, C.one, (by show 0 < 1000; decide), ?_⟩
   refine ⟨_, rfl, _, rfl, p, Z.P, dx, _, rfl, uS, C.cl, C.other, (by show 1 < 1000; decide), ?_⟩
   exact k _ (fun c o e hc => by rw [uN hc, uN hc]; exact e) uS
def sp_jug_init (C : Addr) : Sp := fun vs H Q _ => ∃ (p dx : Addr) (a : Nat), vs = [.ref p, .int a] ∧ H p = some (.ins C dx []) ∧ a ≤ 3 ∧
 ∀ H', (∀ c o, H c = some o → c ≠ p → H' c = some o) → H' p = some (.ins C dx (jF a)) → Q .non H'
theorem ok_Fill_init {f : Addr} {fd : FuncData} (F : Fun K "__init__" "Fill.__init__" s_Fill_init f fd) (C : CJu K Z.F) (N : FnB P w K mg base 3 "check_jug_moves" ["jug"] sp_check_jug) :
   FnOk P w K mg base CX0 4 f fd ["self", "jug"] (sp_jug_init Z.F) := by
 refine F.ok sc_Fill_init (fun vs H Q E h => ?_) (fun cdv A outer s H vs Q E hr h => ?_)
 · obtain ⟨p, dx, a, rfl, _⟩ := h
   rfl
 · obtain ⟨p, dx, a, rfl, hp, ha, k⟩ := h
   refine ⟨_, sK (ps_expr (eF N hr (pK (pv 1) pN))) (s1' (ps_fld (pv 0) (pv 1) rfl)), ?_⟩
   refine ⟨_, rfl, a, rfl, ha, ?_⟩
   refine ⟨_, rfl, _, rfl, p, Z.F, dx, [], rfl, hp, C.cl, C.jug, (by show 0 < 1000; decide), ?_⟩
   exact k _ (fun c o e hc => by rw [uN hc]; exact e) uS
theorem ok_Empty_init {f : Addr} {fd : FuncData} (F : Fun K "__init__" "Empty.__init__" s_Empty_init f fd) (C : CJu K Z.E) (N : FnB P w K mg base 3 "check_jug_moves" ["jug"] sp_check_jug) :
   FnOk P w K mg base CX0 4 f fd ["self", "jug"] (sp_jug_init Z.E) := by
 refine F.ok sc_Empty_init (fun vs H Q E h => ?_) (fun cdv A outer s H vs Q E hr h => ?_)
 · obtain ⟨p, dx, a, rfl, _⟩ := h
   rfl
 · obtain ⟨p, dx, a, rfl, hp, ha, k⟩ := h
   refine ⟨_, sK (ps_expr (eF N hr (pK (pv 1) pN))) (s1' (ps_fld (pv 0) (pv 1) rfl)), ?_⟩
   refine ⟨_, rfl, a, rfl, ha, ?_⟩
   refine ⟨_, rfl, _, rfl, p, Z.E, dx, [], rfl, hp, C.cl, C.jug, (by show 0 < 1000; decide), ?_⟩
   exact k _ (fun c o e hc => by rw [uN hc]; exact e) uS
def sp_hb (Z : Cz) (CH : Addr) (ok : J.Mv → Prop) : Sp := fun vs H Q _ => ∃ p h l sz tap st m, vs = [.ref p, .ref h, .ref l] ∧ ok m ∧ MvAt Z H p m ∧ House CH H h sz tap ∧ H l = some (.lst (st.map V.int)) ∧ J.IsSt sz st ∧ m.ok sz.length tap ∧
 ∀ r H', Same H H' → H' r = some (.lst ((J.behind sz st m).map V.int)) → Q (.ref r) H'
def isPour : J.Mv → Prop := fun m => match m with | .pour _ _ => True | _ => False
def isFill : J.Mv → Prop := fun m => match m with | .fill _ => True | _ => False
def isEmp : J.Mv → Prop := fun m => match m with | .emp _ => True | _ => False
theorem ok_Pour_hb {f : Addr} {fd : FuncData} (F : Fun K "held_behind" "Pour.held_behind" s_Pour_held_behind f fd) (B : Bt mg) (C : CPo K Z.P) (N : FnB P w K mg base 2 "check_house_has_moves" ["house", "jug"] (sp_check_house_has CH))
   (S : MeB P w K mg base 1 CH "sizes" ["self"] (sp_sizes CH)) (W : FnB P w K mg base 1 "with_amount" ["held", "jug", "many"] sp_with_amount) :
   FnOk P w K mg base CX0 3 f fd ["self", "house", "held"] (sp_hb Z CH isPour) := by
 refine F.ok sc_Pour_held_behind (fun vs H Q E h => ?_) (fun cdv A outer s H vs Q E hr h => ?_)
 · obtain ⟨p, h', l, sz, tap, st, m, rfl, _⟩ := h
   rfl
 · obtain ⟨p, q, l, sz, tap, st, m, rfl, hm, hmv, hh, hl, hst, hok, k⟩ := h
   cases m with
   | fill a => exact hm.elim
   | emp a => exact hm.elim
   | pour a b =>
     obtain ⟨ha, hb, hab⟩ := hok
     have hr1 : Room 1 _ := hr.mono (by decide)
     have la : a < st.length := by rw [hst.len]; exact ha
     have lb : b < st.length := by rw [hst.len]; exact hb
     refine ⟨_, sK (ps_expr (eF N hr (pK (pv 1) (pK (pe_fld (pv 0) rfl) pN)))) (sK (ps_expr (eF N hr (pK (pv 1) (pK (pe_fld (pv 0) rfl) pN))))
       (sK (sS (i := 3) sc_Pour_held_behind.nd rfl (Or.inl rfl) (pe_op op_sub (pe_ix ix_list (pe_me0 S (pv 1) hr1) (pe_fld (pv 0) rfl) (fun _ _ => rfl)) (pe_ix ix_list (pv 2) (pe_fld (pv 0) rfl) (fun _ _ => rfl))))
       (sK (sS (i := 4) sc_Pour_held_behind.nd rfl (Or.inl rfl) (eZ (call_min2 rfl) (by rfl) B.min bt_min (pK (pe_ix ix_list (pv 2) (pe_fld (pv 0) rfl) (fun _ _ => rfl)) (pK (pv 3) pN))))
       (sK (sS (i := 5) sc_Pour_held_behind.nd rfl (Or.inl rfl) (eF W hr1 (pK (pv 2) (pK (pe_fld (pv 0) rfl) (pK (pe_op op_sub (pe_ix ix_list (pv 2) (pe_fld (pv 0) rfl) (fun _ _ => rfl)) (pv 4)) pN)))))
       (s1' (sR (eF W hr1 (pK (pv 5) (pK (pe_fld (pv 0) rfl) (pK (pe_op op_add (pe_ix ix_list (pv 2) (pe_fld (pv 0) rfl) (fun _ _ => rfl)) (pv 4)) pN)))))))))), ?_⟩
     obtain ⟨dp, hp⟩ := hmv
     have hp : H p = some (.ins Z.P dp (pF a b)) := hp
     refine ⟨_, rfl, _, rfl, p, Z.P, dp, _, _, rfl, hp, C.cl, C.one, pF_one _ _, q, sz, tap, a, rfl, hh, ha, fun H1 s1 => ?_⟩
     refine ⟨_, rfl, _, rfl, p, Z.P, dp, _, _, rfl, s1 _ _ hp, C.cl, C.other, pF_other _ _, q, sz, tap, b, rfl, hh.mono s1, hb, fun H2 s2 => ?_⟩
     have s02 := s1.trans s2
     obtain ⟨dq, t, hq, ht⟩ := hh.mono s02
     refine ⟨_, rfl, q, dq, _, rfl, hq, hF_no _ _ (by decide +kernel) (by decide +kernel), q, sz, tap, rfl, hh.mono s02, fun x hx => ?_⟩
     have s03 : Same H (upd H2 x (.lst (sz.map V.int))) := s02.lay hx
     refine ⟨_, rfl, p, Z.P, dp, _, _, rfl, s03 _ _ hp, C.cl, C.other, pF_other _ _, x, _, _, _, rfl, rfl, SqL.of uS, atI_nat (getV_of hb), ?_⟩
     refine ⟨_, rfl, _, rfl, p, Z.P, dp, _, _, rfl, s03 _ _ hp, C.cl, C.other, pF_other _ _, l, _, _, _, rfl, rfl, SqL.of (s03 _ _ hl), atI_nat (getV_of lb), _, _, rfl, rfl, ?_⟩
     refine ⟨_, rfl, _, rfl, p, Z.P, dp, _, _, rfl, s03 _ _ hp, C.cl, C.one, pF_one _ _, l, _, _, _, rfl, rfl, SqL.of (s03 _ _ hl), atI_nat (getV_of la), _, rfl, _, _, rfl, ?_⟩
     refine ⟨_, rfl, _, rfl, p, Z.P, dp, _, _, rfl, s03 _ _ hp, C.cl, C.one, pF_one _ _, _, rfl, _, rfl, p, Z.P, dp, _, _, rfl, s03 _ _ hp, C.cl, C.one, pF_one _ _, l, _, _, _, rfl, rfl, SqL.of (s03 _ _ hl), atI_nat (getV_of la), _, rfl, _, _, rfl, rfl, l, st, a, _, rfl, s03 _ _ hl, la, fun r H4 s4 e4 => ?_⟩
     have s04 := s03.trans s4
     refine ⟨_, rfl, _, rfl, p, Z.P, dp, _, _, rfl, s04 _ _ hp, C.cl, C.other, pF_other _ _, _, rfl, _, rfl, p, Z.P, dp, _, _, rfl, s04 _ _ hp, C.cl, C.other, pF_other _ _, l, _, _, _, rfl, rfl, SqL.of (s04 _ _ hl), atI_nat (getV_of lb), _, rfl, _, _, rfl, rfl, r, _, b, _, rfl, e4, (by simpa using lb), fun r' H5 s5 e5 => ?_⟩
     exact k r' H5 (s04.trans s5) e5
end
end Jug
namespace Jug
open PySem L2
def fx : HO → Bool
 | .lst _ => false
 | .dK _ => false
 | .dT _ => false
 | _ => true
def Fix (H H' : Hp) : Prop := ∀ c o, H c = some o → fx o = true → H' c = some o
theorem Fix.of {H H' : Hp} (s : Same H H') : Fix H H' := fun c o e _ => s c o e
theorem Fix.trans {H H1 H2 : Hp} (a : Fix H H1) (b : Fix H1 H2) : Fix H H2 := fun c o e f => b c o (a c o e f) f
theorem Fix.put {H : Hp} {l : Addr} {o o' : HO} (h : H l = some o) (f : fx o = false) : Fix H (upd H l o') := fun c u e g => by
 rw [uN]
 · exact e
 · rintro rfl
   rw [h] at e
   cases e
   rw [f] at g
   cases g
theorem MvAt.fix {Z : Cz} {H H' : Hp} {p : Addr} {m : J.Mv} (h : MvAt Z H p m) (s : Fix H H') : MvAt Z H' p m := let ⟨dx, e⟩ := h; ⟨dx, s _ _ e rfl⟩
theorem House.fix {CH : Addr} {H H' : Hp} {p : Addr} {sz : List Int} {tap : Bool} (h : House CH H p sz tap) (s : Fix H H') : House CH H' p sz tap := by
 obtain ⟨dx, t, h1, h2⟩ := h
 exact ⟨dx, t, s _ _ h1 rfl, s _ _ h2 rfl⟩
def isM (Z : Cz) (H : Hp) : V → J.Mv → Prop := fun v m => ∃ p, v = .ref p ∧ MvAt Z H p m
def isTI (H : Hp) : V → List Int → Prop := fun v st => ∃ a, v = .ref a ∧ H a = some (.tup (st.map V.int))
theorem isM.fix {Z : Cz} {H H' : Hp} (s : Fix H H') : ∀ v m, isM Z H v m → isM Z H' v m := fun _ _ ⟨p, e, h⟩ => ⟨p, e, h.fix s⟩
theorem isTI.fix {H H' : Hp} (s : Fix H H') : ∀ v m, isTI H v m → isTI H' v m := fun _ _ ⟨p, e, h⟩ => ⟨p, e, s _ _ h rfl⟩
theorem pm_fix {Z : Cz} {H H' : Hp} {vs : List V} {ms : List J.Mv} (h : Paired (isM Z H) vs ms) (s : Fix H H') : Paired (isM Z H') vs ms := Paired.mapP h (isM.fix s)
theorem pt_fix {H H' : Hp} {vs : List V} {ms : List (List Int)} (h : Paired (isTI H) vs ms) (s : Fix H H') : Paired (isTI H') vs ms := Paired.mapP h (isTI.fix s)
structure CTy (K : PySem.W.Frag) (C : Addr) : Prop where
 ha : PySem.W.findIn K (.ref C) "__class__" = some (some (.builtin "object.__class__"))
 hn : PySem.W.specialIn K (.builtin "object.__class__") "__get__" = some (some (.builtin "getset_descriptor.__get__"))
 htk : PySem.W.takesIn K (.builtin "object.__class__") = some true
 hm : PySem.W.mroIn K C (.type "object") = some true
structure MvC (K : PySem.W.Frag) (mg : Str → Option Value) (Z : Cz) : Prop where
 po : CPo K Z.P
 fi : CJu K Z.F
 em : CJu K Z.E
 tP : CTy K Z.P
 tF : CTy K Z.F
 tE : CTy K Z.E
 gP : mg "Pour" = some (.ref Z.P)
 gF : mg "Fill" = some (.ref Z.F)
 gE : mg "Empty" = some (.ref Z.E)
 kFP : PySem.W.kitOne K (.ref Z.F) (.ref Z.P) = some false
 kEP : PySem.W.kitOne K (.ref Z.E) (.ref Z.P) = some false
 kEF : PySem.W.kitOne K (.ref Z.E) (.ref Z.F) = some false
theorem kit_self {K : PySem.W.Frag} (C : Addr) : PySem.W.kitOne K (.ref C) (.ref C) = some true := by
 unfold PySem.W.kitOne
 rw [if_pos (by simp)]
theorem MvC.ty {K : PySem.W.Frag} {mg : Str → Option Value} {Z : Cz} (M : MvC K mg Z) {H : Hp} {p : Addr} {m : J.Mv} (h : MvAt Z H p m) : TyOf K H (.ref p) (.ref (Z.cl m)) := by
 obtain ⟨dx, h⟩ := h
 cases m with
 | pour a b => exact .ins h M.po.cl M.tP.ha M.tP.hn M.tP.htk M.tP.hm
 | fill a => exact .ins h M.fi.cl M.tF.ha M.tF.hn M.tF.htk M.tF.hm
 | emp a => exact .ins h M.em.cl M.tE.ha M.tE.hn M.tE.htk M.tE.hm
theorem MvC.any {K : PySem.W.Frag} {mg : Str → Option Value} {Z : Cz} (M : MvC K mg Z) (m : J.Mv) : PySem.W.kitAny K (.ref (Z.cl m)) [.ref Z.P, .ref Z.F, .ref Z.E] = some true := by
 cases m with
 | pour a b => show (match PySem.W.kitOne K (.ref Z.P) (.ref Z.P) with | some true => some true | some false => _ | none => none) = _; rw [kit_self]
 | fill a =>
   show (match PySem.W.kitOne K (.ref Z.F) (.ref Z.P) with | some true => some true | some false => (match PySem.W.kitOne K (.ref Z.F) (.ref Z.F) with | some true => some true | some false => _ | none => none) | none => none) = _
   rw [M.kFP]; dsimp only; rw [kit_self]
 | emp a =>
   show (match PySem.W.kitOne K (.ref Z.E) (.ref Z.P) with | some true => some true | some false => (match PySem.W.kitOne K (.ref Z.E) (.ref Z.F) with | some true => some true | some false => (match PySem.W.kitOne K (.ref Z.E) (.ref Z.E) with | some true => some true | some false => _ | none => none) | none => none) | none => none) = _
   rw [M.kEP]; dsimp only; rw [M.kEF]; dsimp only; rw [kit_self]
section
variable {P : Program} {w : World} {K : PySem.W.Frag} {mg : Str → Option Value} {base : Heap} {CH : Addr} {Z : Cz}
theorem ok_Fill_hb {f : Addr} {fd : FuncData} (F : Fun K "held_behind" "Fill.held_behind" s_Fill_held_behind f fd) (B : Bt mg) (C : CJu K Z.F) (N : FnB P w K mg base 3 "check_house_can_tap" ["house", "jug"] (sp_check_house_can_tap CH))
   (S : MeB P w K mg base 1 CH "sizes" ["self"] (sp_sizes CH)) (W : FnB P w K mg base 1 "with_amount" ["held", "jug", "many"] sp_with_amount) :
   FnOk P w K mg base CX0 4 f fd ["self", "house", "held"] (sp_hb Z CH isFill) := by
 refine F.ok sc_Fill_held_behind (fun vs H Q E h => ?_) (fun cdv A outer s H vs Q E hr h => ?_)
 · obtain ⟨p, h', l, sz, tap, st, m, rfl, _⟩ := h
   rfl
 · obtain ⟨p, q, l, sz, tap, st, m, rfl, hm, hmv, hh, hl, hst, hok, k⟩ := h
   cases m with
   | pour a b => exact hm.elim
   | emp a => exact hm.elim
   | fill a =>
     obtain ⟨ha, rfl⟩ := hok
     have hr1 : Room 1 _ := hr.mono (by decide)
     have la : a < st.length := by rw [hst.len]; exact ha
     refine ⟨_, sK (ps_expr (eF N hr (pK (pv 1) (pK (pe_fld (pv 0) rfl) pN))))
       (s1' (sR (eF W hr1 (pK (pv 2) (pK (pe_fld (pv 0) rfl) (pK (pe_ix ix_list (pe_me0 S (pv 1) hr1) (pe_fld (pv 0) rfl) (fun _ _ => rfl)) pN)))))), ?_⟩
     obtain ⟨dp, hp⟩ := hmv
     have hp : H p = some (.ins Z.F dp (jF a)) := hp
     refine ⟨_, rfl, _, rfl, p, Z.F, dp, _, _, rfl, hp, C.cl, C.jug, jF_jug _, q, sz, a, rfl, hh, ha, fun H1 s1 => ?_⟩
     obtain ⟨dq, t, hq, ht⟩ := hh.mono s1
     refine ⟨_, rfl, _, rfl, p, Z.F, dp, _, _, rfl, s1 _ _ hp, C.cl, C.jug, jF_jug _, _, rfl, q, dq, _, rfl, hq, hF_no _ _ (by decide +kernel) (by decide +kernel), q, sz, true, rfl, hh.mono s1, fun x hx => ?_⟩
     have s2 : Same H (upd H1 x (.lst (sz.map V.int))) := s1.lay hx
     refine ⟨_, rfl, p, Z.F, dp, _, _, rfl, s2 _ _ hp, C.cl, C.jug, jF_jug _, x, _, _, _, rfl, rfl, SqL.of uS, atI_nat (getV_of ha), l, st, a, _, rfl, s2 _ _ hl, la, fun r H4 s4 e4 => ?_⟩
     exact k r H4 (s2.trans s4) e4
theorem ok_Empty_hb {f : Addr} {fd : FuncData} (F : Fun K "held_behind" "Empty.held_behind" s_Empty_held_behind f fd) (B : Bt mg) (C : CJu K Z.E) (N : FnB P w K mg base 3 "check_house_can_tap" ["house", "jug"] (sp_check_house_can_tap CH))
   (W : FnB P w K mg base 1 "with_amount" ["held", "jug", "many"] sp_with_amount) :
   FnOk P w K mg base CX0 4 f fd ["self", "house", "held"] (sp_hb Z CH isEmp) := by
 refine F.ok sc_Empty_held_behind (fun vs H Q E h => ?_) (fun cdv A outer s H vs Q E hr h => ?_)
 · obtain ⟨p, h', l, sz, tap, st, m, rfl, _⟩ := h
   rfl
 · obtain ⟨p, q, l, sz, tap, st, m, rfl, hm, hmv, hh, hl, hst, hok, k⟩ := h
   cases m with
   | pour a b => exact hm.elim
   | fill a => exact hm.elim
   | emp a =>
     obtain ⟨ha, rfl⟩ := hok
     have hr1 : Room 1 _ := hr.mono (by decide)
     have la : a < st.length := by rw [hst.len]; exact ha
     refine ⟨_, sK (ps_expr (eF N hr (pK (pv 1) (pK (pe_fld (pv 0) rfl) pN))))
       (s1' (sR (eF W hr1 (pK (pv 2) (pK (pe_fld (pv 0) rfl) (pK eI pN)))))), ?_⟩
     obtain ⟨dp, hp⟩ := hmv
     have hp : H p = some (.ins Z.E dp (jF a)) := hp
     refine ⟨_, rfl, _, rfl, p, Z.E, dp, _, _, rfl, hp, C.cl, C.jug, jF_jug _, q, sz, a, rfl, hh, ha, fun H1 s1 => ?_⟩
     refine ⟨_, rfl, _, rfl, p, Z.E, dp, _, _, rfl, s1 _ _ hp, C.cl, C.jug, jF_jug _, l, st, a, _, rfl, s1 _ _ hl, la, fun r H4 s4 e4 => ?_⟩
     exact k r H4 (s1.trans s4) e4
def sp_done (Z : Cz) (CH : Addr) : Sp := fun vs H Q _ => ∃ p h a sz tap st m, vs = [.ref p, .ref h, .ref a] ∧ MvAt Z H p m ∧ House CH H h sz tap ∧ H a = some (.tup (st.map V.int)) ∧ J.IsSt sz st ∧ m.ok sz.length tap ∧
 ∀ r H', Same H H' → H' r = some (.tup ((J.behind sz st m).map V.int)) → Q (.ref r) H'
theorem ok_done {f : Addr} {fd : FuncData} (F : Fun K "done" "Move.done" s_Move_done f fd) (B : Bt mg) (N : FnB P w K mg base 2 "held_in" ["house", "state"] (sp_held_in CH))
   (HP : MeB P w K mg base 4 Z.P "held_behind" ["self", "house", "held"] (sp_hb Z CH isPour)) (HF : MeB P w K mg base 4 Z.F "held_behind" ["self", "house", "held"] (sp_hb Z CH isFill)) (HE : MeB P w K mg base 4 Z.E "held_behind" ["self", "house", "held"] (sp_hb Z CH isEmp)) :
   FnOk P w K mg base CX0 5 f fd ["self", "house", "state"] (sp_done Z CH) := by
 refine F.ok sc_Move_done (fun vs H Q E h => ?_) (fun cdv A outer s H vs Q E hr h => ?_)
 · obtain ⟨p, h', a, sz, tap, st, m, rfl, _⟩ := h
   rfl
 · obtain ⟨p, q, a, sz, tap, st, m, rfl, hmv, hh, ha, hst, hok, k⟩ := h
   have hr2 : Room 2 _ := hr.mono (by decide)
   obtain ⟨dp, hp⟩ := id hmv
   cases m with
   | pour x y =>
     refine ⟨_, sK (sS (i := 3) sc_Move_done.nd rfl (Or.inl rfl) (eF N hr2 (pK (pv 1) (pK (pv 2) pN))))
       (s1' (sR (eT cT (by rfl) B.tuple bt_tuple (pK (pe_me HP (pv 0) hr (pK (pv 1) (pK (pv 3) pN))) pN)))), ?_⟩
     refine ⟨_, rfl, _, rfl, q, sz, tap, a, st, rfl, hh, ha, hst, fun l H1 s1 nl hl => ?_⟩
     refine ⟨_, rfl, p, dp, _, rfl, s1 _ _ hp, pF_no _ _ (by decide +kernel) (by decide +kernel), _, rfl, _, rfl, p, q, l, sz, tap, st, .pour x y, rfl, trivial, hmv.mono s1, hh.mono s1, hl, hst, hok, fun r H2 s2 hr2 => ?_⟩
     exact ⟨r, _, rfl, .inl ⟨SqL.of hr2, fun t nt => k t _ ((s1.trans s2).lay nt) uS⟩⟩
   | fill x =>
     refine ⟨_, sK (sS (i := 3) sc_Move_done.nd rfl (Or.inl rfl) (eF N hr2 (pK (pv 1) (pK (pv 2) pN))))
       (s1' (sR (eT cT (by rfl) B.tuple bt_tuple (pK (pe_me HF (pv 0) hr (pK (pv 1) (pK (pv 3) pN))) pN)))), ?_⟩
     refine ⟨_, rfl, _, rfl, q, sz, tap, a, st, rfl, hh, ha, hst, fun l H1 s1 nl hl => ?_⟩
     refine ⟨_, rfl, p, dp, _, rfl, s1 _ _ hp, jF_no _ (by decide +kernel), _, rfl, _, rfl, p, q, l, sz, tap, st, .fill x, rfl, trivial, hmv.mono s1, hh.mono s1, hl, hst, hok, fun r H2 s2 hr2 => ?_⟩
     exact ⟨r, _, rfl, .inl ⟨SqL.of hr2, fun t nt => k t _ ((s1.trans s2).lay nt) uS⟩⟩
   | emp x =>
     refine ⟨_, sK (sS (i := 3) sc_Move_done.nd rfl (Or.inl rfl) (eF N hr2 (pK (pv 1) (pK (pv 2) pN))))
       (s1' (sR (eT cT (by rfl) B.tuple bt_tuple (pK (pe_me HE (pv 0) hr (pK (pv 1) (pK (pv 3) pN))) pN)))), ?_⟩
     refine ⟨_, rfl, _, rfl, q, sz, tap, a, st, rfl, hh, ha, hst, fun l H1 s1 nl hl => ?_⟩
     refine ⟨_, rfl, p, dp, _, rfl, s1 _ _ hp, jF_no _ (by decide +kernel), _, rfl, _, rfl, p, q, l, sz, tap, st, .emp x, rfl, trivial, hmv.mono s1, hh.mono s1, hl, hst, hok, fun r H2 s2 hr2 => ?_⟩
     exact ⟨r, _, rfl, .inl ⟨SqL.of hr2, fun t nt => k t _ ((s1.trans s2).lay nt) uS⟩⟩
def sp_moves_in (Z : Cz) : Sp := fun vs H Q _ => ∃ l xs ms, vs = [.ref l] ∧ H l = some (.lst xs) ∧ Paired (isM Z H) xs ms ∧ ∀ r H', Same H H' → H r = none → H' r = some (.lst xs) → Q (.ref r) H'
theorem ok_moves_in {f : Addr} {fd : FuncData} (F : Fun K "moves_in" "moves_in" s_moves_in f fd) (B : Bt mg) (M : MvC K mg Z) : FnOk P w K mg base CX0 1 f fd ["moves"] (sp_moves_in Z) := by
 refine F.ok sc_moves_in (fun vs H Q E h => ?_) (fun cdv A outer s H vs Q E hr h => ?_)
 · obtain ⟨l, xs, ms, rfl, _⟩ := h
   rfl
 · obtain ⟨l, xs, ms, rfl, hl, hp, k⟩ := h
   refine ⟨_, sK (ps_if (pt_not (pt_val (eZ call_isinst (by rfl) B.isinstance bI (pK (pv 0) (pK (pe_bltn (v := .ty "list") (by rfl) B.list bt_list rfl) pN))))) sV sN)
     (sK (sS (i := 1) sc_moves_in.nd rfl (Or.inl rfl) (eT cL (by rfl) B.list bt_list (pK (pv 0) pN)))
     (sK (ps_for PassesOwn.never rfl (pi_list (pv 1)) (pg_name (i := 2) sc_moves_in.nd rfl (Or.inl rfl))
       (s1' (ps_if (pt_not (pt_val (eZ call_isinstT (by rfl) B.isinstance bI (pK (pv 2) (pK (pe_tup (pK (pe_glob (v := .ref Z.P) (by rfl) M.gP rfl) (pK (pe_glob (v := .ref Z.F) (by rfl) M.gF rfl) (pK (pe_glob (v := .ref Z.E) (by rfl) M.gE rfl) pN)))) pN))))) sV sN)))
     (s1' (sR (pv 1))))), ?_⟩
   refine ⟨_, rfl, _, _, _, _, _, rfl, .ty "list", .lst hl, kit_ll, _, rfl, iteF ?_⟩
   refine ⟨_, rfl, l, _, rfl, .inl (SqL.of hl), fun r nr => ?_⟩
   have s1 : Same H (upd H r (.lst xs)) := Same.new nr
   refine ⟨_, rfl, r, rfl, ⟨_, SqL.of uS⟩, for_list (K := K) (a := r) (xs := xs) (fun i σ H' => ∃ v, σ = [some (.ref l), some (.ref r), v] ∧ Same (upd H r (.lst xs)) H')
     ⟨none, rfl, Same.refl _⟩ (fun i σ H' _ ⟨_, _, s2⟩ => SqL.of (s2 _ _ uS)) ?_ ?_⟩
   · rintro i x σ H' hx ⟨v, rfl, s2⟩
     obtain ⟨m, hm, p, rfl, hmv⟩ := L2.Paired.get hp hx
     have hmv' := (hmv.mono s1).mono s2
     refine ⟨_, rfl, (by show 3 ≤ sizeLine; decide), fun tp nt => ?_⟩
     refine ⟨_, tp, _, _, _, _, rfl, uS, .cons (.ref _) (.cons (.ref _) (.cons (.ref _) .nil)), M.ty (hmv'.mono (Same.new nt)), M.any m, _, rfl, iteF ?_⟩
     exact ⟨_, rfl, s2.lay nt⟩
   · rintro σ H' ⟨v, rfl, s2⟩
     exact ⟨_, rfl, k r H' (s1.trans s2) nr (s2 _ _ uS)⟩
def anyMv (Z : Cz) : Addr → Prop := fun C => C = Z.P ∨ C = Z.F ∨ C = Z.E
theorem anyMv_cl (Z : Cz) (m : J.Mv) : anyMv Z (Z.cl m) := by
 cases m with
 | pour _ _ => exact .inl rfl
 | fill _ => exact .inr (.inl rfl)
 | emp _ => exact .inr (.inr rfl)
theorem fsOf_no (m : J.Mv) {x : Str} (h1 : ¬ x = "other") (h2 : ¬ x = "one") (h3 : ¬ x = "jug") : (fsOf m).lookup x = none := by
 cases m with
 | pour _ _ => exact pF_no _ _ h1 h2
 | fill _ => exact jF_no _ h3
 | emp _ => exact jF_no _ h3
end
end Jug
namespace Jug
open PySem L2
structure Hz (sz : List Int) : Prop where
 l1 : 1 ≤ sz.length
 l4 : sz.length ≤ 4
 bd : ∀ s ∈ sz, 1 ≤ s ∧ s ≤ 60
 pr : J.prod1 sz ≤ 2000
theorem Hz.nn {sz : List Int} (h : Hz sz) : ∀ i, i < sz.length → 0 ≤ J.at0 sz i := fun i hi => by
 have := h.bd _ (List.mem_of_getElem? (get_of hi))
 omega
theorem Hz.states_le {sz : List Int} (h : Hz sz) : (J.states sz).length ≤ 2000 := by
 have h1 := J.len_states (sz := sz) fun s hs => by have := h.bd s hs; omega
 have h2 := h.pr
 omega
section
variable {P : Program} {w : World} {K : PySem.W.Frag} {mg : Str → Option Value} {base : Heap} {CH : Addr} {Z : Cz}
def sp_count_states : Sp := fun vs H Q _ => ∃ l sz, vs = [.ref l] ∧ H l = some (.lst (sz.map V.int)) ∧ (∀ s ∈ sz, 1 ≤ s ∧ s ≤ 60) ∧ Q (.int (J.prod1 sz)) H
theorem ok_count_states {f : Addr} {fd : FuncData} (F : Fun K "count_states" "count_states" s_count_states f fd) : FnOk P w K mg base CX0 1 f fd ["sizes"] sp_count_states := by
 refine F.ok sc_count_states (fun vs H Q E h => ?_) (fun cdv A outer s H vs Q E hr h => ?_)
 · obtain ⟨l, sz, rfl, _⟩ := h
   rfl
 · obtain ⟨l, sz, rfl, hl, hb, k⟩ := h
   refine ⟨_, sK (sS (i := 1) sc_count_states.nd rfl (Or.inl rfl) eI)
     (sK (ps_for PassesOwn.never rfl (pi_list (pv 0)) (pg_name (i := 2) sc_count_states.nd rfl (Or.inl rfl))
       (s1' (sS (i := 1) sc_count_states.nd rfl (Or.inl rfl) (pe_op op_mul (pv 1) (pe_op op_add (pv 2) eI)))))
     (s1' (sR (pv 1)))), ?_⟩
   refine ⟨_, rfl, l, rfl, ⟨_, SqL.of hl⟩, for_list (K := K) (a := l) (xs := sz.map V.int) (fun i σ H' => ∃ v, σ = [some (.ref l), some (.int ((sz.take i).foldl (fun m s => m * (s + 1)) 1)), v] ∧ H' = H)
     ⟨none, rfl, rfl⟩ (fun i σ H' _ ⟨_, _, e⟩ => by subst e; exact SqL.of hl) ?_ ?_⟩
   · rintro i x σ H' hx ⟨v, rfl, rfl⟩
     obtain ⟨z, ez, rfl⟩ := mem_ints hx
     have hz := hb z (List.mem_of_getElem? ez)
     refine ⟨_, rfl, _, rfl, _, _, rfl, rfl, _, _, rfl, rfl, .inr ⟨by omega, by omega⟩, ?_⟩
     refine ⟨some (.int z), ?_, rfl⟩
     rw [List.take_add_one, ez, List.foldl_append]
     rfl
   · rintro σ H' ⟨v, rfl, rfl⟩
     refine ⟨_, rfl, ?_⟩
     rw [List.length_map, List.take_length]
     exact k
def sp_sizes_in : Sp := fun vs H Q _ => ∃ l sz, vs = [.ref l] ∧ H l = some (.lst (sz.map V.int)) ∧ Hz sz ∧ ∀ r H', Same H H' → H' r = some (.lst (sz.map V.int)) → Q (.ref r) H'
theorem ok_sizes_in {f : Addr} {fd : FuncData} (F : Fun K "sizes_in" "sizes_in" s_sizes_in f fd) (B : Bt mg) (hst : ∃ t, mg "MOST_STATES" = some (.int 2000 t)) (N : FnB P w K mg base 1 "is_number" ["value", "least", "most"] sp_is_number)
   (C : FnB P w K mg base 1 "count_states" ["sizes"] sp_count_states) : FnOk P w K mg base CX0 2 f fd ["sizes"] sp_sizes_in := by
 obtain ⟨t4, e4⟩ := B.jugs
 obtain ⟨t60, e60⟩ := B.size
 obtain ⟨t2, e2⟩ := hst
 refine F.ok sc_sizes_in (fun vs H Q E h => ?_) (fun cdv A outer s H vs Q E hr h => ?_)
 · obtain ⟨l, sz, rfl, _⟩ := h
   rfl
 · obtain ⟨l, sz, rfl, hl, hz, k⟩ := h
   refine ⟨_, sK (ps_if (pt_not (pt_val (eZ call_isinst (by rfl) B.isinstance bI (pK (pv 0) (pK (pe_bltn (v := .ty "list") (by rfl) B.list bt_list rfl) pN))))) sV sN)
     (sK (sS (i := 1) sc_sizes_in.nd rfl (Or.inl rfl) (eT cL (by rfl) B.list bt_list (pK (pv 0) pN)))
     (sK (ps_if (pt_not (pt_chain op_le op_le eI (eZ call_len_seq (by rfl) B.len PySem.boot_len (pK (pv 1) pN)) (pe_glob (v := .int 4) (by rfl) e4 ⟨_, rfl⟩))) sV sN)
     (sK (ps_for PassesOwn.never rfl (pi_list (pv 1)) (pg_name (i := 2) sc_sizes_in.nd rfl (Or.inl rfl))
       (s1' (ps_if (pt_not (pt_val (eF N hr (pK (pv 2) (pK eI (pK (pe_glob (v := .int 60) (by rfl) e60 ⟨_, rfl⟩) pN)))))) sV sN)))
     (sK (ps_if (pt_cmpR op_gt (eF C hr (pK (pv 1) pN)) (pe_glob (v := .int 2000) (by rfl) e2 ⟨_, rfl⟩) (nomark _)) sV sN)
     (s1' (sR (pv 1))))))), ?_⟩
   refine ⟨_, rfl, _, _, _, _, _, rfl, .ty "list", .lst hl, kit_ll, _, rfl, iteF ?_⟩
   refine ⟨_, rfl, l, _, rfl, .inl (SqL.of hl), fun r nr => ?_⟩
   have s1 : Same H (upd H r (.lst (sz.map V.int))) := Same.new nr
   refine ⟨_, rfl, r, _, rfl, .inl (SqL.of uS), _, _, rfl, rfl, _, rfl, ?_⟩
   have h1 := hz.l1
   have h4 := hz.l4
   rw [decide_eq_true (by simp; omega)]
   refine iteT ⟨_, _, rfl, rfl, _, rfl, ?_⟩
   rw [decide_eq_true (by simp; omega)]
   refine iteF ?_
   refine ⟨_, rfl, r, rfl, ⟨_, SqL.of uS⟩, for_list (K := K) (a := r) (xs := sz.map V.int) (fun i σ H' => ∃ v, σ = [some (.ref l), some (.ref r), v] ∧ H' = upd H r (.lst (sz.map V.int)))
     ⟨none, rfl, rfl⟩ (fun i σ H' _ ⟨_, _, e⟩ => by subst e; exact SqL.of uS) ?_ ?_⟩
   · rintro i x σ H' hx ⟨v, rfl, rfl⟩
     obtain ⟨z, ez, rfl⟩ := mem_ints hx
     have hb := hz.bd z (List.mem_of_getElem? ez)
     refine ⟨_, rfl, z, 1, 60, rfl, _, rfl, ?_⟩
     rw [decide_eq_true hb.1, decide_eq_true hb.2]
     exact iteF ⟨_, rfl, rfl⟩
   · rintro σ H' ⟨v, rfl, rfl⟩
     refine ⟨_, rfl, r, sz, rfl, uS, hz.bd, _, _, rfl, rfl, _, rfl, ?_⟩
     have := hz.pr
     rw [decide_eq_false (by omega)]
     exact iteF ⟨_, rfl, k r _ s1 uS⟩
def sp_House_init (CH : Addr) : Sp := fun vs H Q _ => ∃ (p dx l : Addr) (sz : List Int) (tap : Bool), vs = [.ref p, .ref l, .bl tap] ∧ H p = some (.ins CH dx []) ∧ H l = some (.lst (sz.map V.int)) ∧ Hz sz ∧
 ∀ H', (∀ c o, H c = some o → c ≠ p → H' c = some o) → House CH H' p sz tap → Q .non H'
theorem ok_House_init {f : Addr} {fd : FuncData} (F : Fun K "__init__" "House.__init__" s_House_init f fd) (B : Bt mg) (C : CHs K CH) (N : FnB P w K mg base 2 "sizes_in" ["sizes"] sp_sizes_in) :
   FnOk P w K mg base CX0 3 f fd ["self", "sizes", "tap"] (sp_House_init CH) := by
 refine F.ok sc_House_init (fun vs H Q E h => ?_) (fun cdv A outer s H vs Q E hr h => ?_)
 · obtain ⟨p, dx, l, sz, tap, rfl, _⟩ := h
   rfl
 · obtain ⟨p, dx, l, sz, tap, rfl, hp, hl, hz, k⟩ := h
   refine ⟨_, sK (ps_fld (pv 0) (eT cT (by rfl) B.tuple bt_tuple (pK (eF N hr (pK (pv 1) pN)) pN)) rfl)
     (sK (ps_if (pt_not (pt_val (eZ call_isinst (by rfl) B.isinstance bI (pK (pv 2) (pK (pe_bltn (v := .ty "bool") (by rfl) B.bool bt_bool rfl) pN))))) sV sN)
     (s1' (ps_fld (pv 0) (pv 2) rfl))), ?_⟩
   refine ⟨_, rfl, l, sz, rfl, hl, hz, fun r H1 s1 hr1 => ?_⟩
   refine ⟨r, _, rfl, .inl ⟨SqL.of hr1, fun t nt => ?_⟩⟩
   have s2 : Same H (upd H1 t (.tup (sz.map V.int))) := s1.lay nt
   have tp : t ≠ p := fun e => by subst e; rw [s1 _ _ hp] at nt; cases nt
   refine ⟨_, rfl, p, CH, dx, [], rfl, s2 _ _ hp, C.cl, C.js, (by show 0 < 1000; decide), ?_⟩
   refine ⟨_, rfl, _, _, _, _, _, rfl, .ty "bool", .bl tap, kit_bb, _, rfl, iteF ?_⟩
   refine ⟨_, rfl, _, rfl, p, CH, dx, _, rfl, uS, C.cl, C.tap, (by show 1 < 1000; decide), ?_⟩
   refine k _ (fun c o e hc => by rw [uN hc, uN hc]; exact s2 _ _ e) ⟨dx, t, uS, ?_⟩
   rw [uN tp, uN tp, uS]
end
end Jug
namespace Jug
open PySem L2
def row (n a : Nat) : List J.Mv := ((List.range n).filter fun b => b != a).map fun b => J.Mv.pour a b
def rowTo (a j : Nat) : List J.Mv := ((List.range j).filter fun b => b != a).map fun b => J.Mv.pour a b
theorem rowTo_len (a j : Nat) : (rowTo a j).length ≤ j := by
 unfold rowTo
 rw [List.length_map]
 exact Nat.le_trans (List.length_filter_le _ _) (by simp)
theorem rowTo_eq (a j : Nat) : rowTo a (j + 1) = rowTo a j ++ (if j = a then [] else [J.Mv.pour a j]) := by
 unfold rowTo
 rw [List.range_succ, List.filter_append, List.map_append]
 congr 1
 by_cases h : j = a
 · simp [h]
 · simp [h]
theorem rows_len (n : Nat) : ∀ i, ((List.range i).flatMap (row n)).length ≤ i * n
 | 0 => by simp
 | i + 1 => by
   rw [List.range_succ, List.flatMap_append, List.length_append]
   have := rows_len n i
   have h2 := rowTo_len i n
   simp only [List.flatMap_cons, List.flatMap_nil, List.append_nil]
   have h3 : (row n i).length = (rowTo i n).length := rfl
   rw [Nat.succ_mul]
   omega
theorem Paired.snocP {α β : Type} {F : α → β → Prop} {a : α} {b : β} {l₁ : List α} {l₂ : List β} (h : Paired F l₁ l₂) (h' : F a b) : Paired F (l₁ ++ [a]) (l₂ ++ [b]) := PySem.Paired.snoc h h'
theorem Paired.appP {α β : Type} {F : α → β → Prop} : ∀ {l₁ m₁ : List α} {l₂ m₂ : List β}, Paired F l₁ l₂ → Paired F m₁ m₂ → Paired F (l₁ ++ m₁) (l₂ ++ m₂)
 | _, _, _, _, .nil, h => h
 | _, _, _, _, .cons r t, h => .cons r (Paired.appP t h)
section
variable {P : Program} {w : World} {K : PySem.W.Frag} {mg : Str → Option Value} {base : Heap} {CH : Addr} {Z : Cz}
def sp_pours_among (Z : Cz) : Sp := fun vs H Q _ => ∃ n : Nat, vs = [.int n] ∧ n ≤ 4 ∧ ∀ r H' xs, Same H H' → H r = none → H' r = some (.lst xs) → Paired (isM Z H') xs (J.pours n) → Q (.ref r) H'
theorem ok_pours_among {f : Addr} {fd : FuncData} (F : Fun K "pours_among" "pours_among" s_pours_among f fd) (B : Bt mg) (M : MkB P w K mg base 4 "Pour" Z.P ["self", "one", "other"] (sp_Pour_init Z)) :
   FnOk P w K mg base CX0 6 f fd ["many"] (sp_pours_among Z) := by
 refine F.ok sc_pours_among (fun vs H Q E h => ?_) (fun cdv A outer s H vs Q E hr h => ?_)
 · obtain ⟨n, rfl, _⟩ := h
   rfl
 · obtain ⟨n, rfl, hn, k⟩ := h
   refine ⟨_, sK (sS (i := 1) sc_pours_among.nd rfl (Or.inl rfl) (pe_lst pN))
     (sK (ps_for PassesOwn.never rfl (pi_range1 (by rfl) B.range (pK (pv 0) pN)) (pg_name (i := 2) sc_pours_among.nd rfl (Or.inl rfl))
       (s1' (ps_for PassesOwn.never rfl (pi_range1 (by rfl) B.range (pK (pv 0) pN)) (pg_name (i := 3) sc_pours_among.nd rfl (Or.inl rfl))
         (s1' (ps_if (pt_cmpR op_ne (pv 2) (pv 3) (nomark _)) (s1' (ps_expr (pe_append (pv 1) (pe_mk M hr (pK (pv 2) (pK (pv 3) pN)))))) sN)))))
     (s1' (sR (pv 1)))), ?_⟩
   refine ⟨(by show 0 ≤ sizeLine; decide), fun r nr => ?_⟩
   have s1 : Same H (upd H r (.lst [])) := Same.new nr
   refine ⟨_, rfl, (n : Int), rfl, by omega, by omega, for_rangeN (n := n) (fun i σ H' => ∃ xs v2 v3, σ = [some (.int n), some (.ref r), v2, v3] ∧ Same H H' ∧ H' r = some (.lst xs) ∧ Paired (isM Z H') xs ((List.range i).flatMap (row n)))
     ⟨[], none, none, rfl, s1, uS, .nil⟩ ?_ ?_⟩
   · rintro i σ H1 hi ⟨xs, v2, v3, rfl, s2, e2, p2⟩
     refine ⟨_, rfl, (n : Int), rfl, by omega, by omega, for_rangeN (n := n) (fun j σ H' => ∃ xs v3, σ = [some (.int n), some (.ref r), some (.int i), v3] ∧ Same H H' ∧ H' r = some (.lst xs) ∧ Paired (isM Z H') xs ((List.range i).flatMap (row n) ++ rowTo i j))
       ⟨xs, v3, rfl, s2, e2, by simpa [rowTo] using p2⟩ ?_ ?_⟩
     · rintro j σ H2 hj ⟨ys, v3, rfl, s3, e3, p3⟩
       refine ⟨_, rfl, _, rfl, rfl, _, rfl, ?_⟩
       by_cases hij : i = j
       · subst hij
         rw [decide_eq_true rfl]
         refine iteF ⟨ys, _, rfl, s3, e3, ?_⟩
         rw [rowTo_eq, if_pos rfl, List.append_nil]
         exact p3
       · rw [decide_eq_false (by simp; omega)]
         refine iteT ?_
         refine ⟨_, rfl, .inl ⟨rfl, _, SqL.of e3⟩, _, rfl, _, rfl, fun x dx nx ndx nex => ?_⟩
         refine ⟨x, dx, i, j, rfl, uS, by omega, by omega, hij, fun H4 kp hx => ⟨rfl, ?_⟩⟩
         have s4 : Same H2 H4 := fun c o e => kp c o (by rw [uN (nN e nx), uN (nN e ndx)]; exact e) (nN e nx)
         have hlen : ys.length ≤ 20 := by
           have h1 := p3.length
           have h2 := rows_len n i
           have h3 := rowTo_len i j
           rw [List.length_append] at h1
           have h4 : i * n ≤ 3 * 4 := Nat.mul_le_mul (by omega) hn
           omega
         refine ⟨r, _, _, rfl, rfl, s4 _ _ e3, small1000 (by omega), ?_⟩
         have fx1 : Fix H4 (upd H4 r (.lst (ys ++ [.ref x]))) := Fix.put (s4 _ _ e3) rfl
         refine ⟨_, _, rfl, (s3.trans s4).put nr, uS, ?_⟩
         rw [rowTo_eq, if_neg (fun e => hij e.symm), ← List.append_assoc]
         exact Paired.snocP (pm_fix p3 ((Fix.of s4).trans fx1)) ⟨x, rfl, dx, fx1 _ _ hx rfl⟩
     · rintro σ H2 ⟨ys, v3, rfl, s3, e3, p3⟩
       refine ⟨ys, _, _, rfl, s3, e3, ?_⟩
       rw [List.range_succ, List.flatMap_append]
       have e : (List.flatMap (row n) [i]) = rowTo i n := by simp [row, rowTo]
       rw [e]; exact p3
   · rintro σ H1 ⟨xs, v2, v3, rfl, s2, e2, p2⟩
     exact ⟨_, rfl, k r H1 xs s2 nr e2 p2⟩
def sp_moves (Z : Cz) (CH : Addr) : Sp := fun vs H Q _ => ∃ p sz tap, vs = [.ref p] ∧ House CH H p sz tap ∧ Hz sz ∧ ∀ r H' ys, Same H H' → H r = none → H' r = some (.lst ys) → Paired (isM Z H') ys (J.moves sz.length tap) → Q (.ref r) H'
theorem ok_moves {f : Addr} {fd : FuncData} (F : Fun K "moves" "House.moves" s_House_moves f fd) (B : Bt mg) (C : CHs K CH) (W : FnB P w K mg base 6 "pours_among" ["many"] (sp_pours_among Z))
   (MF : MkB P w K mg base 4 "Fill" Z.F ["self", "jug"] (sp_jug_init Z.F)) (ME : MkB P w K mg base 4 "Empty" Z.E ["self", "jug"] (sp_jug_init Z.E)) : FnOk P w K mg base CX0 7 f fd ["self"] (sp_moves Z CH) := by
 refine F.ok sc_House_moves (fun vs H Q E h => ?_) (fun cdv A outer s H vs Q E hr h => ?_)
 · obtain ⟨p, sz, tap, rfl, _⟩ := h
   rfl
 · obtain ⟨p, sz, tap, rfl, ⟨dx, t, hp, ht⟩, hz, k⟩ := h
   have hr5 : Room 5 _ := hr.mono (by decide)
   refine ⟨_, sK (sS (i := 1) sc_House_moves.nd rfl (Or.inl rfl) (eZ call_len_seq (by rfl) B.len PySem.boot_len (pK (pe_fld (pv 0) rfl) pN)))
     (sK (sS (i := 2) sc_House_moves.nd rfl (Or.inl rfl) (eF W hr (pK (pv 1) pN)))
     (sK (ps_if (pt_val (pe_fld (pv 0) rfl))
       (sK (ps_expr (pe_extend (pv 2) (pe_lc sc_House_moves [] (pi_range1 (by rfl) B.range (pK (pv 1) pN)) (fun _ _ _ _ _ _ => ⟨pif_nil, pe_mk MF hr5 (pK (pv 0) pN)⟩))))
       (s1' (ps_expr (pe_extend (pv 2) (pe_lc sc_House_moves [] (pi_range1 (by rfl) B.range (pK (pv 1) pN)) (fun _ _ _ _ _ _ => ⟨pif_nil, pe_mk ME hr5 (pK (pv 0) pN)⟩)))))) sN)
     (s1' (sR (pv 2))))), ?_⟩
   have h4 := hz.l4
   refine ⟨_, rfl, p, CH, dx, _, _, rfl, hp, C.cl, C.js, hF_js _ _, t, _, rfl, .inr (SqT.of ht), ?_⟩
   rw [List.length_map]
   refine ⟨_, rfl, sz.length, rfl, h4, fun r H1 xs s1 nr e1 p1 => ?_⟩
   refine ⟨_, rfl, p, CH, dx, _, _, rfl, s1 _ _ hp, C.cl, C.tap, hF_tap _ _, _, rfl, ?_⟩
   have hlp : (J.pours sz.length).length ≤ 16 := by
     have h5 := rows_len sz.length sz.length
     have h6 : sz.length * sz.length ≤ 4 * 4 := Nat.mul_le_mul h4 h4
     exact Nat.le_trans h5 h6
   cases tap with
   | false =>
     refine iteF ⟨_, rfl, k r H1 xs s1 nr e1 ?_⟩
     simpa [J.moves] using p1
   | true =>
     refine iteT ?_
     refine ⟨_, rfl, .inl ⟨rfl, _, SqL.of e1⟩, _, rfl, _, rfl, by omega, by omega, ?_⟩
     rw [Int.toNat_natCast]
     refine lc_rangeN (n := sz.length) (fun i ys H' => Same H1 H' ∧ Paired (isM Z H') ys ((List.range i).map J.Mv.fill)) ⟨Same.refl _, .nil⟩ (small1000 (by omega)) (fun i ys H' ⟨_, q⟩ => by rw [q.length]; simp) ?_ ?_
     · rintro i ys H2 hi ⟨s2, p2⟩
       refine tYes_of ⟨_, rfl, fun x dx' nx ndx nex => ⟨x, dx', i, rfl, uS, by omega, fun H4 kp hx => ⟨rfl, ?_⟩⟩⟩
       have s4 : Same H2 H4 := fun c o e => kp c o (by rw [uN (nN e nx), uN (nN e ndx)]; exact e) (nN e nx)
       refine ⟨s2.trans s4, ?_⟩
       rw [List.range_succ, List.map_append]
       exact Paired.snocP (pm_fix p2 (Fix.of s4)) ⟨x, rfl, dx', hx⟩
     · rintro ys H2 ⟨s2, p2⟩ D nD
       have s3 : Same H2 (upd H2 D (.lst ys)) := Same.new nD
       have e3 := s3 _ _ (s2 _ _ e1)
       have l1 := p1.length
       have l2 := p2.length
       rw [List.length_map, List.length_range] at l2
       refine ⟨r, D, xs, ys, rfl, rfl, e3, uS, Nat.le_of_lt (small1000 (by omega)), ?_⟩
       have f3 : Fix (upd H2 D (.lst ys)) (upd (upd H2 D (.lst ys)) r (.lst (xs ++ ys))) := Fix.put e3 rfl
       have s4 : Same H (upd (upd H2 D (.lst ys)) r (.lst (xs ++ ys))) := ((s1.trans s2).trans s3).put nr
       have p3 : Paired (isM Z (upd (upd H2 D (.lst ys)) r (.lst (xs ++ ys)))) (xs ++ ys) (J.pours sz.length ++ (List.range sz.length).map J.Mv.fill) :=
         Paired.appP (pm_fix p1 ((Fix.of (s2.trans s3)).trans f3)) (pm_fix p2 ((Fix.of s3).trans f3))
       refine ⟨_, rfl, .inl ⟨rfl, _, SqL.of uS⟩, _, rfl, _, rfl, by omega, by omega, ?_⟩
       rw [Int.toNat_natCast]
       refine lc_rangeN (n := sz.length) (fun i zs H' => Same (upd (upd H2 D (.lst ys)) r (.lst (xs ++ ys))) H' ∧ Paired (isM Z H') zs ((List.range i).map J.Mv.emp)) ⟨Same.refl _, .nil⟩ (small1000 (by omega)) (fun i ys H' ⟨_, q⟩ => by rw [q.length]; simp) ?_ ?_
       · rintro i zs H5 hi ⟨s5, p5⟩
         refine tYes_of ⟨_, rfl, fun x dx' nx ndx nex => ⟨x, dx', i, rfl, uS, by omega, fun H6 kp hx => ⟨rfl, ?_⟩⟩⟩
         have s6 : Same H5 H6 := fun c o e => kp c o (by rw [uN (nN e nx), uN (nN e ndx)]; exact e) (nN e nx)
         refine ⟨s5.trans s6, ?_⟩
         rw [List.range_succ, List.map_append]
         exact Paired.snocP (pm_fix p5 (Fix.of s6)) ⟨x, rfl, dx', hx⟩
       · rintro zs H5 ⟨s5, p5⟩ D2 nD2
         have s6 : Same H5 (upd H5 D2 (.lst zs)) := Same.new nD2
         have e6 := s6 _ _ (s5 _ _ uS)
         have l5 := p5.length
         rw [List.length_map, List.length_range] at l5
         refine ⟨r, D2, _, zs, rfl, rfl, e6, uS, Nat.le_of_lt (small1000 (by rw [List.length_append]; omega)), ?_⟩
         have f6 : Fix (upd H5 D2 (.lst zs)) (upd (upd H5 D2 (.lst zs)) r (.lst ((xs ++ ys) ++ zs))) := Fix.put e6 rfl
         refine ⟨_, rfl, k r _ _ (((s4.trans s5).trans s6).put nr) nr uS ?_⟩
         have e7 : J.moves sz.length true = (J.pours sz.length ++ (List.range sz.length).map J.Mv.fill) ++ (List.range sz.length).map J.Mv.emp := by simp [J.moves]
         rw [e7]
         exact Paired.appP (pm_fix p3 ((Fix.of (s5.trans s6)).trans f6)) (pm_fix p5 ((Fix.of s6).trans f6))
end
end Jug
namespace Jug
open PySem L2
def kOf (st : List Int) : List Key := st.map Sum.inl
theorem kOf_map (st : List Int) : (kOf st).map kV = st.map V.int := by
 unfold kOf
 rw [List.map_map]
 rfl
theorem kOf_inj {a b : List Int} (h : kOf a = kOf b) : a = b := by
 unfold kOf at h
 exact List.map_inj_right (fun x y e => Sum.inl.inj e) |>.mp h
def WVal (Z : Cz) (H : Hp) (W : List J.Way) : V → Option (Nat × J.Mv) → Prop
 | v, none => v = .non
 | v, some (q, m) => ∃ t a p x, v = .ref t ∧ H t = some (.tup [.ref a, .ref p]) ∧ W[q]? = some x ∧ H a = some (.tup (x.1.map V.int)) ∧ MvAt Z H p m
def WD (Z : Cz) (H : Hp) (W : List J.Way) : List (List Key × V) → List J.Way → Prop := Paired fun kv x => kv.1 = kOf x.1 ∧ WVal Z H W kv.2 x.2
theorem WVal.fix {Z : Cz} {H H' : Hp} {W : List J.Way} {v : V} : ∀ {o : Option (Nat × J.Mv)}, WVal Z H W v o → Fix H H' → WVal Z H' W v o
 | none, h, _ => h
 | some (_, _), ⟨t, a, p, x, e, h1, h2, h3, h4⟩, s => ⟨t, a, p, x, e, s _ _ h1 rfl, h2, s _ _ h3 rfl, h4.fix s⟩
theorem WVal.more {Z : Cz} {H : Hp} {W V' : List J.Way} {v : V} : ∀ {o : Option (Nat × J.Mv)}, WVal Z H W v o → WVal Z H (W ++ V') v o
 | none, h => h
 | some (_, _), ⟨t, a, p, x, e, h1, h2, h3, h4⟩ => ⟨t, a, p, x, e, h1, by rw [List.getElem?_append_left (List.getElem?_eq_some_iff.mp h2).1]; exact h2, h3, h4⟩
theorem WD.fix {Z : Cz} {H H' : Hp} {W : List J.Way} {kvs : List (List Key × V)} {ws : List J.Way} (h : WD Z H W kvs ws) (s : Fix H H') : WD Z H' W kvs ws := Paired.mapP h fun _ _ z => ⟨z.1, z.2.fix s⟩
theorem WD.more {Z : Cz} {H : Hp} {W V' : List J.Way} {kvs : List (List Key × V)} {ws : List J.Way} (h : WD Z H W kvs ws) : WD Z H (W ++ V') kvs ws := Paired.mapP h fun _ _ z => ⟨z.1, z.2.more⟩
theorem WD.keys {Z : Cz} {H : Hp} {W : List J.Way} : ∀ {kvs : List (List Key × V)} {ws : List J.Way}, WD Z H W kvs ws → kvs.map (·.1) = ws.map fun x => kOf x.1
 | _, _, .nil => rfl
 | _, _, .cons h t => by rw [List.map_cons, List.map_cons, WD.keys t, h.1]
theorem WD.has {Z : Cz} {H : Hp} {W : List J.Way} {kvs : List (List Key × V)} {ws : List J.Way} (h : WD Z H W kvs ws) (y : List Int) : (valV kvs (kOf y)).isSome = decide (y ∈ ws.map (·.1)) := by
 rw [← valV_any, Bool.eq_iff_iff]
 simp only [List.any_eq_true, decide_eq_true_iff]
 constructor
 · rintro ⟨kv, h1, h2⟩
   have : kOf y ∈ kvs.map (·.1) := List.mem_map.mpr ⟨kv, h1, h2⟩
   rw [h.keys] at this
   obtain ⟨x, h3, h4⟩ := List.mem_map.mp this
   exact List.mem_map.mpr ⟨x, h3, kOf_inj h4⟩
 · intro hy
   obtain ⟨x, h3, h4⟩ := List.mem_map.mp hy
   have : kOf y ∈ kvs.map (·.1) := by rw [h.keys]; exact List.mem_map.mpr ⟨x, h3, by rw [h4]⟩
   obtain ⟨kv, h1, h2⟩ := List.mem_map.mp this
   exact ⟨kv, h1, h2⟩
def WS (Z : Cz) (Hb H' : Hp) (d rw : Addr) (W : List J.Way) : Prop := ∃ kvs rs, Same Hb H' ∧ H' d = some (.dT kvs) ∧ H' rw = some (.lst rs) ∧ Paired (isTI H') rs (W.map (·.1)) ∧ WD Z H' W kvs W
theorem WS.same {Z : Cz} {Hb H' H'' : Hp} {d rw : Addr} {W : List J.Way} (h : WS Z Hb H' d rw W) (s : Same H' H'') : WS Z Hb H'' d rw W := by
 obtain ⟨kvs, rs, s0, e1, e2, p, wd⟩ := h
 exact ⟨kvs, rs, s0.trans s, s _ _ e1, s _ _ e2, pt_fix p (Fix.of s), wd.fix (Fix.of s)⟩
theorem ws_add {Z : Cz} {Hb H' : Hp} {d rw tt a p bb : Addr} {W : List J.Way} {kvs : List (List Key × V)} {rs : List V} {q : Nat} {m : J.Mv} {x : J.Way} {y : List Int} (nd : Hb d = none) (nr : Hb rw = none) (s0 : Same Hb H') (e1 : H' d = some (.dT kvs))
   (e2 : H' rw = some (.lst rs)) (p1 : Paired (isTI H') rs (W.map (·.1))) (wd : WD Z H' W kvs W) (nt : H' tt = none) (hx : W[q]? = some x) (ha : H' a = some (.tup (x.1.map V.int))) (hm : MvAt Z H' p m) (hb : H' bb = some (.tup (y.map V.int))) :
   WS Z Hb (upd (upd (upd H' tt (.tup [.ref a, .ref p])) d (.dT (kvs ++ [(kOf y, .ref tt)]))) rw (.lst (rs ++ [.ref bb]))) d rw (W ++ [(y, some (q, m))]) ∧ Fix H' (upd (upd (upd H' tt (.tup [.ref a, .ref p])) d (.dT (kvs ++ [(kOf y, .ref tt)]))) rw (.lst (rs ++ [.ref bb]))) := by
 have dtt : d ≠ tt := nN e1 nt
 have rtt : rw ≠ tt := nN e2 nt
 have drw : d ≠ rw := ne_of e1 e2 (by intro h; cases h)
 have g1 : (upd H' tt (.tup [.ref a, .ref p])) d = some (.dT kvs) := by rw [uN dtt]; exact e1
 have g2 : (upd (upd H' tt (.tup [.ref a, .ref p])) d (.dT (kvs ++ [(kOf y, .ref tt)]))) rw = some (.lst rs) := by rw [uN drw.symm, uN rtt]; exact e2
 have f1 : Fix H' (upd (upd (upd H' tt (.tup [.ref a, .ref p])) d (.dT (kvs ++ [(kOf y, .ref tt)]))) rw (.lst (rs ++ [.ref bb]))) := ((Fix.of (Same.new nt)).trans (Fix.put g1 rfl)).trans (Fix.put g2 rfl)
 refine ⟨⟨kvs ++ [(kOf y, .ref tt)], rs ++ [.ref bb], ((s0.lay nt).put nd).put nr, ?_, uS, ?_, ?_⟩, f1⟩
 · rw [uN drw, uS]
 · rw [List.map_append]
   exact Paired.snocP (pt_fix p1 f1) ⟨bb, rfl, f1 _ _ hb rfl⟩
 · refine Paired.snocP (wd.fix f1).more ⟨rfl, tt, a, p, x, rfl, ?_, ?_, f1 _ _ ha rfl, hm.fix f1⟩
   · rw [uN rtt.symm, uN dtt.symm, uS]
   · rw [List.getElem?_append_left (List.getElem?_eq_some_iff.mp hx).1]
     exact hx
theorem addAll_pre {sz here : List Int} {p : Nat} {i : Nat} {y : J.Way} : ∀ (ms : List J.Mv) {W : List J.Way}, W[i]? = some y → (J.addAll sz here p ms W)[i]? = some y
 | [], _, h => h
 | _ :: ms, _, h => addAll_pre ms (J.addOne_pre h)
theorem addAll_take {sz here : List Int} {p : Nat} {W : List J.Way} {ms : List J.Mv} {j : Nat} {m : J.Mv} (h : ms[j]? = some m) : J.addAll sz here p (ms.take (j + 1)) W = J.addOne sz here p (J.addAll sz here p (ms.take j) W) m := by
 rw [List.take_add_one, h]
 simp [J.addAll]
theorem addAll_len {sz here : List Int} {p : Nat} : ∀ (ms : List J.Mv) {W : List J.Way}, (J.addAll sz here p ms W).length ≤ W.length + ms.length
 | [], _ => Nat.le_refl _
 | m :: ms, W => by
   have h1 := addAll_len (sz := sz) (here := here) (p := p) ms (W := J.addOne sz here p W m)
   have h2 : (J.addOne sz here p W m).length ≤ W.length + 1 := by
     unfold J.addOne
     split
     · omega
     · simp
   have h3 : J.addAll sz here p (m :: ms) W = J.addAll sz here p ms (J.addOne sz here p W m) := rfl
   rw [h3, List.length_cons]
   omega
theorem moves_len : ∀ n, n < 5 → ∀ tap, (J.moves n tap).length ≤ 20 := by decide +kernel
section
variable {P : Program} {w : World} {K : PySem.W.Frag} {mg : Str → Option Value} {base : Heap} {CH : Addr} {Z : Cz}
def sp_ways (Z : Cz) (CH : Addr) : Sp := fun vs H Q _ => ∃ p a sz tap st, vs = [.ref p, .ref a] ∧ House CH H p sz tap ∧ Hz sz ∧ H a = some (.tup (st.map V.int)) ∧ J.IsSt sz st ∧
 ∀ d H' kvs, Same H H' → H d = none → H' d = some (.dT kvs) → WD Z H' (J.ways sz (J.moves sz.length tap) st) kvs (J.ways sz (J.moves sz.length tap) st) → Q (.ref d) H'
theorem ok_ways {f : Addr} {fd : FuncData} (F : Fun K "ways_from" "ways_from" s_ways_from f fd) (B : Bt mg) (N : FnB P w K mg base 2 "held_in" ["house", "state"] (sp_held_in CH)) (MO : MeB P w K mg base 7 CH "moves" ["self"] (sp_moves Z CH))
   (D : ∀ C, anyMv Z C → MeB P w K mg base 5 C "done" ["self", "house", "state"] (sp_done Z CH)) : FnOk P w K mg base CX0 8 f fd ["house", "state"] (sp_ways Z CH) := by
 refine F.ok sc_ways_from (fun vs H Q E h => ?_) (fun cdv A outer s H vs Q E hr h => ?_)
 · obtain ⟨p, a, sz, tap, st, rfl, _⟩ := h
   rfl
 · obtain ⟨p, a, sz, tap, st, rfl, hh, hz, ha, hst, k⟩ := h
   have hu := hr.units
   refine ⟨_, sK (sS (i := 2) sc_ways_from.nd rfl (Or.inl rfl) (eT cT (by rfl) B.tuple bt_tuple (pK (eF N (hr.mono (by decide)) (pK (pv 0) (pK (pv 1) pN))) pN)))
     (sK (sS (i := 3) sc_ways_from.nd rfl (Or.inl rfl) (pe_me0 MO (pv 0) (hr.mono (by decide))))
     (sK (sS (i := 4) sc_ways_from.nd rfl (Or.inl rfl) (pe_disp1T hr.units0 (pv 2) pe_non))
     (sK (sS (i := 5) sc_ways_from.nd rfl (Or.inl rfl) (pe_lst (pK (pv 2) pN)))
     (sK (sS (i := 6) sc_ways_from.nd rfl (Or.inl rfl) eI)
     (sK (ps_while PassesOwn.never (pt_cmpR op_lt (pv 6) (eZ call_len_seq (by rfl) B.len PySem.boot_len (pK (pv 5) pN)) (nomark _))
       (sK (sS (i := 7) sc_ways_from.nd rfl (Or.inl rfl) (pe_ix ix_list (pv 5) (pv 6) (fun _ _ => rfl)))
       (sK (ps_for PassesOwn.never rfl (pi_list (pv 3)) (pg_name (i := 8) sc_ways_from.nd rfl (Or.inl rfl))
         (sK (sS (i := 9) sc_ways_from.nd rfl (Or.inl rfl) (pe_meU D (pv 8) (hr.mono (by decide)) (pK (pv 0) (pK (pv 7) pN))))
         (s1' (ps_if (pt_cmp (pc_dnotin (Nat.lt_of_le_of_lt (Nat.add_le_add_left (by decide) _) hu) (pv 9) (pv 4)) rfl)
           (sK (ps_dput (Nat.lt_of_le_of_lt (Nat.add_le_add_left (by decide) _) hu) (pv 4) (pv 9) (pe_tup (pK (pv 7) (pK (pv 8) pN))) rfl) (s1' (ps_expr (pe_append (pv 5) (pv 9)))))
           sN))))
       (s1' (ps_aug (i := 6) sc_ways_from.nd rfl (Or.inl rfl) eI ip_add)))))
     (s1' (sR (pv 4)))))))), ?_⟩
   obtain ⟨dx, tz, hp, htz⟩ := id hh
   refine ⟨_, rfl, _, rfl, p, sz, tap, a, st, rfl, hh, ha, hst, fun y H2 s2 ny ey => ?_⟩
   refine ⟨y, _, rfl, .inl ⟨SqL.of ey, fun t nt => ?_⟩⟩
   have s3 : Same H (upd H2 t (.tup (st.map V.int))) := s2.lay nt
   refine ⟨_, rfl, p, dx, _, rfl, s3 _ _ hp, hF_no _ _ (by decide +kernel) (by decide +kernel), p, sz, tap, rfl, hh.mono s3, hz, fun r H4 ys s4 nr er pm => ?_⟩
   have et : H4 t = some (.tup (st.map V.int)) := s4 _ _ uS
   refine fun d nd => ⟨_, rfl, kOf st, t, rfl, ?_, uS, ?_⟩
   · rw [uN (nN et nd), kOf_map]
     exact et
   rw [upd_upd]
   refine ⟨_, rfl, (by show 1 ≤ sizeLine; decide), fun rw nrw => ?_⟩
   have drw : d ≠ rw := fun e => by subst e; rw [uS] at nrw; cases nrw
   have nrw4 : H4 rw = none := by rwa [uN drw.symm] at nrw
   have nd0 : H d = none := by
     cases e : H d with
     | none => rfl
     | some o => have := (s3.trans s4) _ _ e; rw [nd] at this; cases this
   have hg := J.good_moves (tap := tap) hz.nn
   have hle := hz.states_le
   refine ⟨fun n σ H' => ∃ (pl : Nat) (v7 v8 v9 : Option V), σ = [some (.ref p), some (.ref a), some (.ref t), some (.ref r), some (.ref d), some (.ref rw), some (.int pl), v7, v8, v9] ∧ WS Z H4 H' d rw (J.run sz (J.moves sz.length tap) st pl) ∧ n = (J.states sz).length - pl,
     ⟨_, 0, none, none, none, rfl, ⟨[(kOf st, .non)], [.ref t], ((Same.refl _).put nd).put nrw4, (by rw [uN drw, uS]), uS, .cons ⟨t, rfl, ?_⟩ .nil, .cons ⟨rfl, rfl⟩ .nil⟩, rfl⟩, ?_⟩
   · rw [uN (nN et nrw4), uN (nN et nd)]
     exact et
   rintro n σ H' ⟨pl, v7, v8, v9, rfl, ws, rfl⟩
   obtain ⟨kvs, rs, s5, e1, e2, p1, wd⟩ := id ws
   have hl : rs.length = (J.run sz (J.moves sz.length tap) st pl).length := by have := p1.length; simpa using this
   have rl := J.run_le hg hst pl
   refine ⟨_, rfl, _, rfl, rw, _, rfl, .inl (SqL.of e2), _, _, rfl, rfl, _, rfl, ?_⟩
   by_cases c : (pl : Int) < (rs.length : Int)
   · rw [decide_eq_true c]
     obtain ⟨x, hx⟩ : ∃ x, (J.run sz (J.moves sz.length tap) st pl)[pl]? = some x := ⟨_, List.getElem?_eq_getElem (by omega)⟩
     have hv : rs[pl]? = some (rs[pl]'(by omega)) := by simp
     obtain ⟨z, hz', aa, eaa, haa⟩ := L2.Paired.get p1 hv
     rw [List.getElem?_map, hx] at hz'
     cases hz'
     rw [eaa] at hv
     have hxs : J.IsSt sz x.1 := (J.run_inv hg hst pl).sts x (List.mem_of_getElem? hx)
     refine iteT ⟨fun σ' H'' => ∃ v8 v9 : Option V, σ' = [some (.ref p), some (.ref a), some (.ref t), some (.ref r), some (.ref d), some (.ref rw), some (.int ((pl : Int) + 1)), some (.ref aa), v8, v9] ∧ WS Z H4 H'' d rw (J.run sz (J.moves sz.length tap) st (pl + 1)),
       fun σ' H'' ⟨v8, v9, e, w'⟩ => ⟨_, by omega, pl + 1, _, v8, v9, e, w', rfl⟩, ?_⟩
     refine ⟨_, rfl, _, rfl, rw, _, _, _, rfl, rfl, SqL.of e2, atI_nat hv, ?_⟩
     refine ⟨_, rfl, r, rfl, ⟨_, SqL.of (s5 _ _ er)⟩, for_list (K := K) (a := r) (xs := ys) (fun j σ H'' => ∃ v8 v9 : Option V, σ = [some (.ref p), some (.ref a), some (.ref t), some (.ref r), some (.ref d), some (.ref rw), some (.int pl), some (.ref aa), v8, v9] ∧ H'' aa = some (.tup (x.1.map V.int)) ∧
       WS Z H4 H'' d rw (J.addAll sz x.1 pl ((J.moves sz.length tap).take j) (J.run sz (J.moves sz.length tap) st pl))) ⟨v8, v9, rfl, haa, by simpa [J.addAll] using ws⟩ (fun j σ H'' _ ⟨_, _, _, _, _, _, s6, _⟩ => SqL.of (s6 _ _ er)) ?_ ?_⟩
     · rintro j v σ H6 hv' ⟨v8, v9, rfl, ha6, ws6⟩
       obtain ⟨m, hm, pp, rfl, hmv⟩ := L2.Paired.get pm hv'
       obtain ⟨_, _, s6, _⟩ := id ws6
       obtain ⟨dp, hpp⟩ := hmv.mono s6
       refine ⟨_, rfl, Z.cl m, pp, dp, _, anyMv_cl Z m, rfl, hpp, fsOf_no m (by decide +kernel) (by decide +kernel) (by decide +kernel), _, rfl, _, rfl, pp, p, aa, sz, tap, _, m, rfl, hmv.mono s6, hh.mono (s3.trans (s4.trans s6)), ha6, hxs, J.mem_moves.mp (List.mem_of_getElem? hm), fun bb H7 s7 e7 => ?_⟩
       have ws7 := ws6.same s7
       obtain ⟨kv7, rs7, s70, e71, e72, p71, wd7⟩ := id ws7
       refine ⟨_, rfl, _, rfl, d, _, rfl, DGet.t (k := kOf (J.behind sz x.1 m)) e71 (by rw [kOf_map]; exact e7), _, rfl, ?_⟩
       rw [addAll_take hm]
       rw [wd7.has]
       by_cases hin : J.behind sz x.1 m ∈ (J.addAll sz x.1 pl ((J.moves sz.length tap).take j) (J.run sz (J.moves sz.length tap) st pl)).map (·.1)
       · rw [decide_eq_true hin]
         refine iteF ⟨_, _, rfl, s7 _ _ ha6, ?_⟩
         unfold J.addOne
         rw [if_pos hin]
         exact ws7
       · have no := wd7.has (J.behind sz x.1 m)
         rw [decide_eq_false hin] at no
         rw [decide_eq_false hin]
         have hno : valV kv7 (kOf (J.behind sz x.1 m)) = none := by
           cases e : valV kv7 (kOf (J.behind sz x.1 m)) with
           | none => rfl
           | some v => rw [e] at no; cases no
         have l1 := wd7.length
         have l2 := addAll_len (sz := sz) (here := x.1) (p := pl) ((J.moves sz.length tap).take j) (W := J.run sz (J.moves sz.length tap) st pl)
         have l3 := moves_len sz.length (by have := hz.l4; omega) tap
         have l4 : ((J.moves sz.length tap).take j).length ≤ (J.moves sz.length tap).length := by rw [List.length_take]; exact Nat.min_le_right _ _
         have l5 := p71.length
         rw [List.length_map] at l5
         have g1 : ∀ tt, H7 tt = none → (upd H7 tt (.tup [.ref aa, .ref pp])) d = some (.dT kv7) := fun tt n => by rw [uN (nN e71 n)]; exact e71
         refine iteT ⟨_, rfl, _, rfl, (by show 2 ≤ sizeLine; decide), fun tt ntt => ⟨_, rfl, _, rfl, d, _, rfl, DPut.t (k := kOf (J.behind sz x.1 m)) (g1 tt ntt) (by rw [kOf_map, uN (nN e7 ntt)]; exact e7) (by rw [sizeLine_eq]; omega), ?_⟩⟩
         rw [putK_new _ hno]
         have drw7 : rw ≠ d := ne_of e72 e71 (by intro h; cases h)
         have g2 : (upd (upd H7 tt (.tup [.ref aa, .ref pp])) d (.dT (kv7 ++ [(kOf (J.behind sz x.1 m), .ref tt)]))) rw = some (.lst rs7) := by rw [uN drw7, uN (nN e72 ntt)]; exact e72
         refine ⟨_, rfl, .inl ⟨rfl, _, SqL.of g2⟩, _, rfl, rw, _, _, rfl, rfl, g2, (by rw [sizeLine_eq]; omega), ?_⟩
         obtain ⟨wsn, fxn⟩ := ws_add nd nrw4 s70 e71 e72 p71 wd7 ntt (addAll_pre _ hx) (s7 _ _ ha6) (hmv.mono (s6.trans s7)) e7
         refine ⟨_, _, rfl, fxn _ _ (s7 _ _ ha6) rfl, ?_⟩
         unfold J.addOne
         rw [if_neg hin]
         exact wsn
     · rintro σ H6 ⟨v8, v9, rfl, ha6, ws6⟩
       refine ⟨_, rfl, _, _, rfl, rfl, _, _, rfl, ?_⟩
       rw [J.run_step hx]
       rw [pm.length, List.take_length] at ws6
       exact ws6
   · rw [decide_eq_false c]
     refine ⟨_, rfl, k d H' kvs (s3.trans (s4.trans s5)) nd0 e1 ?_⟩
     rw [J.run_end hg hst (p := pl) (by omega)] at wd
     exact wd
end
end Jug
namespace Jug
open PySem L2
theorem pI : ∀ st : List Int, Paired isI (st.map V.int) st
 | [] => .nil
 | _ :: st => .cons rfl (pI st)
theorem toT {K : PySem.W.Frag} {H : Hp} {v : V} {st : List Int} (h : isTI H v st) : isT K H isI v st := by
 obtain ⟨a, rfl, e⟩ := h
 exact ⟨a, _, rfl, SqT.of e, pI st⟩
theorem toTs {K : PySem.W.Frag} {H : Hp} {vs : List V} {sts : List (List Int)} (h : Paired (isTI H) vs sts) : Paired (isT K H isI) vs sts := Paired.mapP h fun _ _ => toT
theorem rcT {X : Cx} {H : Hp} {a b : Addr} {s t : List Int} (ha : H a = some (.tup (s.map V.int))) (hb : H b = some (.tup (t.map V.int))) : RcD X H 20 (.ref a) (.ref b) (decide (s = t)) :=
 (EqR.tup (d := 19) EqR.int).rc _ _ s t ⟨a, _, rfl, SqT.of ha, pI s⟩ ⟨b, _, rfl, SqT.of hb, pI t⟩
theorem rcLT {X : Cx} {H : Hp} {a b : Addr} {xs ys : List V} {s t : List (List Int)} (ha : H a = some (.lst xs)) (px : Paired (isTI H) xs s) (hb : H b = some (.lst ys)) (py : Paired (isTI H) ys t) : RcD X H 20 (.ref a) (.ref b) (decide (s = t)) :=
 (EqR.lst (d := 19) (EqR.tup (d := 18) EqR.int)).rc _ _ s t ⟨a, _, rfl, SqL.of ha, toTs px⟩ ⟨b, _, rfl, SqL.of hb, toTs py⟩
section
variable {P : Program} {w : World} {K : PySem.W.Frag} {mg : Str → Option Value} {base : Heap} {CH : Addr}
theorem ok_check_jug_g {f : Addr} {fd : FuncData} (F : Fun K "check_jug" "check_jug" s_check_jug f fd) (N : FnB P w K mg base 2 "is_jug" ["value"] sp_is_jug) : FnOk P w K mg base CX0 3 f fd ["jug"] sp_check_jug := by
 refine F.ok sc_check_jug (fun vs H Q E h => ?_) (fun cdv A outer s H vs Q E hr h => ?_)
 · obtain ⟨j, rfl, _⟩ := h
   rfl
 · obtain ⟨j, rfl, hj, k⟩ := h
   refine ⟨_, s1' (ps_if (pt_not (pt_val (eF N hr (pK (pv 0) pN)))) sV sN), ?_⟩
   refine ⟨_, rfl, (j : Int), rfl, _, rfl, ?_⟩
   rw [decide_eq_true (by omega : (0 : Int) ≤ j), decide_eq_true (by omega : (j : Int) ≤ 3)]
   exact iteF k
theorem ok_check_house_has_g {f : Addr} {fd : FuncData} (F : Fun K "check_house_has" "check_house_has" s_check_house_has f fd) (B : Bt mg) (S : MeB P w K mg base 1 CH "sizes" ["self"] (sp_sizes CH)) :
   FnOk P w K mg base CX0 2 f fd ["house", "jug"] (sp_check_house_has CH) := by
 refine F.ok sc_check_house_has (fun vs H Q E h => ?_) (fun cdv A outer s H vs Q E hr h => ?_)
 · obtain ⟨p, sz, tap, j, rfl, _⟩ := h
   rfl
 · obtain ⟨p, sz, tap, j, rfl, hh, hj, k⟩ := h
   obtain ⟨dx, t, hp, ht⟩ := id hh
   refine ⟨_, s1' (ps_if (pt_cmpR op_ge (pv 1) (eZ call_len_seq (by rfl) B.len PySem.boot_len (pK (pe_me0 S (pv 0) hr) pN)) (nomark _)) sV sN), ?_⟩
   refine ⟨_, rfl, _, rfl, p, dx, _, rfl, hp, hF_no _ _ (by decide +kernel) (by decide +kernel), p, sz, tap, rfl, hh, fun m hm => ?_⟩
   refine ⟨m, _, rfl, .inl (SqL.of uS), _, _, rfl, rfl, _, rfl, ?_⟩
   rw [decide_eq_false (by simp; omega)]
   exact iteF (k _ (Same.new hm))
end
structure Gz where
 H : Addr
 S : Addr
 U : Addr
 W : Addr
inductive Go where
 | holds (j : Nat) (m : Int)
 | som (m : Int)
 | sum (js : List Int) (m : Int)
 | whole (st : List Int)
def hoF (j : Nat) (m : Int) : List (Str × V) := putF "many" (.int m) (putF "jug" (.int j) [])
def soF (m : Int) : List (Str × V) := putF "many" (.int m) []
def suF (t : Addr) (m : Int) : List (Str × V) := putF "many" (.int m) (putF "jugs" (.ref t) [])
def whF (t : Addr) : List (Str × V) := putF "state" (.ref t) []
theorem n_many_jug : ¬ (("many" : Str) = "jug") := by decide +kernel
theorem n_many_jugs : ¬ (("many" : Str) = "jugs") := by decide +kernel
theorem hoF_jug (j : Nat) (m : Int) : (hoF j m).lookup ("jug" : Str) = some (.int j) := by
 unfold hoF; rw [lP, if_neg (fun e => n_many_jug e.symm), lP, if_pos rfl]
theorem hoF_many (j : Nat) (m : Int) : (hoF j m).lookup ("many" : Str) = some (.int m) := by
 unfold hoF; rw [lP, if_pos rfl]
theorem hoF_no (j : Nat) (m : Int) {x : Str} (h1 : ¬ x = "many") (h2 : ¬ x = "jug") : (hoF j m).lookup x = none := by
 unfold hoF; rw [lP, if_neg h1, lP, if_neg h2]; rfl
theorem soF_many (m : Int) : (soF m).lookup ("many" : Str) = some (.int m) := by
 unfold soF; rw [lP, if_pos rfl]
theorem soF_no (m : Int) {x : Str} (h1 : ¬ x = "many") : (soF m).lookup x = none := by
 unfold soF; rw [lP, if_neg h1]; rfl
theorem suF_jugs (t : Addr) (m : Int) : (suF t m).lookup ("jugs" : Str) = some (.ref t) := by
 unfold suF; rw [lP, if_neg (fun e => n_many_jugs e.symm), lP, if_pos rfl]
theorem suF_many (t : Addr) (m : Int) : (suF t m).lookup ("many" : Str) = some (.int m) := by
 unfold suF; rw [lP, if_pos rfl]
theorem suF_no (t : Addr) (m : Int) {x : Str} (h1 : ¬ x = "many") (h2 : ¬ x = "jugs") : (suF t m).lookup x = none := by
 unfold suF; rw [lP, if_neg h1, lP, if_neg h2]; rfl
theorem whF_state (t : Addr) : (whF t).lookup ("state" : Str) = some (.ref t) := by
 unfold whF; rw [lP, if_pos rfl]
theorem whF_no (t : Addr) {x : Str} (h1 : ¬ x = "state") : (whF t).lookup x = none := by
 unfold whF; rw [lP, if_neg h1]; rfl
def GoAt (Z : Gz) (H : Hp) (p : Addr) : Go → Prop
 | .holds j m => ∃ dx, H p = some (.ins Z.H dx (hoF j m))
 | .som m => ∃ dx, H p = some (.ins Z.S dx (soF m))
 | .sum js m => ∃ dx t, H p = some (.ins Z.U dx (suF t m)) ∧ H t = some (.tup (js.map V.int))
 | .whole st => ∃ dx t, H p = some (.ins Z.W dx (whF t)) ∧ H t = some (.tup (st.map V.int))
theorem GoAt.fix {Z : Gz} {H H' : Hp} {p : Addr} {g : Go} (h : GoAt Z H p g) (s : Fix H H') : GoAt Z H' p g := by
 cases g with
 | holds j m => obtain ⟨dx, e⟩ := h; exact ⟨dx, s _ _ e rfl⟩
 | som m => obtain ⟨dx, e⟩ := h; exact ⟨dx, s _ _ e rfl⟩
 | sum js m => obtain ⟨dx, t, e, e2⟩ := h; exact ⟨dx, t, s _ _ e rfl, s _ _ e2 rfl⟩
 | whole st => obtain ⟨dx, t, e, e2⟩ := h; exact ⟨dx, t, s _ _ e rfl, s _ _ e2 rfl⟩
theorem GoAt.mono {Z : Gz} {H H' : Hp} {p : Addr} {g : Go} (h : GoAt Z H p g) (s : Same H H') : GoAt Z H' p g := h.fix (Fix.of s)
def Go.ok (sz : List Int) : Go → Prop
 | .holds j _ => j < sz.length
 | .som _ => True
 | .sum js _ => js.length ≤ 4 ∧ ∀ j ∈ js, 0 ≤ j ∧ j < sz.length
 | .whole t => J.IsSt sz t
def sumAt (st js : List Int) : Int := (js.map fun j => J.at0 st j.toNat).sum
def Go.met (st : List Int) : Go → Bool
 | .holds j m => decide (J.at0 st j = m)
 | .som m => decide (m ∈ st)
 | .sum js m => decide (sumAt st js = m)
 | .whole t => decide (st = t)
def Go.num : Go → Nat
 | .holds _ _ => 0
 | .som _ => 1
 | .sum _ _ => 2
 | .whole _ => 3
theorem decV (a b : Int) : decide (V.int a = V.int b) = decide (a = b) := by
 by_cases h : a = b
 · rw [decide_eq_true h, decide_eq_true (by rw [h])]
 · rw [decide_eq_false h, decide_eq_false (fun e => h (by injection e))]
theorem inV_ints (m : Int) (st : List Int) : inV (.int m) (st.map V.int) = decide (m ∈ st) := by
 unfold inV
 rw [Bool.eq_iff_iff, List.any_eq_true, decide_eq_true_iff]
 constructor
 · rintro ⟨x, hx, e⟩
   obtain ⟨z, hz, rfl⟩ := List.mem_map.mp hx
   have : z = m := beq_iff_eq.mp (show (z == m) = true from e)
   exact this ▸ hz
 · intro h
   exact ⟨.int m, List.mem_map.mpr ⟨m, h, rfl⟩, (show (m == m) = true from beq_iff_eq.mpr rfl)⟩
theorem flat_ints (st : List Int) : (st.map V.int).all flatV = true := by
 rw [List.all_eq_true]
 intro x hx
 obtain ⟨z, _, rfl⟩ := List.mem_map.mp hx
 rfl
structure CHo (K : PySem.W.Frag) (C : Addr) : Prop where
 cl : Cls K C
 jug : NoAttr K C "jug"
 many : NoAttr K C "many"
structure CSo (K : PySem.W.Frag) (C : Addr) : Prop where
 cl : Cls K C
 many : NoAttr K C "many"
structure CSu (K : PySem.W.Frag) (C : Addr) : Prop where
 cl : Cls K C
 jugs : NoAttr K C "jugs"
 many : NoAttr K C "many"
structure CWh (K : PySem.W.Frag) (C : Addr) : Prop where
 cl : Cls K C
 state : NoAttr K C "state"
section
variable {P : Program} {w : World} {K : PySem.W.Frag} {mg : Str → Option Value} {base : Heap} {CH : Addr} {Z : Gz}
def sp_check_amount : Sp := fun vs H Q _ => ∃ m : Int, vs = [.int m] ∧ 0 ≤ m ∧ m ≤ 240 ∧ Q .non H
theorem ok_check_amount {f : Addr} {fd : FuncData} (F : Fun K "check_amount" "check_amount" s_check_amount f fd) (hA : ∃ t, mg "MOST_AMOUNT" = some (.int 240 t)) (N : FnB P w K mg base 1 "is_number" ["value", "least", "most"] sp_is_number) : FnOk P w K mg base CX0 2 f fd ["many"] sp_check_amount := by
 obtain ⟨t, eA⟩ := hA
 refine F.ok sc_check_amount (fun vs H Q E h => ?_) (fun cdv A outer s H vs Q E hr h => ?_)
 · obtain ⟨m, rfl, _⟩ := h
   rfl
 · obtain ⟨m, rfl, h0, h1, k⟩ := h
   refine ⟨_, s1' (ps_if (pt_not (pt_val (eF N hr (pK (pv 0) (pK eI (pK (pe_glob (v := .int 240) (by rfl) eA ⟨_, rfl⟩) pN)))))) sV sN), ?_⟩
   refine ⟨_, rfl, m, 0, 240, rfl, _, rfl, ?_⟩
   rw [decide_eq_true h0, decide_eq_true h1]
   exact iteF k
def sp_jugs_in : Sp := fun vs H Q _ => ∃ (l : Addr) (js : List Int), vs = [.ref l] ∧ H l = some (.lst (js.map V.int)) ∧ js.Nodup ∧ 1 ≤ js.length ∧ js.length ≤ 4 ∧ (∀ j ∈ js, 0 ≤ j ∧ j ≤ 3) ∧ ∀ r H', Same H H' → H' r = some (.lst (js.map V.int)) → Q (.ref r) H'
theorem ok_jugs_in {f : Addr} {fd : FuncData} (F : Fun K "jugs_in" "jugs_in" s_jugs_in f fd) (B : Bt mg) (hs : mg "set" = none) (N : FnB P w K mg base 3 "check_jug_goals" ["jug"] sp_check_jug) : FnOk P w K mg base CX0 4 f fd ["jugs"] sp_jugs_in := by
 refine F.ok sc_jugs_in (fun vs H Q E h => ?_) (fun cdv A outer s H vs Q E hr h => ?_)
 · obtain ⟨l, js, rfl, _⟩ := h
   rfl
 · obtain ⟨l, js, rfl, hl, hnd, h1, h4, hb, k⟩ := h
   have nd := sc_jugs_in.nd
   refine ⟨_, sK (ps_if (pt_not (pt_val (eZ call_isinst (by rfl) B.isinstance bI (pK (pv 0) (pK (pe_bltn (v := .ty "list") (by rfl) B.list bt_list rfl) pN))))) sV sN)
     (sK (sS (i := 1) nd rfl (Or.inl rfl) (eT cL (by rfl) B.list bt_list (pK (pv 0) pN)))
     (sK (ps_for PassesOwn.never rfl (pi_list (pv 1)) (pg_name (i := 2) nd rfl (Or.inl rfl))
       (s1' (ps_expr (eF N hr (pK (pv 2) pN)))))
     (sK (ps_if (pt_cmpR op_eq (eZ call_len_seq (by rfl) B.len PySem.boot_len (pK (pv 1) pN)) eI (nomark _)) sV sN)
     (sK (ps_if (pt_cmpR op_ne (pe_lenset rfl (by rfl) B.len (by rfl) hs (pv 1)) (eZ call_len_seq (by rfl) B.len PySem.boot_len (pK (pv 1) pN)) (nomark _)) sV sN)
     (s1' (sR (pv 1))))))), ?_⟩
   refine ⟨_, rfl, _, _, _, _, _, rfl, .ty "list", .lst hl, kit_ll, _, rfl, iteF ?_⟩
   refine ⟨_, rfl, l, _, rfl, .inl (SqL.of hl), fun r nr => ?_⟩
   have s1 : Same H (upd H r (.lst (js.map V.int))) := Same.new nr
   refine ⟨_, rfl, r, rfl, ⟨_, SqL.of uS⟩, for_list (K := K) (a := r) (xs := js.map V.int) (fun i σ H' => ∃ v, σ = [some (.ref l), some (.ref r), v] ∧ H' = upd H r (.lst (js.map V.int)))
     ⟨none, rfl, rfl⟩ (fun i σ H' _ ⟨_, _, e⟩ => by subst e; exact SqL.of uS) ?_ ?_⟩
   · rintro i x σ H' hx ⟨v, rfl, rfl⟩
     obtain ⟨z, ez, rfl⟩ := mem_ints hx
     obtain ⟨z0, z3⟩ := hb z (List.mem_of_getElem? ez)
     obtain ⟨j, rfl⟩ : ∃ j : Nat, z = (j : Int) := ⟨z.toNat, (Int.toNat_of_nonneg z0).symm⟩
     exact ⟨_, rfl, j, rfl, by omega, _, rfl, rfl⟩
   · rintro σ H' ⟨v, rfl, rfl⟩
     refine ⟨_, rfl, r, _, rfl, .inl (SqL.of uS), rfl, _, rfl, ?_⟩
     rw [decV, decide_eq_false (by rw [List.length_map]; omega)]
     refine iteF ?_
     refine ⟨_, rfl, r, js, rfl, SqL.of uS, hnd, by omega, ?_⟩
     refine ⟨_, rfl, r, _, rfl, .inl (SqL.of uS), rfl, _, rfl, iteNS (by rw [List.length_map]) ?_⟩
     exact ⟨_, rfl, k r _ s1 uS⟩
def sp_amounts_in : Sp := fun vs H Q _ => ∃ (l : Addr) (st : List Int), vs = [.ref l] ∧ H l = some (.tup (st.map V.int)) ∧ 1 ≤ st.length ∧ st.length ≤ 4 ∧ (∀ j ∈ st, 0 ≤ j ∧ j ≤ 60) ∧ ∀ r H', Same H H' → H' r = some (.lst (st.map V.int)) → Q (.ref r) H'
theorem ok_amounts_in {f : Addr} {fd : FuncData} (F : Fun K "amounts_in" "amounts_in" s_amounts_in f fd) (B : Bt mg) (N : FnB P w K mg base 1 "is_number" ["value", "least", "most"] sp_is_number) : FnOk P w K mg base CX0 2 f fd ["state"] sp_amounts_in := by
 obtain ⟨t4, e4⟩ := B.jugs
 obtain ⟨t60, e60⟩ := B.size
 refine F.ok sc_amounts_in (fun vs H Q E h => ?_) (fun cdv A outer s H vs Q E hr h => ?_)
 · obtain ⟨l, sz, rfl, _⟩ := h
   rfl
 · obtain ⟨l, sz, rfl, hl, h1, h4, hb, k⟩ := h
   have nd := sc_amounts_in.nd
   refine ⟨_, sK (ps_if (pt_not (pt_val (eZ call_isinst (by rfl) B.isinstance bI (pK (pv 0) (pK (pe_bltn (v := .ty "tuple") (by rfl) B.tuple bt_tuple rfl) pN))))) sV sN)
     (sK (sS (i := 1) nd rfl (Or.inl rfl) (eT cL (by rfl) B.list bt_list (pK (pv 0) pN)))
     (sK (ps_if (pt_not (pt_chain op_le op_le eI (eZ call_len_seq (by rfl) B.len PySem.boot_len (pK (pv 1) pN)) (pe_glob (v := .int 4) (by rfl) e4 ⟨_, rfl⟩))) sV sN)
     (sK (ps_for PassesOwn.never rfl (pi_list (pv 1)) (pg_name (i := 2) nd rfl (Or.inl rfl))
       (s1' (ps_if (pt_not (pt_val (eF N hr (pK (pv 2) (pK eI (pK (pe_glob (v := .int 60) (by rfl) e60 ⟨_, rfl⟩) pN)))))) sV sN)))
     (s1' (sR (pv 1)))))), ?_⟩
   refine ⟨_, rfl, _, _, _, _, _, rfl, .ty "tuple", .tup hl, kit_tt, _, rfl, iteF ?_⟩
   refine ⟨_, rfl, l, _, rfl, .inr (SqT.of hl), fun r nr => ?_⟩
   have s1 : Same H (upd H r (.lst (sz.map V.int))) := Same.new nr
   refine ⟨_, rfl, r, _, rfl, .inl (SqL.of uS), _, _, rfl, rfl, _, rfl, ?_⟩
   rw [decide_eq_true (by simp; omega)]
   refine iteT ⟨_, _, rfl, rfl, _, rfl, ?_⟩
   rw [decide_eq_true (by simp; omega)]
   refine iteF ?_
   refine ⟨_, rfl, r, rfl, ⟨_, SqL.of uS⟩, for_list (K := K) (a := r) (xs := sz.map V.int) (fun i σ H' => ∃ v, σ = [some (.ref l), some (.ref r), v] ∧ H' = upd H r (.lst (sz.map V.int)))
     ⟨none, rfl, rfl⟩ (fun i σ H' _ ⟨_, _, e⟩ => by subst e; exact SqL.of uS) ?_ ?_⟩
   · rintro i x σ H' hx ⟨v, rfl, rfl⟩
     obtain ⟨z, ez, rfl⟩ := mem_ints hx
     have hb := hb z (List.mem_of_getElem? ez)
     refine ⟨_, rfl, z, 0, 60, rfl, _, rfl, ?_⟩
     rw [decide_eq_true hb.1, decide_eq_true hb.2]
     exact iteF ⟨_, rfl, rfl⟩
   · rintro σ H' ⟨v, rfl, rfl⟩
     exact ⟨_, rfl, k r _ s1 uS⟩
def sp_check_state_of (CH : Addr) : Sp := fun vs H Q _ => ∃ p sz tap a st, vs = [.ref p, .ref a] ∧ House CH H p sz tap ∧ H a = some (.tup (st.map V.int)) ∧ J.IsSt sz st ∧ ∀ H', Same H H' → Q .non H'
theorem ok_check_state_of {f : Addr} {fd : FuncData} (F : Fun K "check_state_of" "check_state_of" s_check_state_of f fd) (N : FnB P w K mg base 2 "held_in" ["house", "state"] (sp_held_in CH)) : FnOk P w K mg base CX0 3 f fd ["house", "state"] (sp_check_state_of CH) := by
 refine F.ok sc_check_state_of (fun vs H Q E h => ?_) (fun cdv A outer s H vs Q E hr h => ?_)
 · obtain ⟨p, sz, tap, a, st, rfl, _⟩ := h
   rfl
 · obtain ⟨p, sz, tap, a, st, rfl, hh, ha, hst, k⟩ := h
   refine ⟨_, s1' (ps_try fun E' => s1' (ps_expr (eF N hr (pK (pv 0) (pK (pv 1) pN))))), ?_⟩
   exact ⟨_, rfl, _, rfl, p, sz, tap, a, st, rfl, hh, ha, hst, fun l H' s' _ _ => k _ s'⟩
end
section
variable {P : Program} {w : World} {K : PySem.W.Frag} {mg : Str → Option Value} {base : Heap} {CH : Addr} {Z : Gz}
def sp_Holds_init (Z : Gz) : Sp := fun vs H Q _ => ∃ (p dx : Addr) (j : Nat) (m : Int), vs = [.ref p, .int j, .int m] ∧ H p = some (.ins Z.H dx []) ∧ j ≤ 3 ∧ 0 ≤ m ∧ m ≤ 240 ∧
 ∀ H', (∀ c o, H c = some o → c ≠ p → H' c = some o) → GoAt Z H' p (.holds j m) → Q .non H'
theorem ok_Holds_init {f : Addr} {fd : FuncData} (F : Fun K "__init__" "Holds.__init__" s_Holds_init f fd) (C : CHo K Z.H) (N : FnB P w K mg base 3 "check_jug_goals" ["jug"] sp_check_jug) (M : FnB P w K mg base 2 "check_amount" ["many"] sp_check_amount) :
   FnOk P w K mg base CX0 4 f fd ["self", "jug", "many"] (sp_Holds_init Z) := by
 refine F.ok sc_Holds_init (fun vs H Q E h => ?_) (fun cdv A outer s H vs Q E hr h => ?_)
 · obtain ⟨p, dx, a, b, rfl, _⟩ := h
   rfl
 · obtain ⟨p, dx, j, m, rfl, hp, hj, h0, h1, k⟩ := h
   refine ⟨_, sK (ps_expr (eF N hr (pK (pv 1) pN))) (sK (ps_expr (eF M (hr.mono (by decide)) (pK (pv 2) pN)))
     (sK (ps_fld (pv 0) (pv 1) rfl) (s1' (ps_fld (pv 0) (pv 2) rfl)))), ?_⟩
   refine ⟨_, rfl, j, rfl, hj, ?_⟩
   refine ⟨_, rfl, m, rfl, h0, h1, ?_⟩
   refine ⟨_, rfl, _, rfl, p, Z.H, dx, [], rfl, hp, C.cl, C.jug, (by show 0 < 1000; decide), ?_⟩
   refine ⟨_, rfl, _, rfl, p, Z.H, dx, _, rfl, uS, C.cl, C.many, (by show 1 < 1000; decide), ?_⟩
   exact k _ (fun c o e hc => by rw [uN hc, uN hc]; exact e) ⟨dx, uS⟩
def sp_Some_init (Z : Gz) : Sp := fun vs H Q _ => ∃ (p dx : Addr) (m : Int), vs = [.ref p, .int m] ∧ H p = some (.ins Z.S dx []) ∧ 0 ≤ m ∧ m ≤ 240 ∧
 ∀ H', (∀ c o, H c = some o → c ≠ p → H' c = some o) → GoAt Z H' p (.som m) → Q .non H'
theorem ok_Some_init {f : Addr} {fd : FuncData} (F : Fun K "__init__" "Some.__init__" s_Some_init f fd) (C : CSo K Z.S) (M : FnB P w K mg base 2 "check_amount" ["many"] sp_check_amount) :
   FnOk P w K mg base CX0 3 f fd ["self", "many"] (sp_Some_init Z) := by
 refine F.ok sc_Some_init (fun vs H Q E h => ?_) (fun cdv A outer s H vs Q E hr h => ?_)
 · obtain ⟨p, dx, b, rfl, _⟩ := h
   rfl
 · obtain ⟨p, dx, m, rfl, hp, h0, h1, k⟩ := h
   refine ⟨_, sK (ps_expr (eF M hr (pK (pv 1) pN))) (s1' (ps_fld (pv 0) (pv 1) rfl)), ?_⟩
   refine ⟨_, rfl, m, rfl, h0, h1, ?_⟩
   refine ⟨_, rfl, _, rfl, p, Z.S, dx, [], rfl, hp, C.cl, C.many, (by show 0 < 1000; decide), ?_⟩
   exact k _ (fun c o e hc => by rw [uN hc]; exact e) ⟨dx, uS⟩
def sp_Sum_init (Z : Gz) : Sp := fun vs H Q _ => ∃ (p dx l : Addr) (js : List Int) (m : Int), vs = [.ref p, .ref l, .int m] ∧ H p = some (.ins Z.U dx []) ∧ H l = some (.lst (js.map V.int)) ∧ js.Nodup ∧ 1 ≤ js.length ∧ js.length ≤ 4 ∧ (∀ j ∈ js, 0 ≤ j ∧ j ≤ 3) ∧ 0 ≤ m ∧ m ≤ 240 ∧
 ∀ H', (∀ c o, H c = some o → c ≠ p → H' c = some o) → GoAt Z H' p (.sum js m) → Q .non H'
theorem ok_Sum_init {f : Addr} {fd : FuncData} (F : Fun K "__init__" "Sum.__init__" s_Sum_init f fd) (B : Bt mg) (C : CSu K Z.U) (N : FnB P w K mg base 4 "jugs_in" ["jugs"] sp_jugs_in) (M : FnB P w K mg base 2 "check_amount" ["many"] sp_check_amount) :
   FnOk P w K mg base CX0 5 f fd ["self", "jugs", "many"] (sp_Sum_init Z) := by
 refine F.ok sc_Sum_init (fun vs H Q E h => ?_) (fun cdv A outer s H vs Q E hr h => ?_)
 · obtain ⟨p, dx, l, js, m, rfl, _⟩ := h
   rfl
 · obtain ⟨p, dx, l, js, m, rfl, hp, hl, hnd, l1, l4, hb, h0, h1, k⟩ := h
   refine ⟨_, sK (ps_fld (pv 0) (eT cT (by rfl) B.tuple bt_tuple (pK (eF N hr (pK (pv 1) pN)) pN)) rfl)
     (sK (ps_expr (eF M (hr.mono (by decide)) (pK (pv 2) pN))) (s1' (ps_fld (pv 0) (pv 2) rfl))), ?_⟩
   refine ⟨_, rfl, l, js, rfl, hl, hnd, l1, l4, hb, fun r H1 s1 hr1 => ?_⟩
   refine ⟨r, _, rfl, .inl ⟨SqL.of hr1, fun t nt => ?_⟩⟩
   have s2 : Same H (upd H1 t (.tup (js.map V.int))) := s1.lay nt
   have tp : t ≠ p := fun e => by subst e; rw [s1 _ _ hp] at nt; cases nt
   refine ⟨_, rfl, p, Z.U, dx, [], rfl, s2 _ _ hp, C.cl, C.jugs, (by show 0 < 1000; decide), ?_⟩
   refine ⟨_, rfl, m, rfl, h0, h1, ?_⟩
   refine ⟨_, rfl, _, rfl, p, Z.U, dx, _, rfl, uS, C.cl, C.many, (by show 1 < 1000; decide), ?_⟩
   refine k _ (fun c o e hc => by rw [uN hc, uN hc]; exact s2 _ _ e) ⟨dx, t, uS, ?_⟩
   rw [uN tp, uN tp, uS]
def sp_Whole_init (Z : Gz) : Sp := fun vs H Q _ => ∃ (p dx l : Addr) (st : List Int), vs = [.ref p, .ref l] ∧ H p = some (.ins Z.W dx []) ∧ H l = some (.tup (st.map V.int)) ∧ 1 ≤ st.length ∧ st.length ≤ 4 ∧ (∀ j ∈ st, 0 ≤ j ∧ j ≤ 60) ∧
 ∀ H', (∀ c o, H c = some o → c ≠ p → H' c = some o) → GoAt Z H' p (.whole st) → Q .non H'
theorem ok_Whole_init {f : Addr} {fd : FuncData} (F : Fun K "__init__" "Whole.__init__" s_Whole_init f fd) (B : Bt mg) (C : CWh K Z.W) (N : FnB P w K mg base 2 "amounts_in" ["state"] sp_amounts_in) :
   FnOk P w K mg base CX0 3 f fd ["self", "state"] (sp_Whole_init Z) := by
 refine F.ok sc_Whole_init (fun vs H Q E h => ?_) (fun cdv A outer s H vs Q E hr h => ?_)
 · obtain ⟨p, dx, l, js, rfl, _⟩ := h
   rfl
 · obtain ⟨p, dx, l, js, rfl, hp, hl, l1, l4, hb, k⟩ := h
   refine ⟨_, s1' (ps_fld (pv 0) (eT cT (by rfl) B.tuple bt_tuple (pK (eF N hr (pK (pv 1) pN)) pN)) rfl), ?_⟩
   refine ⟨_, rfl, l, js, rfl, hl, l1, l4, hb, fun r H1 s1 hr1 => ?_⟩
   refine ⟨r, _, rfl, .inl ⟨SqL.of hr1, fun t nt => ?_⟩⟩
   have s2 : Same H (upd H1 t (.tup (js.map V.int))) := s1.lay nt
   have tp : t ≠ p := fun e => by subst e; rw [s1 _ _ hp] at nt; cases nt
   refine ⟨_, rfl, p, Z.W, dx, [], rfl, s2 _ _ hp, C.cl, C.state, (by show 0 < 1000; decide), ?_⟩
   refine k _ (fun c o e hc => by rw [uN hc]; exact s2 _ _ e) ⟨dx, t, uS, ?_⟩
   rw [uN tp, uS]
def sp_met (Z : Gz) (CH : Addr) (n : Nat) : Sp := fun vs H Q _ => ∃ p h l sz tap st g, vs = [.ref p, .ref h, .ref l] ∧ g.num = n ∧ GoAt Z H p g ∧ House CH H h sz tap ∧ H l = some (.lst (st.map V.int)) ∧ J.IsSt sz st ∧ g.ok sz ∧
 ∀ H', Same H H' → Q (.bl (g.met st)) H'
theorem ok_Holds_met {f : Addr} {fd : FuncData} (F : Fun K "met_by" "Holds.met_by" s_Holds_met_by f fd) (C : CHo K Z.H) (N : FnB P w K mg base 2 "check_house_has_goals" ["house", "jug"] (sp_check_house_has CH)) :
   FnOk P w K mg base CX0 3 f fd ["self", "house", "held"] (sp_met Z CH 0) := by
 refine F.ok sc_Holds_met_by (fun vs H Q E h => ?_) (fun cdv A outer s H vs Q E hr h => ?_)
 · obtain ⟨p, h, l, sz, tap, st, g, rfl, _⟩ := h
   rfl
 · obtain ⟨p, h, l, sz, tap, st, g, rfl, hn, hg, hh, hl, hst, hok, k⟩ := h
   cases g with
   | holds j m =>
     obtain ⟨dx, hp⟩ := hg
     have hj : j < sz.length := hok
     have hj' : j < st.length := by rw [hst.len]; exact hj
     refine ⟨_, sK (ps_expr (eF N hr (pK (pv 1) (pK (pe_fld (pv 0) rfl) pN)))) (s1' (sR (pe_cmpR op_eq (pe_ix ix_list (pv 2) (pe_fld (pv 0) rfl) (fun _ _ => rfl)) (pe_fld (pv 0) rfl) (nomark _)))), ?_⟩
     refine ⟨_, rfl, _, rfl, p, Z.H, dx, _, _, rfl, hp, C.cl, C.jug, hoF_jug _ _, h, sz, tap, j, rfl, hh, hj, fun H1 s1 => ?_⟩
     refine ⟨_, rfl, _, rfl, p, Z.H, dx, _, _, rfl, s1 _ _ hp, C.cl, C.jug, hoF_jug _ _, l, _, _, _, rfl, rfl, SqL.of (s1 _ _ hl), atI_nat (getV_of hj'), ?_⟩
     refine ⟨_, rfl, p, Z.H, dx, _, _, rfl, s1 _ _ hp, C.cl, C.many, hoF_many _ _, rfl, ?_⟩
     rw [decV]
     exact k _ s1
   | som m => cases hn
   | sum js m => cases hn
   | whole t => cases hn
theorem ok_Some_met {f : Addr} {fd : FuncData} (F : Fun K "met_by" "Some.met_by" s_Some_met_by f fd) (C : CSo K Z.S) :
   FnOk P w K mg base CX0 3 f fd ["self", "house", "held"] (sp_met Z CH 1) := by
 refine F.ok sc_Some_met_by (fun vs H Q E h => ?_) (fun cdv A outer s H vs Q E hr h => ?_)
 · obtain ⟨p, h, l, sz, tap, st, g, rfl, _⟩ := h
   rfl
 · obtain ⟨p, h, l, sz, tap, st, g, rfl, hn, hg, hh, hl, hst, hok, k⟩ := h
   cases g with
   | som m =>
     obtain ⟨dx, hp⟩ := hg
     refine ⟨_, s1' (sR (pe_cmpR op_in_seq (pe_fld (pv 0) rfl) (pv 2) (by rfl))), ?_⟩
     refine ⟨_, rfl, p, Z.S, dx, _, _, rfl, hp, C.cl, C.many, soF_many _, _, rfl, l, _, rfl, .inl (SqL.of hl), rfl, flat_ints _, ?_⟩
     show Q (.bl (inV (.int m) (st.map V.int))) H
     rw [inV_ints]
     exact k _ (Same.refl _)
   | holds j m => cases hn
   | sum js m => cases hn
   | whole t => cases hn
theorem ok_Whole_met {f : Addr} {fd : FuncData} (F : Fun K "met_by" "Whole.met_by" s_Whole_met_by f fd) (B : Bt mg) (C : CWh K Z.W) (N : FnB P w K mg base 3 "check_state_of" ["house", "state"] (sp_check_state_of CH)) :
   FnOk P w K mg base CX0 4 f fd ["self", "house", "held"] (sp_met Z CH 3) := by
 refine F.ok sc_Whole_met_by (fun vs H Q E h => ?_) (fun cdv A outer s H vs Q E hr h => ?_)
 · obtain ⟨p, h, l, sz, tap, st, g, rfl, _⟩ := h
   rfl
 · obtain ⟨p, h, l, sz, tap, st, g, rfl, hn, hg, hh, hl, hst, hok, k⟩ := h
   cases g with
   | whole t =>
     obtain ⟨dx, a, hp, ha⟩ := hg
     refine ⟨_, sK (ps_expr (eF N hr (pK (pv 1) (pK (pe_fld (pv 0) rfl) pN)))) (s1' (sR (pe_cmpR (op_eqD hr.u20) (eT cT (by rfl) B.tuple bt_tuple (pK (pv 2) pN)) (pe_fld (pv 0) rfl) (nomark _)))), ?_⟩
     refine ⟨_, rfl, _, rfl, p, Z.W, dx, _, _, rfl, hp, C.cl, C.state, whF_state _, h, sz, tap, a, t, rfl, hh, ha, hok, fun H1 s1 => ?_⟩
     refine ⟨_, rfl, l, _, rfl, .inl ⟨SqL.of (s1 _ _ hl), fun u nu => ?_⟩⟩
     have s2 := s1.lay (o := .tup (st.map V.int)) nu
     refine ⟨_, rfl, p, Z.W, dx, _, _, rfl, s2 _ _ hp, C.cl, C.state, whF_state _, _, rcT uS (s2 _ _ ha), ?_⟩
     exact k _ s2
   | holds j m => cases hn
   | sum js m => cases hn
   | som m => cases hn
theorem bt_sum : bootBuiltins "sum" = some (.builtin "sum") := by decide +kernel
theorem ok_Sum_met {f : Addr} {fd : FuncData} (F : Fun K "met_by" "Sum.met_by" s_Sum_met_by f fd) (C : CSu K Z.U) (hsm : mg "sum" = none) (N : FnB P w K mg base 2 "check_house_has_goals" ["house", "jug"] (sp_check_house_has CH)) :
   FnOk P w K mg base CX0 3 f fd ["self", "house", "held"] (sp_met Z CH 2) := by
 refine F.ok sc_Sum_met_by (fun vs H Q E h => ?_) (fun cdv A outer s H vs Q E hr h => ?_)
 · obtain ⟨p, h, l, sz, tap, st, g, rfl, _⟩ := h
   rfl
 · obtain ⟨p, h, l, sz, tap, st, g, rfl, hn, hg, hh, hl, hst, hok, k⟩ := h
   cases g with
   | sum js m =>
     obtain ⟨dx, a, hp, ha⟩ := hg
     obtain ⟨h4, hb⟩ := hok
     have nd := sc_Sum_met_by.nd
     refine ⟨_, sK (ps_for PassesOwn.never rfl (pi_tup (pe_fld (pv 0) rfl)) (pg_name (i := 3) nd rfl (Or.inl rfl)) (s1' (ps_expr (eF N hr (pK (pv 1) (pK (pv 3) pN))))))
       (s1' (sR (pe_cmpR op_eq (eZ (call_sum rfl) (by rfl) hsm bt_sum (pK (pe_lc sc_Sum_met_by [2] (pi_tup (pe_fld (pv 0) rfl)) (fun _ _ _ _ _ _ => ⟨pif_nil, pe_ix (ix_listK K) (pv 1) (pv 0) (fun _ _ => rfl)⟩)) pN)) (pe_fld (pv 0) rfl) (nomark _)))), ?_⟩
     refine ⟨_, rfl, p, Z.U, dx, _, _, rfl, hp, C.cl, C.jugs, suF_jugs _ _, a, rfl, ⟨_, SqT.of ha⟩, for_tup (K := K) (a := a) (xs := js.map V.int) (fun i σ H' => ∃ v, σ = [some (.ref p), some (.ref h), some (.ref l), v] ∧ Same H H')
       ⟨none, rfl, Same.refl _⟩ (fun i σ H' _ ⟨_, _, s1⟩ => SqT.of (s1 _ _ ha)) ?_ ?_⟩
     · rintro i x σ H' hx ⟨v, rfl, s1⟩
       obtain ⟨z, ez, rfl⟩ := mem_ints hx
       obtain ⟨z0, z1⟩ := hb z (List.mem_of_getElem? ez)
       obtain ⟨j, rfl⟩ : ∃ j : Nat, z = (j : Int) := ⟨z.toNat, (Int.toNat_of_nonneg z0).symm⟩
       exact ⟨_, rfl, _, rfl, h, sz, tap, j, rfl, hh.mono s1, by omega, fun H2 s2 => ⟨_, rfl, s1.trans s2⟩⟩
     · rintro σ H' ⟨v, rfl, s1⟩
       refine ⟨_, rfl, p, Z.U, dx, _, _, rfl, s1 _ _ hp, C.cl, C.jugs, suF_jugs _ _, a, rfl, ⟨_, SqT.of (s1 _ _ ha)⟩, lc_tup (xs := js.map V.int) (fun i ys H'' => ys = ((js.take i).map fun j => J.at0 st j.toNat).map V.int ∧ H'' = H') ⟨rfl, rfl⟩ (by rw [List.length_map]; exact small1000 (by omega)) (fun i ys H' ⟨e, _⟩ => by rw [e]; simp; omega)
         (fun i ys H'' _ ⟨_, e⟩ => by subst e; exact SqT.of (s1 _ _ ha)) (fun i x ys H'' hx ⟨e1, e2⟩ => ?_) (fun ys H'' ⟨e1, e2⟩ => ?_)⟩
       · obtain ⟨z, ez, rfl⟩ := mem_ints hx
         obtain ⟨z0, z1⟩ := hb z (List.mem_of_getElem? ez)
         obtain ⟨j, rfl⟩ : ∃ j : Nat, z = (j : Int) := ⟨z.toNat, (Int.toNat_of_nonneg z0).symm⟩
         have hj' : j < st.length := by rw [hst.len]; omega
         subst e1 e2
         refine tYes_of ⟨_, rfl, _, rfl, l, _, _, .int (J.at0 st j), rfl, rfl, SqL.of (s1 _ _ hl), atI_nat (getV_of hj'), ?_, rfl⟩
         rw [List.take_add_one, ez, List.map_append, List.map_append]
         rfl
       · subst e1 e2
         intro D nD
         have s2 := s1.lay (o := .lst (((js.take (js.map V.int).length).map fun j => J.at0 st j.toNat).map V.int)) nD
         refine ⟨D, _, rfl, SqL.of uS, ?_⟩
         refine ⟨_, rfl, p, Z.U, dx, _, _, rfl, s2 _ _ hp, C.cl, C.many, suF_many _ _, rfl, ?_⟩
         rw [decV, List.length_map, List.take_length]
         exact k _ (by rw [List.length_map, List.take_length] at s2; exact s2)
   | holds j m => cases hn
   | whole t => cases hn
   | som m => cases hn
def sp_come (Z : Gz) (CH : Addr) : Sp := fun vs H Q _ => ∃ p h a sz tap st g, vs = [.ref p, .ref h, .ref a] ∧ GoAt Z H p g ∧ House CH H h sz tap ∧ H a = some (.tup (st.map V.int)) ∧ J.IsSt sz st ∧ g.ok sz ∧
 ∀ H', Same H H' → Q (.bl (g.met st)) H'
theorem ok_come {f : Addr} {fd : FuncData} (F : Fun K "come" "Goal.come" s_Goal_come f fd) (HI : FnB P w K mg base 2 "held_in" ["house", "state"] (sp_held_in CH)) (M0 : MeB P w K mg base 4 Z.H "met_by" ["self", "house", "held"] (sp_met Z CH 0))
   (M1 : MeB P w K mg base 4 Z.S "met_by" ["self", "house", "held"] (sp_met Z CH 1)) (M2 : MeB P w K mg base 4 Z.U "met_by" ["self", "house", "held"] (sp_met Z CH 2)) (M3 : MeB P w K mg base 4 Z.W "met_by" ["self", "house", "held"] (sp_met Z CH 3)) :
   FnOk P w K mg base CX0 5 f fd ["self", "house", "state"] (sp_come Z CH) := by
 refine F.ok sc_Goal_come (fun vs H Q E h => ?_) (fun cdv A outer s H vs Q E hr h => ?_)
 · obtain ⟨p, h, l, sz, tap, st, g, rfl, _⟩ := h
   rfl
 · obtain ⟨p, h, a, sz, tap, st, g, rfl, hg, hh, ha, hst, hok, k⟩ := h
   have nd := sc_Goal_come.nd
   have hr2 : Room 2 _ := hr.mono (by decide)
   cases g with
   | holds j m =>
     refine ⟨_, sK (sS (i := 3) nd rfl (Or.inl rfl) (eF HI hr2 (pK (pv 1) (pK (pv 2) pN)))) (s1' (sR (pe_me M0 (pv 0) hr (pK (pv 1) (pK (pv 3) pN))))), ?_⟩
     refine ⟨_, rfl, _, rfl, h, sz, tap, a, st, rfl, hh, ha, hst, fun l H1 s1 _ hl => ?_⟩
     obtain ⟨dx, hp⟩ := hg.mono s1
     exact ⟨_, rfl, p, dx, _, rfl, hp, hoF_no _ _ (by decide +kernel) (by decide +kernel), _, rfl, _, rfl, p, h, l, sz, tap, st, .holds j m, rfl, rfl, ⟨dx, hp⟩, hh.mono s1, hl, hst, hok, fun H2 s2 => k _ (s1.trans s2)⟩
   | som m =>
     refine ⟨_, sK (sS (i := 3) nd rfl (Or.inl rfl) (eF HI hr2 (pK (pv 1) (pK (pv 2) pN)))) (s1' (sR (pe_me M1 (pv 0) hr (pK (pv 1) (pK (pv 3) pN))))), ?_⟩
     refine ⟨_, rfl, _, rfl, h, sz, tap, a, st, rfl, hh, ha, hst, fun l H1 s1 _ hl => ?_⟩
     obtain ⟨dx, hp⟩ := hg.mono s1
     exact ⟨_, rfl, p, dx, _, rfl, hp, soF_no _ (by decide +kernel), _, rfl, _, rfl, p, h, l, sz, tap, st, .som m, rfl, rfl, ⟨dx, hp⟩, hh.mono s1, hl, hst, hok, fun H2 s2 => k _ (s1.trans s2)⟩
   | sum js m =>
     refine ⟨_, sK (sS (i := 3) nd rfl (Or.inl rfl) (eF HI hr2 (pK (pv 1) (pK (pv 2) pN)))) (s1' (sR (pe_me M2 (pv 0) hr (pK (pv 1) (pK (pv 3) pN))))), ?_⟩
     refine ⟨_, rfl, _, rfl, h, sz, tap, a, st, rfl, hh, ha, hst, fun l H1 s1 _ hl => ?_⟩
     obtain ⟨dx, t, hp, ht⟩ := hg.mono s1
     exact ⟨_, rfl, p, dx, _, rfl, hp, suF_no _ _ (by decide +kernel) (by decide +kernel), _, rfl, _, rfl, p, h, l, sz, tap, st, .sum js m, rfl, rfl, ⟨dx, t, hp, ht⟩, hh.mono s1, hl, hst, hok, fun H2 s2 => k _ (s1.trans s2)⟩
   | whole t =>
     refine ⟨_, sK (sS (i := 3) nd rfl (Or.inl rfl) (eF HI hr2 (pK (pv 1) (pK (pv 2) pN)))) (s1' (sR (pe_me M3 (pv 0) hr (pK (pv 1) (pK (pv 3) pN))))), ?_⟩
     refine ⟨_, rfl, _, rfl, h, sz, tap, a, st, rfl, hh, ha, hst, fun l H1 s1 _ hl => ?_⟩
     obtain ⟨dx, b, hp, hb⟩ := hg.mono s1
     exact ⟨_, rfl, p, dx, _, rfl, hp, whF_no _ (by decide +kernel), _, rfl, _, rfl, p, h, l, sz, tap, st, .whole t, rfl, rfl, ⟨dx, b, hp, hb⟩, hh.mono s1, hl, hst, hok, fun H2 s2 => k _ (s1.trans s2)⟩
end
end Jug
namespace Jug
open PySem L2
def Gz.cl (Z : Gz) : Go → Addr
 | .holds _ _ => Z.H
 | .som _ => Z.S
 | .sum _ _ => Z.U
 | .whole _ => Z.W
structure GoC (K : PySem.W.Frag) (mg : Str → Option Value) (Z : Gz) (CG : Addr) : Prop where
 ho : CHo K Z.H
 so : CSo K Z.S
 su : CSu K Z.U
 wh : CWh K Z.W
 tH : CTy K Z.H
 tS : CTy K Z.S
 tU : CTy K Z.U
 tW : CTy K Z.W
 gG : mg "Goal" = some (.ref CG)
 gH : mg "Holds" = some (.ref Z.H)
 gS : mg "Some" = some (.ref Z.S)
 gU : mg "Sum" = some (.ref Z.U)
 gW : mg "Whole" = some (.ref Z.W)
 kHS : PySem.W.kitOne K (.ref Z.H) (.ref Z.S) = some false
 kHU : PySem.W.kitOne K (.ref Z.H) (.ref Z.U) = some false
 kHW : PySem.W.kitOne K (.ref Z.H) (.ref Z.W) = some false
 kSH : PySem.W.kitOne K (.ref Z.S) (.ref Z.H) = some false
 kSU : PySem.W.kitOne K (.ref Z.S) (.ref Z.U) = some false
 kSW : PySem.W.kitOne K (.ref Z.S) (.ref Z.W) = some false
 kUH : PySem.W.kitOne K (.ref Z.U) (.ref Z.H) = some false
 kUS : PySem.W.kitOne K (.ref Z.U) (.ref Z.S) = some false
 kUW : PySem.W.kitOne K (.ref Z.U) (.ref Z.W) = some false
 kWH : PySem.W.kitOne K (.ref Z.W) (.ref Z.H) = some false
 kWS : PySem.W.kitOne K (.ref Z.W) (.ref Z.S) = some false
 kWU : PySem.W.kitOne K (.ref Z.W) (.ref Z.U) = some false
 kHG : PySem.W.kitOne K (.ref Z.H) (.ref CG) = some true
 kSG : PySem.W.kitOne K (.ref Z.S) (.ref CG) = some true
 kUG : PySem.W.kitOne K (.ref Z.U) (.ref CG) = some true
 kWG : PySem.W.kitOne K (.ref Z.W) (.ref CG) = some true
theorem GoC.ty {K : PySem.W.Frag} {mg : Str → Option Value} {Z : Gz} {CG : Addr} (M : GoC K mg Z CG) {H : Hp} {p : Addr} {g : Go} (h : GoAt Z H p g) : TyOf K H (.ref p) (.ref (Z.cl g)) := by
 cases g with
 | holds a b => obtain ⟨dx, h⟩ := h; exact .ins h M.ho.cl M.tH.ha M.tH.hn M.tH.htk M.tH.hm
 | som a => obtain ⟨dx, h⟩ := h; exact .ins h M.so.cl M.tS.ha M.tS.hn M.tS.htk M.tS.hm
 | sum a b => obtain ⟨dx, t, h, _⟩ := h; exact .ins h M.su.cl M.tU.ha M.tU.hn M.tU.htk M.tU.hm
 | whole a => obtain ⟨dx, t, h, _⟩ := h; exact .ins h M.wh.cl M.tW.ha M.tW.hn M.tW.htk M.tW.hm
theorem GoAt.no {Z : Gz} {H : Hp} {p : Addr} {g : Go} (h : GoAt Z H p g) : ∃ dx fs, H p = some (.ins (Z.cl g) dx fs) ∧ fs.lookup ("come" : Str) = none := by
 cases g with
 | holds a b => obtain ⟨dx, h⟩ := h; exact ⟨dx, _, h, hoF_no _ _ (by decide +kernel) (by decide +kernel)⟩
 | som a => obtain ⟨dx, h⟩ := h; exact ⟨dx, _, h, soF_no _ (by decide +kernel)⟩
 | sum a b => obtain ⟨dx, t, h, _⟩ := h; exact ⟨dx, _, h, suF_no _ _ (by decide +kernel) (by decide +kernel)⟩
 | whole a => obtain ⟨dx, t, h, _⟩ := h; exact ⟨dx, _, h, whF_no _ (by decide +kernel)⟩
def anyGo (Z : Gz) : Addr → Prop := fun C => C = Z.H ∨ C = Z.S ∨ C = Z.U ∨ C = Z.W
theorem anyGo.of (Z : Gz) (g : Go) : anyGo Z (Z.cl g) := by
 cases g with
 | holds _ _ => exact .inl rfl
 | som _ => exact .inr (.inl rfl)
 | sum _ _ => exact .inr (.inr (.inl rfl))
 | whole _ => exact .inr (.inr (.inr rfl))
theorem GoC.any {K : PySem.W.Frag} {mg : Str → Option Value} {Z : Gz} {CG : Addr} (M : GoC K mg Z CG) (g : Go) : PySem.W.kitAny K (.ref (Z.cl g)) [.ref Z.H, .ref Z.S, .ref Z.U, .ref Z.W] = some true := by
 cases g with
 | holds _ _ => simp only [PySem.W.kitAny, Gz.cl, kit_self]
 | som _ => simp only [PySem.W.kitAny, Gz.cl, M.kSH, kit_self]
 | sum _ _ => simp only [PySem.W.kitAny, Gz.cl, M.kUH, M.kUS, kit_self]
 | whole _ => simp only [PySem.W.kitAny, Gz.cl, M.kWH, M.kWS, M.kWU, kit_self]
def SameB (d : Addr) (H H' : Hp) : Prop := ∀ b c, H b = some c → b ≠ d → H' b = some c
theorem WD.get {Z : Cz} {H : Hp} {W : List J.Way} : ∀ {kvs : List (List Key × V)} {ws : List J.Way}, WD Z H W kvs ws → (ws.map (·.1)).Nodup → ∀ {q : Nat} {x : J.Way}, ws[q]? = some x → ∃ v, valV kvs (kOf x.1) = some v ∧ WVal Z H W v x.2
 | _, _, .nil, _, _, _, h => by simp at h
 | _, _, .cons (a := kv) (b := y) hd t, nd, 0, x, h => by
   simp at h
   subst h
   exact ⟨kv.2, valV_pos hd.1, hd.2⟩
 | _, _, .cons (a := kv) (b := y) hd t, nd, q + 1, x, h => by
   rw [List.map_cons, List.nodup_cons] at nd
   have h' := (by simpa using h : _)
   obtain ⟨v, e, hv⟩ := WD.get t nd.2 h'
   refine ⟨v, ?_, hv⟩
   rw [valV_neg (fun e => nd.1 ?_)]
   · exact e
   · rw [hd.1] at e
     have := kOf_inj e
     rw [this]
     exact List.mem_map.mpr ⟨x, List.mem_of_getElem? h', rfl⟩
theorem ne_of_fx {H : Hp} {b d : Addr} {c : HO} {kvs : List (List Key × V)} (e : H b = some c) (hd : H d = some (.dT kvs)) (f : fx c = true) : b ≠ d := by
 rintro rfl
 rw [hd] at e
 cases e
 cases f
section
variable {P : Program} {w : World} {K : PySem.W.Frag} {mg : Str → Option Value} {base : Heap} {CH CG : Addr} {Z : Cz} {G : Gz}
def sp_check_goal (G : Gz) : Sp := fun vs H Q _ => ∃ p g, vs = [.ref p] ∧ GoAt G H p g ∧ ∀ H', Same H H' → Q .non H'
theorem ok_check_goal {f : Addr} {fd : FuncData} (F : Fun K "check_goal" "check_goal" s_check_goal f fd) (B : Bt mg) (M : GoC K mg G CG) : FnOk P w K mg base CX0 1 f fd ["goal"] (sp_check_goal G) := by
 refine F.ok sc_check_goal (fun vs H Q E h => ?_) (fun cdv A outer s H vs Q E hr h => ?_)
 · obtain ⟨p, g, rfl, _⟩ := h
   rfl
 · obtain ⟨p, g, rfl, hg, k⟩ := h
   refine ⟨_, s1' (ps_if (pt_not (pt_val (eZ call_isinstT (by rfl) B.isinstance bI (pK (pv 0) (pK (pe_tup (pK (pe_glob (v := .ref G.H) (by rfl) M.gH rfl) (pK (pe_glob (v := .ref G.S) (by rfl) M.gS rfl) (pK (pe_glob (v := .ref G.U) (by rfl) M.gU rfl)
     (pK (pe_glob (v := .ref G.W) (by rfl) M.gW rfl) pN))))) pN))))) sV sN), ?_⟩
   refine ⟨_, rfl, (by show 4 ≤ sizeLine; decide), fun tp nt => ?_⟩
   exact ⟨_, tp, _, _, _, _, rfl, uS, .cons (.ref _) (.cons (.ref _) (.cons (.ref _) (.cons (.ref _) .nil))), M.ty (hg.mono (Same.new nt)), M.any g, _, rfl, iteF (k _ (Same.new nt))⟩
def sp_nearest (Z : Cz) (G : Gz) (CH : Addr) : Sp := fun vs H Q _ => ∃ (h d p : Addr) (sz : List Int) (tap : Bool) (g : Go) (kvs : List (List Key × V)) (W : List J.Way), vs = [.ref h, .ref d, .ref p] ∧ House CH H h sz tap ∧ GoAt G H p g ∧ g.ok sz ∧ H d = some (.dT kvs) ∧ WD Z H W kvs W ∧ (∀ x ∈ W, J.IsSt sz x.1) ∧
 ∀ (H' : Hp) (o : Obj), SameB d H H' → H' d = some (.frz o (.dT kvs)) →
   (∀ (i : Nat) (x : J.Way) (b : Addr), W[i]? = some x → g.met x.1 = true → (∀ (j : Nat) (y : J.Way), j < i → W[j]? = some y → g.met y.1 = false) → H' b = some (.tup (x.1.map V.int)) → Q (.ref b) H') ∧ ((∀ x ∈ W, g.met x.1 = false) → Q .non H')
theorem ok_nearest {f : Addr} {fd : FuncData} (F : Fun K "nearest" "nearest" s_nearest f fd) (CM : ∀ C, anyGo G C → MeB P w K mg base 5 C "come" ["self", "house", "state"] (sp_come G CH)) : FnOk P w K mg base CX0 6 f fd ["house", "ways", "goal"] (sp_nearest Z G CH) := by
 refine F.ok sc_nearest (fun vs H Q E h => ?_) (fun cdv A outer s H vs Q E hr h => ?_)
 · obtain ⟨h, d, p, sz, tap, g, kvs, W, rfl, _⟩ := h
   rfl
 · obtain ⟨h, d, p, sz, tap, g, kvs, W, rfl, hh, hg, hok, hd, wd, hst, k⟩ := h
   refine ⟨_, sK (ps_for PassesOwn.never rfl (pi_dt (pv 1)) (pg_name (i := 3) sc_nearest.nd rfl (Or.inl rfl))
       (s1' (ps_if (pt_val (pe_meU CM (pv 2) hr (pK (pv 0) (pK (pv 3) pN)))) (s1' (sR (pv 3))) sN)))
     (s1' (sR pe_non)), ?_⟩
   refine ⟨_, rfl, d, kvs, rfl, .inl ⟨hd, fun o => for_dt (a := d) (kvs := kvs) (o := o) (fun i σ H' => ∃ v3 : Option V, σ = [some (.ref h), some (.ref d), some (.ref p), v3] ∧ SameB d H H' ∧ H' d = some (.frz o (.dT kvs)) ∧ ∀ (j : Nat) (y : J.Way), j < i → W[j]? = some y → g.met y.1 = false)
     ⟨none, rfl, fun b c e hb => by rw [uN hb]; exact e, uS, fun j y hj => absurd hj (Nat.not_lt_zero _)⟩ (fun i σ H' _ ⟨_, _, _, e, _⟩ => e) ?_ ?_⟩⟩
   · rintro i k' v b σ H' hk hb ⟨v3, rfl, s4, ed, no⟩
     obtain ⟨x, hx, ek, _⟩ := L2.Paired.get wd hk
     have ek' : k' = kOf x.1 := ek
     rw [ek', kOf_map] at hb
     have fb : ∀ {b c}, H b = some c → fx c = true → H' b = some c := fun {b c} e f => s4 b c e (ne_of_fx e hd f)
     have hg4 : GoAt G H' p g := hg.fix fun c o e f => fb e f
     have hh4 : House CH H' h sz tap := hh.fix fun c o e f => fb e f
     obtain ⟨dx, fs, hp, hno⟩ := hg4.no
     refine ⟨_, rfl, G.cl g, p, dx, fs, anyGo.of G g, rfl, hp, hno, _, rfl, _, rfl, p, h, b, sz, tap, x.1, g, rfl, hg4, hh4, hb, hst x (List.mem_of_getElem? hx), hok, fun H5 s5 => ⟨_, rfl, ?_⟩⟩
     have s6 : SameB d H H5 := fun c o e hc => s5 _ _ (s4 c o e hc)
     cases hm : g.met x.1 with
     | true => exact iteT ⟨_, rfl, (k H5 o s6 (s5 _ _ ed)).1 i x b hx hm no (s5 _ _ hb)⟩
     | false =>
       refine iteF ⟨_, rfl, s6, s5 _ _ ed, fun j y hj hy => ?_⟩
       by_cases e : j = i
       · subst e; rw [hx] at hy; cases hy; exact hm
       · exact no j y (by omega) hy
   · rintro σ H' ⟨v3, rfl, s4, ed, no⟩
     refine (k H' o s4 ed).2 fun x hx => ?_
     obtain ⟨j, hj⟩ := List.mem_iff_getElem?.mp hx
     have := (List.getElem?_eq_some_iff.mp hj).1
     exact no j x (by have := wd.length; omega) hj
end
end Jug
namespace Jug
open PySem L2
theorem back_fuel {W : List J.Way} (par : ∀ (i : Nat) (x : List Int) (q : Nat) (m : J.Mv), W[i]? = some (x, some (q, m)) → q < i) : ∀ (i f : Nat), i < f → J.back W f i = J.back W (i + 1) i := by
 intro i
 induction i using Nat.strongRecOn with
 | ind i ih =>
   intro f hf
   cases f with
   | zero => omega
   | succ f =>
     unfold J.back
     cases e : W[i]? with
     | none => rfl
     | some y =>
       obtain ⟨x, o⟩ := y
       cases o with
       | none => rfl
       | some qm =>
         obtain ⟨q, m⟩ := qm
         have hq := par i x q m e
         show m :: J.back W f q = m :: J.back W i q
         rw [ih q hq f (by omega), ih q hq i hq]
section
variable {P : Program} {w : World} {K : PySem.W.Frag} {mg : Str → Option Value} {base : Heap} {CH CG : Addr} {Z : Cz} {G : Gz}
def sp_moves_to (Z : Cz) : Sp := fun vs H Q _ => ∃ (d b : Addr) (kvs : List (List Key × V)) (W : List J.Way) (i : Nat) (x : J.Way), vs = [.ref d, .ref b] ∧ Rd H d (.dT kvs) ∧ WD Z H W kvs W ∧ (W.map (·.1)).Nodup ∧ (∀ (i : Nat) (x : List Int) (q : Nat) (m : J.Mv), W[i]? = some (x, some (q, m)) → q < i) ∧
 W.length ≤ 2000 ∧ W[i]? = some x ∧ H b = some (.tup (x.1.map V.int)) ∧ ∀ (l : Addr) (H' : Hp) (ys : List V), Same H H' → H' l = some (.lst ys) → Paired (isM Z H') ys (J.back W (i + 1) i).reverse → Q (.ref l) H'
theorem Rd.same {H H' : Hp} {a : Addr} {u : HO} (h : Rd H a u) (s : Same H H') : Rd H' a u := by
 rcases h with h | ⟨o, h⟩
 · exact .inl (s _ _ h)
 · exact .inr ⟨o, s _ _ h⟩
theorem paired_rev {α β : Type} {F : α → β → Prop} {l₁ : List α} {l₂ : List β} (h : Paired F l₁ l₂) : Paired F l₁.reverse l₂.reverse := by
 induction h with
 | nil => exact .nil
 | cons h _ ih => rw [List.reverse_cons, List.reverse_cons]; exact Paired.snocP ih h
theorem ok_moves_to {f : Addr} {fd : FuncData} (F : Fun K "moves_to" "moves_to" s_moves_to f fd) (B : Bt mg) (hrv : mg "reversed" = none) : FnOk P w K mg base CX0 1 f fd ["ways", "state"] (sp_moves_to Z) := by
 refine F.ok sc_moves_to (fun vs H Q E h => ?_) (fun cdv A outer s H vs Q E hr h => ?_)
 · obtain ⟨d, b, kvs, W, i, x, rfl, _⟩ := h
   rfl
 · obtain ⟨d, b, kvs, W, i, x, rfl, hd, wd, nd, par, hl, hx, hb, k⟩ := h
   have hu := hr.units
   refine ⟨_, sK (sS (i := 2) sc_moves_to.nd rfl (Or.inl rfl) (pe_lst pN))
     (sK (sS (i := 3) sc_moves_to.nd rfl (Or.inl rfl) (pe_dget (Nat.lt_of_le_of_lt (Nat.add_le_add_left (by decide) _) hu) (pv 0) (pv 1) (fun _ _ => rfl)))
     (sK (ps_while PassesOwn.never (pt_cmp (pc_notN (pv 3)))
       (sK (ps_expr (pe_append (pv 2) (pe_ix ix_tup (pv 3) eI (fun _ _ => rfl))))
       (s1' (sS (i := 3) sc_moves_to.nd rfl (Or.inl rfl) (pe_dget (Nat.lt_of_le_of_lt (Nat.add_le_add_left (by decide) _) hu) (pv 0) (pe_ix ix_tup (pv 3) eI (fun _ _ => rfl)) (fun _ _ => rfl))))))
     (s1' (sR (pe_revL rfl (by rfl) B.list (by rfl) hrv (pv 2)))))), ?_⟩
   refine ⟨(by show 0 ≤ sizeLine; decide), fun bk nbk => ?_⟩
   have s1 : Same H (upd H bk (.lst [])) := Same.new nbk
   obtain ⟨v0, ev0, wv0⟩ := wd.get nd hx
   refine ⟨_, rfl, _, rfl, d, v0, rfl, .inr ⟨kvs, kOf x.1, b, Rd.same hd s1, rfl, by rw [kOf_map]; exact s1 _ _ hb, ev0.symm⟩, ?_⟩
   refine ⟨fun n σ H' => ∃ (y : J.Way) (v : V) (ys : List V) (pre : List J.Mv), W[n]? = some y ∧ WVal Z H W v y.2 ∧ σ = [some (.ref d), some (.ref b), some (.ref bk), some v] ∧ Same H H' ∧ H' bk = some (.lst ys) ∧ Paired (isM Z H') ys pre ∧ pre ++ J.back W (n + 1) n = J.back W (i + 1) i ∧ ys.length + n ≤ 2000,
     ⟨i, x, v0, [], [], hx, wv0, rfl, s1, uS, .nil, rfl, ?_⟩, ?_⟩
   · have := (List.getElem?_eq_some_iff.mp hx).1
     simp; omega
   rintro n σ H' ⟨y, v, ys, pre, hy, wv, rfl, s2, e2, p2, ep, hlen⟩
   refine ⟨_, rfl, _, rfl, ?_⟩
   obtain ⟨y1, y2⟩ := y
   cases y2 with
   | none =>
     have ev : v = .non := wv
     subst ev
     refine iteF ⟨_, rfl, bk, _, rfl, SqL.of e2, fun l nl => k l _ _ (s2.lay nl) uS ?_⟩
     have e0 : J.back W (n + 1) n = [] := by simp [J.back, hy]
     rw [e0, List.append_nil] at ep
     rw [← ep]
     exact paired_rev (pm_fix p2 (Fix.of (Same.new nl)))
   | some qm =>
     obtain ⟨q, m⟩ := qm
     obtain ⟨t, a, pp, z, ev, ht, hz, ha, hm⟩ := wv
     subst ev
     have hq := par n y1 q m hy
     refine iteT ?_
     obtain ⟨v1, ev1, wv1⟩ := wd.get nd hz
     have fx1 : Fix H' (upd H' bk (.lst (ys ++ [.ref pp]))) := Fix.put e2 rfl
     have fx0 : Fix H (upd H' bk (.lst (ys ++ [.ref pp]))) := (Fix.of s2).trans fx1
     refine ⟨fun σ' H'' => σ' = [some (.ref d), some (.ref b), some (.ref bk), some v1] ∧ H'' = upd H' bk (.lst (ys ++ [.ref pp])), fun σ' H'' ⟨e3, e4⟩ => ⟨q, hq, z, v1, ys ++ [.ref pp], pre ++ [m], hz, wv1, e3, ?_, ?_, ?_, ?_, ?_⟩, ?_⟩
     · rw [e4]; exact s2.put nbk
     · rw [e4]; exact uS
     · rw [e4]; exact Paired.snocP (pm_fix p2 fx1) ⟨pp, rfl, hm.fix fx0⟩
     · rw [← ep, List.append_assoc]
       have e5 : J.back W (n + 1) n = m :: J.back W n q := by simp [J.back, hy]
       rw [e5, back_fuel par q n hq]
       rfl
     · simp; omega
     · refine ⟨_, rfl, .inl ⟨rfl, _, SqL.of e2⟩, _, rfl, t, _, _, _, rfl, rfl, SqT.of (s2 _ _ ht), rfl, bk, _, _, rfl, rfl, e2, (by rw [sizeLine_eq]; omega), ?_⟩
       refine ⟨_, rfl, _, rfl, t, _, _, _, rfl, rfl, SqT.of (fx0 _ _ ht rfl), rfl, d, v1, rfl, .inr ⟨kvs, kOf z.1, a, ?_, rfl, by rw [kOf_map]; exact fx0 _ _ ha rfl, ev1.symm⟩, rfl, rfl⟩
       rcases hd with h | ⟨o, h⟩
       · exact .inl (by rw [uN (nN h nbk)]; exact s2 _ _ h)
       · exact .inr ⟨o, by rw [uN (nN h nbk)]; exact s2 _ _ h⟩
end
end Jug
namespace Jug
open PySem L2
theorem valV_mem {κ : Type} [DecidableEq κ] {k : κ} {v : V} : ∀ {L : List (κ × V)}, (L.map (·.1)).Nodup → (k, v) ∈ L → valV L k = some v
 | [], _, h => nomatch h
 | p :: L, nd, h => by
   rw [List.map_cons, List.nodup_cons] at nd
   rcases List.mem_cons.mp h with e | h'
   · subst e; exact valV_pos rfl
   · rw [valV_neg (fun e => nd.1 (by rw [e]; exact List.mem_map.mpr ⟨_, h', rfl⟩))]
     exact valV_mem nd.2 h'
theorem valV_out {κ : Type} [DecidableEq κ] {k : κ} {L : List (κ × V)} (h : k ∉ L.map (·.1)) : valV L k = none := by
 cases e : valV L k with
 | none => rfl
 | some v =>
   have h1 : (L.any fun kv => decide (kv.1 = k)) = true := by rw [valV_any, e]; rfl
   obtain ⟨kv, h2, h3⟩ := List.any_eq_true.mp h1
   exact absurd (List.mem_map.mpr ⟨kv, h2, of_decide_eq_true h3⟩) h
def hs (W : List J.Way) (i : Nat) : List (List Key × V) := (List.range i).map fun j => (kOf (W.getD j ([], none)).1, V.int (J.h W j : Nat))
theorem hs_succ {W : List J.Way} {i : Nat} {x : J.Way} (h : W[i]? = some x) : hs W (i + 1) = hs W i ++ [(kOf x.1, .int (J.h W i : Nat))] := by
 unfold hs
 rw [List.range_succ, List.map_append]
 simp [List.getD_eq_getElem?_getD, h]
theorem hs_keys {W : List J.Way} {i : Nat} (hi : i ≤ W.length) : (hs W i).map (·.1) = (W.take i).map fun x => kOf x.1 := by
 unfold hs
 rw [List.map_map]
 refine List.ext_getElem? fun j => ?_
 by_cases hj : j < i
 · have hw : j < W.length := by omega
   simp [hj, hw, List.getD_eq_getElem?_getD]
 · simp [hj]; omega
theorem hs_nd {W : List J.Way} (nd : (W.map (·.1)).Nodup) {i : Nat} (hi : i ≤ W.length) : ((hs W i).map (·.1)).Nodup := by
 rw [hs_keys hi]
 have h1 : ((W.take i).map (·.1)).Nodup := by rw [List.map_take]; exact nd.sublist (List.take_sublist _ _)
 have h2 : (W.take i).map (fun x => kOf x.1) = ((W.take i).map (·.1)).map kOf := by rw [List.map_map]; rfl
 rw [h2]
 exact List.Pairwise.map _ (fun a b hab e => hab (kOf_inj e)) h1
theorem hs_get {W : List J.Way} (nd : (W.map (·.1)).Nodup) {i q : Nat} {y : J.Way} (hi : i ≤ W.length) (hq : q < i) (h : W[q]? = some y) : valV (hs W i) (kOf y.1) = some (.int (J.h W q : Nat)) := by
 refine valV_mem (hs_nd nd hi) (List.mem_map.mpr ⟨q, List.mem_range.mpr hq, ?_⟩)
 simp [List.getD_eq_getElem?_getD, h]
theorem hs_out {W : List J.Way} (nd : (W.map (·.1)).Nodup) {i : Nat} {x : J.Way} (h : W[i]? = some x) : valV (hs W i) (kOf x.1) = none := by
 have hi := (List.getElem?_eq_some_iff.mp h).1
 refine valV_out fun hk => ?_
 rw [hs_keys (by omega)] at hk
 obtain ⟨y, hy, e⟩ := List.mem_map.mp hk
 have e' := kOf_inj e
 obtain ⟨j, hj⟩ := List.mem_iff_getElem?.mp hy
 have hji : j < i := by have := (List.getElem?_eq_some_iff.mp hj).1; rw [List.length_take] at this; omega
 rw [List.getElem?_take_of_lt hji] at hj
 have h1 : (W.map (·.1))[j]? = some y.1 := by rw [List.getElem?_map, hj]; rfl
 have h2 : (W.map (·.1))[i]? = some x.1 := by rw [List.getElem?_map, h]; rfl
 have := (List.getElem?_inj (i := j) (j := i) (by simp; omega) nd).mp (by rw [h1, h2, e'])
 omega
section
variable {P : Program} {w : World} {K : PySem.W.Frag} {mg : Str → Option Value} {base : Heap} {CH CG : Addr} {Z : Cz} {G : Gz}
def HtL (H : Hp) (W : List J.Way) (ys : List V) : Prop := PairsT H ys (hs W W.length)
def sp_heights (Z : Cz) : Sp := fun vs H Q _ => ∃ (d : Addr) (o : Obj) (kvs : List (List Key × V)) (W : List J.Way), vs = [.ref d] ∧ H d = some (.frz o (.dT kvs)) ∧ WD Z H W kvs W ∧ (W.map (·.1)).Nodup ∧ (∀ (i : Nat) (x : List Int) (q : Nat) (m : J.Mv), W[i]? = some (x, some (q, m)) → q < i) ∧
 W.length ≤ 2000 ∧ ∀ (l : Addr) (H' : Hp) (ys : List V), Same H H' → H' l = some (.lst ys) → HtL H' W ys → Q (.ref l) H'
theorem ok_heights {f : Addr} {fd : FuncData} (F : Fun K "heights_in" "heights_in" s_heights_in f fd) (B : Bt mg) : FnOk P w K mg base CX0 1 f fd ["ways"] (sp_heights Z) := by
 refine F.ok sc_heights_in (fun vs H Q E h => ?_) (fun cdv A outer s H vs Q E hr h => ?_)
 · obtain ⟨d, o, kvs, W, rfl, _⟩ := h
   rfl
 · obtain ⟨d, o, kvs, W, rfl, hd, wd, nd, par, hl, k⟩ := h
   have hu : _ + 1 < cLine := Nat.lt_of_le_of_lt (Nat.add_le_add_left (by decide : 1 ≤ 64) _) hr.units
   refine ⟨_, sK (sS (i := 1) sc_heights_in.nd rfl (Or.inl rfl) pe_dnewT)
     (sK (ps_for PassesOwn.never rfl (pi_dt (pv 0)) (pg_name (i := 2) sc_heights_in.nd rfl (Or.inl rfl))
       (sK (sS (i := 3) sc_heights_in.nd rfl (Or.inl rfl) (pe_dget hu (pv 0) (pv 2) (fun _ _ => rfl)))
       (s1' (ps_dput hu (pv 1) (pv 2) (pe_ifExp (pt_cmp (pc_isN (pv 3))) eI (pe_op op_add (pe_dget hu (pv 1) (pe_ix ix_tup (pv 3) eI (fun _ _ => rfl)) (fun _ _ => rfl)) eI)) rfl))))
     (s1' (sR (pe_itemsL rfl (by rfl) B.list (pv 1))))), ?_⟩
   intro he nhe
   have s1 : Same H (upd H he (.dT [])) := Same.new nhe
   refine ⟨_, rfl, d, kvs, rfl, .inr ⟨o, s1 _ _ hd, for_dt (a := d) (kvs := kvs) (o := o) (fun i σ H' => ∃ v2 v3 : Option V, σ = [some (.ref d), some (.ref he), v2, v3] ∧ Same H H' ∧ H' he = some (.dT (hs W i)))
     ⟨none, none, rfl, s1, uS⟩ (fun i σ H' _ ⟨_, _, _, s2, _⟩ => s2 _ _ hd) ?_ ?_⟩⟩
   · rintro i k' v b σ H' hk hb ⟨v2, v3, rfl, s4, e4⟩
     obtain ⟨x, hx, ek, _⟩ := L2.Paired.get wd hk
     have ek' : k' = kOf x.1 := ek
     subst ek'
     obtain ⟨v0, ev0, wv0⟩ := wd.get nd hx
     have hi := (List.getElem?_eq_some_iff.mp hx).1
     have lh : (hs W i).length = i := by simp [hs]
     refine ⟨_, rfl, _, rfl, d, v0, rfl, .inr ⟨kvs, kOf x.1, b, .inr ⟨o, s4 _ _ hd⟩, rfl, hb, ev0.symm⟩, ?_⟩
     refine ⟨_, rfl, _, rfl, ?_⟩
     have fin : ∀ n : Int, n = ((J.h W i : Nat) : Int) → ∃ v2 v3 : Option V, [some (.ref d), some (.ref he), some (.ref b), some v0] = [some (V.ref d), some (V.ref he), v2, v3] ∧ Same H (upd H' he (.dT (putK (hs W i) (kOf x.1) (.int n)))) ∧ (upd H' he (.dT (putK (hs W i) (kOf x.1) (.int n)))) he = some (.dT (hs W (i + 1))) := fun n en => by
       refine ⟨_, _, rfl, s4.put nhe, ?_⟩
       rw [uS, putK_new _ (hs_out nd hx), hs_succ hx, en]
     obtain ⟨x1, x2⟩ := x
     cases x2 with
     | none =>
       have ev : v0 = .non := wv0
       subst ev
       refine iteT ⟨_, rfl, _, rfl, he, _, rfl, DPut.t (k := kOf x1) e4 hb (by rw [sizeLine_eq]; omega), fin 0 ?_⟩
       rw [J.h_none hx]; rfl
     | some qm =>
       obtain ⟨q, m⟩ := qm
       obtain ⟨t, a, pp, z, ev, ht, hz, ha, hm⟩ := wv0
       subst ev
       have hq := par i x1 q m hx
       refine iteF ⟨_, rfl, _, rfl, t, _, _, _, rfl, rfl, SqT.of (s4 _ _ ht), rfl, he, _, rfl, .inr ⟨hs W i, kOf z.1, a, .inl e4, rfl, by rw [kOf_map]; exact s4 _ _ ha, (hs_get nd (by omega) hq hz).symm⟩, _, _, rfl, rfl, ?_⟩
       refine ⟨_, rfl, _, rfl, he, _, rfl, DPut.t (k := kOf x1) e4 hb (by rw [sizeLine_eq]; omega), fin _ ?_⟩
       rw [J.h_some hx hq]
       omega
   · rintro σ H' ⟨v2, v3, rfl, s4, e4⟩
     have lw : kvs.length = W.length := wd.length
     rw [lw] at e4
     exact ⟨_, rfl, he, _, rfl, .inl e4, fun l H2 ys s5 nl e5 p5 => k l H2 ys (s4.trans s5) e5 p5⟩
end
end Jug
namespace Jug
open PySem L2
def rTupOf (K : PySem.W.Frag) : List V → Hp → VK → Prop := fun xs H Q => ∃ p ys, xs = [.ref p] ∧ ((SqL K H p ys ∧ ∀ l, H l = none → Q (.ref l) (upd H l (.tup ys))) ∨ (SqT K H p ys ∧ Q (.ref p) H))
theorem call_tuple_ofK {X : Cx} (K : PySem.W.Frag) (hK : X.K = K := by rfl) : CallR X (.type "tuple") (rTupOf K) := by subst hK; exact cT
def baF (r : Addr) : List (Str × V) := putF "among" (.ref r) []
def anF (a b : Addr) : List (Str × V) := putF "heights" (.ref b) (putF "pours" (.ref a) [])
structure CBa (K : PySem.W.Frag) (C : Addr) : Prop where
 cl : Cls K C
 among : PySem.W.findIn K (.ref C) "among" = some none
structure CPd (K : PySem.W.Frag) (C : Addr) : Prop where
 cl : Cls K C
 pours : PySem.W.findIn K (.ref C) "pours" = some none
 heights : PySem.W.findIn K (.ref C) "heights" = some none
section
variable {P : Program} {w : World} {K : PySem.W.Frag} {mg : Str → Option Value} {base : Heap} {CH CG CP CB : Addr} {Z : Cz} {G : Gz}
def sp_Barred_init (CB : Addr) : Sp := fun vs H Q _ => ∃ (p dx l : Addr) (xs : List V), vs = [.ref p, .ref l] ∧ H p = some (.ins CB dx []) ∧ H l = some (.lst xs) ∧
 ∀ (r : Addr) (H' : Hp), H r = none → (∀ c o, H c = some o → c ≠ p → H' c = some o) → H' p = some (.ins CB dx (baF r)) → H' r = some (.lst xs) → Q .non H'
theorem ok_Barred_init {f : Addr} {fd : FuncData} (F : Fun K "__init__" "Barred.__init__" s_Barred_init f fd) (B : Bt mg) (C : CBa K CB) : FnOk P w K mg base CX0 1 f fd ["self", "among"] (sp_Barred_init CB) := by
 refine F.ok sc_Barred_init (fun vs H Q E h => ?_) (fun cdv A outer s H vs Q E hr h => ?_)
 · obtain ⟨p, dx, l, xs, rfl, _⟩ := h
   rfl
 · obtain ⟨p, dx, l, xs, rfl, hp, hl, k⟩ := h
   refine ⟨_, s1' (ps_fld (pv 0) (eT cL (by rfl) B.list bt_list (pK (pv 1) pN)) rfl), ?_⟩
   refine ⟨_, rfl, l, xs, rfl, .inl (SqL.of hl), fun r nr => ?_⟩
   have s1 : Same H (upd H r (.lst xs)) := Same.new nr
   have rp : r ≠ p := (nN hp nr).symm
   refine ⟨_, rfl, p, CB, dx, [], rfl, s1 _ _ hp, C.cl, C.among, (by show 0 < 1000; decide), ?_⟩
   exact k r _ nr (fun c o e hc => by rw [uN hc]; exact s1 _ _ e) uS (by rw [uN rp, uS])
def sp_Poured_init (CP : Addr) : Sp := fun vs H Q _ => ∃ (p dx l m : Addr) (xs ys : List V), vs = [.ref p, .ref l, .ref m] ∧ H p = some (.ins CP dx []) ∧ H l = some (.lst xs) ∧ H m = some (.lst ys) ∧ ys.length ≤ 2000 ∧ (∀ y ∈ ys, ∃ t zs, y = .ref t ∧ H t = some (.tup zs)) ∧
 ∀ (r q : Addr) (H' : Hp), H r = none → H q = none → r ≠ q → (∀ c o, H c = some o → c ≠ p → H' c = some o) → H' p = some (.ins CP dx (anF r q)) → H' r = some (.lst xs) → H' q = some (.lst ys) → Q .non H'
theorem ok_Poured_init {f : Addr} {fd : FuncData} (F : Fun K "__init__" "Poured.__init__" s_Poured_init f fd) (B : Bt mg) (C : CPd K CP) : FnOk P w K mg base CX0 1 f fd ["self", "pours", "heights"] (sp_Poured_init CP) := by
 refine F.ok sc_Poured_init (fun vs H Q E h => ?_) (fun cdv A outer s H vs Q E hr h => ?_)
 · obtain ⟨p, dx, l, m, xs, ys, rfl, _⟩ := h
   rfl
 · obtain ⟨p, dx, l, m, xs, ys, rfl, hp, hl, hm, hlen, hty, k⟩ := h
   refine ⟨_, sK (ps_fld (pv 0) (eT cL (by rfl) B.list bt_list (pK (pv 1) pN)) rfl)
     (s1' (ps_fld (pv 0) (pe_lc sc_Poured_init [] (pi_list (pv 2)) (fun _ _ _ _ _ _ => ⟨pif_nil, eT (call_tuple_ofK K) (by rfl) B.tuple bt_tuple (pK (pv 0) pN)⟩)) rfl)), ?_⟩
   refine ⟨_, rfl, l, xs, rfl, .inl (SqL.of hl), fun r nr => ?_⟩
   have s1 : Same H (upd H r (.lst xs)) := Same.new nr
   have rp : r ≠ p := (nN hp nr).symm
   refine ⟨_, rfl, p, CP, dx, [], rfl, s1 _ _ hp, C.cl, C.pours, (by show 0 < 1000; decide), ?_⟩
   have mp : m ≠ p := ne_of hm hp (by intro h; cases h)
   have hm2 : (upd (upd H r (.lst xs)) p (.ins CP dx (putF "pours" (.ref r) []))) m = some (.lst ys) := by rw [uN mp]; exact s1 _ _ hm
   refine ⟨_, rfl, m, rfl, ⟨_, SqL.of hm2⟩, lc_list (xs := ys) (fun i zs H' => H' = upd (upd H r (.lst xs)) p (.ins CP dx (putF "pours" (.ref r) [])) ∧ zs = ys.take i) ⟨rfl, rfl⟩ (by rw [sizeLine_eq]; omega) (fun i zs H' ⟨_, e⟩ => by rw [e]; simp; omega)
     (fun i zs H' _ ⟨e, _⟩ => by rw [e]; exact SqL.of hm2) ?_ ?_⟩
   · rintro i x zs H2 hx ⟨rfl, rfl⟩
     obtain ⟨t, us, rfl, ht⟩ := hty x (List.mem_of_getElem? hx)
     have tp : t ≠ p := ne_of ht hp (by intro h; cases h)
     refine tYes_of ⟨_, rfl, t, us, rfl, .inr ⟨SqT.of (by rw [uN tp]; exact s1 _ _ ht), rfl, ?_⟩⟩
     rw [List.take_add_one, hx]
     rfl
   · rintro zs H2 ⟨rfl, rfl⟩ D nD
     have Dp : D ≠ p := fun e => by subst e; rw [uS] at nD; cases nD
     have Dr : D ≠ r := fun e => by subst e; rw [uN rp, uS] at nD; cases nD
     rw [List.take_length]
     refine ⟨_, rfl, p, CP, dx, _, rfl, (by rw [uN Dp.symm, uS]), C.cl, C.heights, (by show 1 < 1000; decide), ?_⟩
     have nD0 : H D = none := by rw [uN Dp, uN Dr] at nD; exact nD
     refine k r D _ nr nD0 Dr.symm (fun c o e hc => ?_) uS ?_ ?_
     · have cD : c ≠ D := fun z => by
         subst z
         rw [uN hc] at nD
         rw [s1 _ _ e] at nD; cases nD
       rw [uN hc, uN cD, uN hc]
       exact s1 _ _ e
     · rw [uN rp, uN Dr.symm, uN rp, uS]
     · rw [uN Dp, uS]
end
theorem none_back {H H' : Hp} {a : Addr} (s : Same H H') (n : H' a = none) : H a = none := by
 cases e : H a with
 | none => rfl
 | some u => have := s _ _ e; rw [n] at this; cases this
end Jug
namespace Jug
open PySem L2
def PouredAt (CP : Addr) (Z : Cz) (H : Hp) (r : Addr) (W : List J.Way) (i : Nat) : Prop := ∃ dx a b xs ys, H r = some (.ins CP dx (anF a b)) ∧ H a = some (.lst xs) ∧ Paired (isM Z H) xs (J.back W (i + 1) i).reverse ∧ H b = some (.lst ys) ∧ HtL H W ys
def BarredAt (CB : Addr) (H : Hp) (r : Addr) (W : List J.Way) : Prop := ∃ dx a xs, H r = some (.ins CB dx (baF a)) ∧ H a = some (.lst xs) ∧ Paired (isTI H) xs (W.map (·.1))
def PouredN (CP : Addr) (Z : Cz) (H0 H : Hp) (r : Addr) (W : List J.Way) (i : Nat) : Prop := ∃ dx a b xs ys, H r = some (.ins CP dx (anF a b)) ∧ H a = some (.lst xs) ∧ Paired (isM Z H) xs (J.back W (i + 1) i).reverse ∧ H b = some (.lst ys) ∧ HtL H W ys ∧ H0 a = none ∧ H0 b = none ∧ a ≠ b
def BarredN (CB : Addr) (H0 H : Hp) (r : Addr) (W : List J.Way) : Prop := ∃ dx a xs, H r = some (.ins CB dx (baF a)) ∧ H a = some (.lst xs) ∧ Paired (isTI H) xs (W.map (·.1)) ∧ H0 a = none
theorem HtL.fix {H H' : Hp} {W : List J.Way} {ys : List V} (h : HtL H W ys) (s : Fix H H') : HtL H' W ys := Paired.mapP h fun _ _ ⟨t, b, e, h1, h2⟩ => ⟨t, b, e, s _ _ h1 rfl, s _ _ h2 rfl⟩
theorem keysT_ways {Z : Cz} {H : Hp} {V' : List J.Way} : ∀ {ys : List V} {kvs : List (List Key × V)} {W : List J.Way}, KeysT H ys kvs → WD Z H V' kvs W → Paired (isTI H) ys (W.map (·.1))
 | _, _, _, .nil, .nil => .nil
 | _, _, _, .cons ⟨b, e, hb⟩ t, .cons h t' => .cons ⟨b, e, by rw [hb, h.1, kOf_map]⟩ (keysT_ways t t')
theorem Fix.of_sameB {d : Addr} {H H' : Hp} {kvs : List (List Key × V)} (hd : H d = some (.dT kvs)) (s : SameB d H H') : Fix H H' := fun c _ e f => s c _ e (ne_of_fx e hd f)
section
variable {P : Program} {w : World} {K : PySem.W.Frag} {mg : Str → Option Value} {base : Heap} {CH CG CP CB : Addr} {Z : Cz} {G : Gz}
def sp_fewest (Z : Cz) (G : Gz) (CH CP CB : Addr) : Sp := fun vs H Q _ => ∃ (h a p : Addr) (sz : List Int) (tap : Bool) (st : List Int) (g : Go), vs = [.ref h, .ref a, .ref p] ∧ House CH H h sz tap ∧ Hz sz ∧ H a = some (.tup (st.map V.int)) ∧ J.IsSt sz st ∧ GoAt G H p g ∧ g.ok sz ∧
 (∀ (i : Nat) (x : J.Way) (r : Addr) (H' : Hp), (J.ways sz (J.moves sz.length tap) st)[i]? = some x → g.met x.1 = true → (∀ (j : Nat) (y : J.Way), j < i → (J.ways sz (J.moves sz.length tap) st)[j]? = some y → g.met y.1 = false) → Same H H' → H r = none →
   PouredN CP Z H H' r (J.ways sz (J.moves sz.length tap) st) i → Q (.ref r) H') ∧
 ((∀ x ∈ J.ways sz (J.moves sz.length tap) st, g.met x.1 = false) → ∀ (r : Addr) (H' : Hp), Same H H' → H r = none → BarredN CB H H' r (J.ways sz (J.moves sz.length tap) st) → Q (.ref r) H')
theorem ok_fewest {f : Addr} {fd : FuncData} (F : Fun K "fewest" "fewest" s_fewest f fd) (B : Bt mg) (HI : FnB P w K mg base 2 "held_in" ["house", "state"] (sp_held_in CH)) (CK : FnB P w K mg base 1 "check_goal" ["goal"] (sp_check_goal G))
   (WY : FnB P w K mg base 8 "ways_from" ["house", "state"] (sp_ways Z CH)) (NE : FnB P w K mg base 6 "nearest" ["house", "ways", "goal"] (sp_nearest Z G CH)) (MT : FnB P w K mg base 1 "moves_to" ["ways", "state"] (sp_moves_to Z))
   (HE : FnB P w K mg base 1 "heights_in" ["ways"] (sp_heights Z)) (MP : MkB P w K mg base 1 "Poured" CP ["self", "pours", "heights"] (sp_Poured_init CP)) (MB : MkB P w K mg base 1 "Barred" CB ["self", "among"] (sp_Barred_init CB)) :
   FnOk P w K mg base CX0 9 f fd ["house", "state", "goal"] (sp_fewest Z G CH CP CB) := by
 refine F.ok sc_fewest (fun vs H Q E h => ?_) (fun cdv A outer s H vs Q E hr h => ?_)
 · obtain ⟨h, a, p, sz, tap, st, g, rfl, _⟩ := h
   rfl
 · obtain ⟨h, a, p, sz, tap, st, g, rfl, hh, hz, ha, hst, hg, hok, kP, kB⟩ := h
   refine ⟨_, sK (ps_expr (eF HI (hr.mono (by decide)) (pK (pv 0) (pK (pv 1) pN))))
     (sK (ps_expr (eF CK (hr.mono (by decide)) (pK (pv 2) pN)))
     (sK (sS (i := 3) sc_fewest.nd rfl (Or.inl rfl) (eF WY hr (pK (pv 0) (pK (pv 1) pN))))
     (sK (sS (i := 4) sc_fewest.nd rfl (Or.inl rfl) (eF NE (hr.mono (by decide)) (pK (pv 0) (pK (pv 3) (pK (pv 2) pN)))))
     (sK (ps_if (pt_cmp (pc_isN (pv 4))) (s1' (sR (pe_mk MB (hr.mono (by decide)) (pK (eT (call_list_dt rfl) (by rfl) B.list bt_list (pK (pv 3) pN)) pN)))) sN)
     (s1' (sR (pe_mk MP (hr.mono (by decide)) (pK (eF MT (hr.mono (by decide)) (pK (pv 3) (pK (pv 4) pN))) (pK (eF HE (hr.mono (by decide)) (pK (pv 3) pN)) pN))))))))), ?_⟩
   have hgd := J.good_moves (tap := tap) hz.nn
   have wi := J.ways_inv hgd hst
   have wl : (J.ways sz (J.moves sz.length tap) st).length ≤ 2000 := by
     have := J.run_le hgd hst (J.states sz).length
     have := hz.states_le
     unfold J.ways
     omega
   have par : ∀ (i : Nat) (x : List Int) (q : Nat) (m : J.Mv), (J.ways sz (J.moves sz.length tap) st)[i]? = some (x, some (q, m)) → q < i := fun i x q m e => (wi.par i x q m e).2.1
   refine ⟨_, rfl, _, rfl, h, sz, tap, a, st, rfl, hh, ha, hst, fun y H1 s1 ny ey => ?_⟩
   refine ⟨_, rfl, p, g, rfl, hg.mono s1, fun H2 s2 => ?_⟩
   have s12 := s1.trans s2
   refine ⟨_, rfl, _, rfl, h, a, sz, tap, st, rfl, hh.mono s12, hz, s12 _ _ ha, hst, fun d H3 kvs s3 nd e3 wd => ?_⟩
   have s13 := s12.trans s3
   have nd0 : H d = none := by
     cases e : H d with
     | none => rfl
     | some o => have := s12 _ _ e; rw [nd] at this; cases this
   refine ⟨_, rfl, _, rfl, _, rfl, h, d, p, sz, tap, g, kvs, _, rfl, hh.mono s13, hg.mono s13, hok, e3, wd, wi.sts, fun H4 o s4 e4 => ?_⟩
   have f4 : Fix H3 H4 := Fix.of_sameB e3 s4
   have s14 : Same H H4 := fun c u e => s4 c u (s13 _ _ e) (nN e nd0)
   have wd4 := wd.fix f4
   refine ⟨fun i x b hx hm no hb => ?_, fun no => ?_⟩
   · refine ⟨_, rfl, _, rfl, iteF ?_⟩
     refine ⟨_, rfl, _, rfl, d, b, kvs, _, i, x, rfl, .inr ⟨o, e4⟩, wd4, wi.nd, par, wl, hx, hb, fun l H5 xs s5 e5 p5 => ?_⟩
     refine ⟨_, rfl, d, o, kvs, _, rfl, s5 _ _ e4, wd4.fix (Fix.of s5), wi.nd, par, wl, fun m H6 ys s6 e6 p6 => fun r dx nr ndx nex => ?_⟩
     have ls : Same H6 (upd (upd H6 dx (.own r)) r (.ins CP dx [])) := fun c u e => by rw [uN (nN e nr), uN (nN e ndx)]; exact e
     have ly : ys.length ≤ 2000 := by have := Paired.length p6; simp [hs] at this; omega
     refine ⟨r, dx, l, m, xs, ys, rfl, uS, ls _ _ (s6 _ _ e5), ls _ _ e6, ly, fun y hy => ?_, fun r1 q1 H7 nr1 nq1 rq kp hr7 e7 e8 => ⟨rfl, ?_⟩⟩
     · obtain ⟨j, hj⟩ := List.mem_iff_getElem?.mp hy
       obtain ⟨kv, _, t, b', e, h1, h2⟩ := L2.Paired.get p6 hj
       exact ⟨t, _, e, ls _ _ h1⟩
     · have s67 : Same H6 H7 := fun c u e => kp c u (ls _ _ e) (nN e nr)
       have nr0 : H r = none := by
         cases e : H r with
         | none => rfl
         | some u => have := s6 _ _ (s5 _ _ (s14 _ _ e)); rw [nr] at this; cases this
       exact kP i x r H7 hx hm no (((s14.trans s5).trans s6).trans s67) nr0 ⟨dx, r1, q1, xs, ys, hr7, e7, pm_fix p5 ((Fix.of s6).trans (Fix.of s67)), e8, p6.fix (Fix.of s67), none_back (((s14.trans s5).trans s6).trans ls) nr1, none_back (((s14.trans s5).trans s6).trans ls) nq1, rq⟩
   · refine ⟨_, rfl, _, rfl, iteT ?_⟩
     refine ⟨_, rfl, d, kvs, rfl, .inr ⟨o, e4⟩, fun l ys nl ky => fun r dx nr ndx nex => ?_⟩
     have s45 : Same H4 (upd H4 l (.lst ys)) := Same.new nl
     have ls : Same (upd H4 l (.lst ys)) (upd (upd (upd H4 l (.lst ys)) dx (.own r)) r (.ins CB dx [])) := fun c u e => by rw [uN (nN e nr), uN (nN e ndx)]; exact e
     refine ⟨r, dx, l, ys, rfl, uS, ls _ _ uS, fun r1 H7 nr1 kp hr7 e7 => ⟨rfl, ?_⟩⟩
     have s57 : Same (upd H4 l (.lst ys)) H7 := fun c u e => kp c u (ls _ _ e) (nN e nr)
     have nr0 : H r = none := by
       cases e : H r with
       | none => rfl
       | some u => have := s45 _ _ (s14 _ _ e); rw [nr] at this; cases this
     exact kB no r H7 ((s14.trans s45).trans s57) nr0 ⟨dx, r1, ys, hr7, e7, pt_fix (keysT_ways ky wd4) ((Fix.of s45).trans (Fix.of s57)), none_back ((s14.trans s45).trans ls) nr1⟩
end
end Jug
namespace Jug
open PySem L2
def numT (a : Nat) : Str := Str.ofString (toString (a : Int))
def mvText : J.Mv → Str
 | .pour a b => Txt.join " " ["pour", numT a, numT b]
 | .fill a => Txt.join " " ["fill", numT a]
 | .emp a => Txt.join " " ["empty", numT a]
def Sm : J.Mv → Prop
 | .pour a b => a < 4 ∧ b < 4
 | .fill a => a < 4
 | .emp a => a < 4
theorem sm_of {m : J.Mv} {n : Nat} {tap : Bool} (h : m.ok n tap) (hn : n ≤ 4) : Sm m := by
 cases m with
 | pour a b => exact ⟨Nat.lt_of_lt_of_le h.1 hn, Nat.lt_of_lt_of_le h.2.1 hn⟩
 | fill a => exact Nat.lt_of_lt_of_le h.1 hn
 | emp a => exact Nat.lt_of_lt_of_le h.1 hn
theorem numT_len : ∀ a : Nat, a < 4 → (numT a).length = 1 := by decide +kernel
theorem log_small {a : Nat} (h : a < 4) : ((a : Int)).natAbs.log2 < 1920 := by
 have e : (a : Int).natAbs = a := Int.natAbs_natCast a
 rw [e]
 exact Nat.lt_of_le_of_lt (Nat.log2_le_self a) (by omega)
theorem mvText_len {m : J.Mv} (h : Sm m) : (mvText m).length ≤ 20 := by
 have h1 : ∀ a : Nat, a < 4 → ∀ b : Nat, b < 4 → (mvText (.pour a b)).length ≤ 20 := by decide +kernel
 have h2 : ∀ a : Nat, a < 4 → (mvText (.fill a)).length ≤ 20 := by decide +kernel
 have h3 : ∀ a : Nat, a < 4 → (mvText (.emp a)).length ≤ 20 := by decide +kernel
 cases m with
 | pour a b => exact h1 a h.1 b h.2
 | fill a => exact h2 a h
 | emp a => exact h3 a h
section
variable {P : Program} {w : World} {K : PySem.W.Frag} {mg : Str → Option Value} {base : Heap} {CH : Addr} {Z : Cz}
def sp_move_text (Z : Cz) : Sp := fun vs H Q _ => ∃ p m, vs = [.ref p] ∧ MvAt Z H p m ∧ Sm m ∧ ∀ H', Same H H' → Q (.str (mvText m)) H'
theorem ok_move_text {f : Addr} {fd : FuncData} (F : Fun K "move_text" "move_text" s_move_text f fd) (B : Bt mg) (M : MvC K mg Z) : FnOk P w K mg base CX0 1 f fd ["move"] (sp_move_text Z) := by
 refine F.ok sc_move_text (fun vs H Q E h => ?_) (fun cdv A outer s H vs Q E hr h => ?_)
 · obtain ⟨p, m, rfl, _⟩ := h
   rfl
 · obtain ⟨p, m, rfl, hmv, hsm, k⟩ := h
   refine ⟨_, sK (ps_if (pt_val (eZ call_isinst (by rfl) B.isinstance bI (pK (pv 0) (pK (pe_glob (v := .ref Z.P) (by rfl) M.gP rfl) pN))))
       (s1' (sR (pe_join pe_str (pe_lst (pK pe_str (pK (eT call_str_int (by rfl) B.str bt_str (pK (pe_fld (pv 0) rfl) pN)) (pK (eT call_str_int (by rfl) B.str bt_str (pK (pe_fld (pv 0) rfl) pN)) pN))))))) sN)
     (sK (ps_if (pt_val (eZ call_isinst (by rfl) B.isinstance bI (pK (pv 0) (pK (pe_glob (v := .ref Z.F) (by rfl) M.gF rfl) pN))))
       (s1' (sR (pe_join pe_str (pe_lst (pK pe_str (pK (eT call_str_int (by rfl) B.str bt_str (pK (pe_fld (pv 0) rfl) pN)) pN)))))) sN)
     (s1' (sR (pe_join pe_str (pe_lst (pK pe_str (pK (eT call_str_int (by rfl) B.str bt_str (pK (pe_fld (pv 0) rfl) pN)) pN))))))), ?_⟩
   have ty := M.ty hmv
   obtain ⟨dx, hp⟩ := id hmv
   cases m with
   | pour a b =>
     have hp : H p = some (.ins Z.P dx (pF a b)) := hp
     have l1 := numT_len a hsm.1
     have l2 := numT_len b hsm.2
     refine ⟨_, rfl, _, _, _, _, _, rfl, .ref _, ty, kit_self _, _, rfl, iteT ?_⟩
     refine ⟨rfl, _, rfl, p, Z.P, dx, _, _, rfl, hp, M.po.cl, M.po.one, pF_one _ _, _, rfl, log_small hsm.1, _, rfl, p, Z.P, dx, _, _, rfl, hp, M.po.cl, M.po.other, pF_other _ _, _, rfl, log_small hsm.2, ?_⟩
     refine ⟨(by show 3 ≤ sizeLine; decide), fun l nl => ⟨" ", l, ["pour", numT a, numT b], rfl, rfl, SqL.of uS, ?_, k _ (Same.new nl)⟩⟩
     have l0 : ("pour" : Str).length = 4 := by decide +kernel
     have l3 : (" " : Str).length = 1 := by decide +kernel
     simp only [List.map_cons, List.map_nil, List.sum_cons, List.sum_nil, List.length_cons, List.length_nil, l0, l1, l2, l3]
     omega
   | fill a =>
     have hp : H p = some (.ins Z.F dx (jF a)) := hp
     have l1 := numT_len a hsm
     refine ⟨_, rfl, _, _, _, _, _, rfl, .ref _, ty, M.kFP, _, rfl, iteF ?_⟩
     refine ⟨_, rfl, _, _, _, _, _, rfl, .ref _, ty, kit_self _, _, rfl, iteT ?_⟩
     refine ⟨rfl, _, rfl, p, Z.F, dx, _, _, rfl, hp, M.fi.cl, M.fi.jug, jF_jug _, _, rfl, log_small hsm, ?_⟩
     refine ⟨(by show 2 ≤ sizeLine; decide), fun l nl => ⟨" ", l, ["fill", numT a], rfl, rfl, SqL.of uS, ?_, k _ (Same.new nl)⟩⟩
     have l0 : ("fill" : Str).length = 4 := by decide +kernel
     have l3 : (" " : Str).length = 1 := by decide +kernel
     simp only [List.map_cons, List.map_nil, List.sum_cons, List.sum_nil, List.length_cons, List.length_nil, l0, l1, l3]
     omega
   | emp a =>
     have hp : H p = some (.ins Z.E dx (jF a)) := hp
     have l1 := numT_len a hsm
     refine ⟨_, rfl, _, _, _, _, _, rfl, .ref _, ty, M.kEP, _, rfl, iteF ?_⟩
     refine ⟨_, rfl, _, _, _, _, _, rfl, .ref _, ty, M.kEF, _, rfl, iteF ?_⟩
     refine ⟨rfl, _, rfl, p, Z.E, dx, _, _, rfl, hp, M.em.cl, M.em.jug, jF_jug _, _, rfl, log_small hsm, ?_⟩
     refine ⟨(by show 2 ≤ sizeLine; decide), fun l nl => ⟨" ", l, ["empty", numT a], rfl, rfl, SqL.of uS, ?_, k _ (Same.new nl)⟩⟩
     have l0 : ("empty" : Str).length = 5 := by decide +kernel
     have l3 : (" " : Str).length = 1 := by decide +kernel
     simp only [List.map_cons, List.map_nil, List.sum_cons, List.sum_nil, List.length_cons, List.length_nil, l0, l1, l3]
     omega
def sp_routine_text (Z : Cz) : Sp := fun vs H Q _ => ∃ l xs ms, vs = [.ref l] ∧ H l = some (.lst xs) ∧ Paired (isM Z H) xs ms ∧ (∀ m ∈ ms, Sm m) ∧ ms.length ≤ 1000 ∧ ∀ H', Same H H' → Q (.str (Txt.join "; " (ms.map mvText))) H'
theorem sum_le {α : Type} (f : α → Nat) (n : Nat) : ∀ l : List α, (∀ x ∈ l, f x ≤ n) → (l.map f).sum ≤ l.length * n
 | [], _ => by simp
 | x :: l, h => by
   have h1 := h x List.mem_cons_self
   have h2 := sum_le f n l fun y hy => h y (List.mem_cons_of_mem _ hy)
   simp only [List.map_cons, List.sum_cons, List.length_cons, Nat.succ_mul]
   omega
theorem ok_routine_text {f : Addr} {fd : FuncData} (F : Fun K "routine_text" "routine_text" s_routine_text f fd) (I : FnB P w K mg base 1 "moves_in" ["moves"] (sp_moves_in Z)) (T : FnB P w K mg base 1 "move_text" ["move"] (sp_move_text Z)) :
   FnOk P w K mg base CX0 2 f fd ["moves"] (sp_routine_text Z) := by
 refine F.ok sc_routine_text (fun vs H Q E h => ?_) (fun cdv A outer s H vs Q E hr h => ?_)
 · obtain ⟨l, xs, ms, rfl, _⟩ := h
   rfl
 · obtain ⟨l, xs, ms, rfl, hl, hp, hsm, hlen, k⟩ := h
   refine ⟨_, s1' (sR (pe_join pe_str (pe_lc sc_routine_text [] (pi_list (eF I hr (pK (pv 0) pN))) (fun _ _ _ _ _ _ => ⟨pif_nil, eF T hr (pK (pv 0) pN)⟩)))), ?_⟩
   have hxl : xs.length = ms.length := hp.length
   refine ⟨rfl, _, rfl, l, xs, ms, rfl, hl, hp, fun r H1 s1 nr e1 => ⟨r, rfl, ⟨_, SqL.of e1⟩, lc_list (xs := xs) (fun i ys H' => Same H1 H' ∧ ys = ((ms.take i).map mvText).map V.str) ⟨Same.refl _, rfl⟩ (small1000 (by omega)) (fun i ys H' ⟨_, e⟩ => by rw [e]; simp; omega)
     (fun i ys H' _ ⟨s2, _⟩ => SqL.of (s2 _ _ e1)) ?_ ?_⟩⟩
   · rintro i x ys H2 hx ⟨s2, rfl⟩
     obtain ⟨m, hm, p, rfl, hmv⟩ := L2.Paired.get hp hx
     refine tYes_of ⟨_, rfl, p, m, rfl, (hmv.mono s1).mono s2, hsm m (List.mem_of_getElem? hm), fun H3 s3 => ⟨s2.trans s3, ?_⟩⟩
     rw [List.take_add_one, hm]
     simp
   · rintro ys H2 ⟨s2, rfl⟩ D nD
     rw [hxl, List.take_length] at *
     refine ⟨"; ", D, ms.map mvText, rfl, rfl, SqL.of uS, ?_, k _ ((s1.trans s2).lay nD)⟩
     have h1 := sum_le (fun m => (mvText m).length) 20 ms fun m hm => mvText_len (hsm m hm)
     have l3 : ("; " : Str).length = 2 := by decide +kernel
     rw [List.map_map, List.length_map, l3]
     have e : ((fun x => x.length) ∘ mvText) = fun m => (mvText m).length := rfl
     rw [e]
     omega
end
end Jug
namespace Jug
open PySem L2
theorem bt_range : bootBuiltins "range" = some (.type "range") := by decide +kernel
def prm : List Int := [1000003, 1000033, 1000037, 1000039, 1000081, 1000099, 1000117, 1000121, 1000133, 1000151, 1000159, 1000171, 1000183, 1000187, 1000193, 1000199]
theorem prm_pos : ∀ j : Nat, j < 16 → 0 < J.at0 prm j := by decide
def mos : List Int := [60, 11, 4, 2]
structure LSz (sz : List Int) : Prop where
 l1 : 1 ≤ sz.length
 l4 : sz.length ≤ 4
 bd : ∀ s ∈ sz, 1 ≤ s ∧ s ≤ J.at0 mos (sz.length - 1)
theorem LSz.hz {sz : List Int} (h : LSz sz) : Hz sz := by
 have h1 := h.l1
 have h4 := h.l4
 have hb := h.bd
 refine ⟨h1, h4, fun s hs => ?_, ?_⟩
 · have := hb s hs
   have h2 : ∀ j : Nat, j < 4 → J.at0 mos j ≤ 60 := by decide
   have := h2 (sz.length - 1) (by omega)
   omega
 · match sz, h1, h4, hb with
   | [a], _, _, hb =>
     have := hb a (by simp)
     have e : J.at0 mos ([a].length - 1) = 60 := rfl
     rw [e] at this
     simp only [J.prod1, List.foldl_cons, List.foldl_nil]
     omega
   | [a, b], _, _, hb =>
     have h1 := hb a (by simp)
     have h2 := hb b (by simp)
     have e : J.at0 mos ([a, b].length - 1) = 11 := rfl
     rw [e] at h1 h2
     simp only [J.prod1, List.foldl_cons, List.foldl_nil]
     have : (a + 1) * (b + 1) ≤ 12 * 12 := Int.mul_le_mul (by omega) (by omega) (by omega) (by omega)
     rw [Int.one_mul]; omega
   | [a, b, c], _, _, hb =>
     have h1 := hb a (by simp)
     have h2 := hb b (by simp)
     have h3 := hb c (by simp)
     have e : J.at0 mos ([a, b, c].length - 1) = 4 := rfl
     rw [e] at h1 h2 h3
     simp only [J.prod1, List.foldl_cons, List.foldl_nil]
     have m1 : (a + 1) * (b + 1) ≤ 5 * 5 := Int.mul_le_mul (by omega) (by omega) (by omega) (by omega)
     have m2 : (a + 1) * (b + 1) * (c + 1) ≤ 25 * 5 := Int.mul_le_mul m1 (by omega) (by omega) (by omega)
     rw [Int.one_mul]; omega
   | [a, b, c, d], _, _, hb =>
     have h1 := hb a (by simp)
     have h2 := hb b (by simp)
     have h3 := hb c (by simp)
     have h4 := hb d (by simp)
     have e : J.at0 mos ([a, b, c, d].length - 1) = 2 := rfl
     rw [e] at h1 h2 h3 h4
     simp only [J.prod1, List.foldl_cons, List.foldl_nil]
     have m1 : (a + 1) * (b + 1) ≤ 3 * 3 := Int.mul_le_mul (by omega) (by omega) (by omega) (by omega)
     have m2 : (a + 1) * (b + 1) * (c + 1) ≤ 9 * 3 := Int.mul_le_mul m1 (by omega) (by omega) (by omega)
     have m3 : (a + 1) * (b + 1) * (c + 1) * (d + 1) ≤ 27 * 3 := Int.mul_le_mul m2 (by omega) (by omega) (by omega)
     rw [Int.one_mul]; omega
def mvT : J.Mv → List Int
 | .pour a b => [0, a, b]
 | .fill a => [1, a, 0]
 | .emp a => [2, a, 0]
section
variable {P : Program} {w : World} {K : PySem.W.Frag} {mg : Str → Option Value} {base : Heap} {CH : Addr} {Z : Cz}
def sp_cell_at (K : PySem.W.Frag) : Sp := fun vs H Q _ => ∃ (a : Addr) (ns : List Int) (k : Int), vs = [.ref a, .int k] ∧ SqL K H a (ns.map V.int) ∧ 0 ≤ k ∧ ∀ c : Int, Q (.int c) H
theorem ok_cell_at {f : Addr} {fd : FuncData} (F : Fun K "_law_cell_at" "_law_cell_at" s__law_cell_at f fd) (B : Bt mg) : FnOk P w K mg base CX0 1 f fd ["_law_script", "_law_k"] (sp_cell_at K) := by
 refine F.ok sc__law_cell_at (fun vs H Q E h => ?_) (fun cdv A outer s H vs Q E hr h => ?_)
 · obtain ⟨a, ns, k, rfl, _⟩ := h
   rfl
 · obtain ⟨a, ns, k, rfl, ha, hk, q⟩ := h
   refine ⟨_, sK (ps_if (pt_cmpR op_lt (pv 1) (eZ call_len_seq (by rfl) B.len PySem.boot_len (pK (pv 0) pN)) (nomark _)) (s1' (sR (pe_ix ix_list (pv 0) (pv 1) (fun _ _ => rfl)))) sN) (s1' (sR eI)), ?_⟩
   refine ⟨_, rfl, _, rfl, a, _, rfl, .inl ha, _, _, rfl, rfl, _, rfl, ite2 (fun hlt => ?_) (fun _ => q 0)⟩
   have hlt : k < ((ns.map V.int).length : Int) := of_decide_eq_true hlt
   rw [List.length_map] at hlt
   refine ⟨_, rfl, _, rfl, a, _, _, .int (J.at0 ns k.toNat), rfl, rfl, ha, ?_, q _⟩
   have e : ((k.toNat : Nat) : Int) = k := Int.toNat_of_nonneg hk
   rw [← e]
   exact atI_nat (getV_of (by omega))
def sp_draw : Sp := fun vs H Q _ => ∃ c k m : Int, vs = [.int c, .int k, .int m] ∧ 0 ≤ k ∧ 0 < m ∧ ∀ r H', 0 ≤ r → r < m → Same H H' → Q (.int r) H'
theorem ok_draw {f : Addr} {fd : FuncData} (F : Fun K "_law_draw" "_law_draw" s__law_draw f fd) : FnOk P w K mg base CX0 1 f fd ["_law_cell", "_law_k", "_law_many"] sp_draw := by
 refine F.ok sc__law_draw (fun vs H Q E h => ?_) (fun cdv A outer s H vs Q E hr h => ?_)
 · obtain ⟨c, k, m, rfl, _⟩ := h
   rfl
 · obtain ⟨c, k, m, rfl, hk, hm, q⟩ := h
   refine ⟨_, @sK _ _ _ _ _ (@sS _ _ 3 "_law_primes" _ _ _ sc__law_draw.nd rfl (Or.inl rfl) (@pe_tup _ _ _ _ _ (@pa_ints _ _ prm (by decide +kernel))) rfl (.inl rfl))
     (s1' (sR (pe_op op_mod (pe_op op_mod (pe_op op_add (pe_op op_mul (pv 0) eI) (pe_op op_mul (pv 1) eI)) (pe_ix ix_tup (pv 3) (pe_op op_mod (pv 1) eI) (fun _ _ => rfl))) (pv 2)))), ?_⟩
   refine ⟨(by show 16 ≤ sizeLine; decide), fun t nt => ?_⟩
   have e : (((k % 16).toNat : Nat) : Int) = k % 16 := Int.toNat_of_nonneg (by omega)
   have hlt : (k % 16).toNat < 16 := by omega
   refine ⟨_, rfl, _, _, rfl, rfl, .inr ⟨by decide, by decide⟩, _, rfl, _, _, rfl, rfl, .inr ⟨by decide, by decide⟩, _, _, rfl, rfl, _, rfl, _, rfl, _, _, rfl, rfl, (by show (0 : Int) < 16; decide), t, _, _, .int (J.at0 prm (k % 16).toNat), rfl, rfl, SqT.of uS,
     by show atI (prm.map V.int) (k % 16) = _; rw [← e]; exact atI_nat (getV_of hlt), _, _, rfl, rfl, prm_pos _ hlt, _, rfl, _, _, rfl, rfl, hm, ?_⟩
   exact q _ _ (Int.emod_nonneg _ (by omega)) (Int.emod_lt_of_pos _ hm) (Same.new nt)
def sp_law_sizes : Sp := fun vs H Q _ => ∃ c : Int, vs = [.int c] ∧ ∀ l H' sz, Same H H' → H l = none → H' l = some (.lst (sz.map V.int)) → LSz sz → Q (.ref l) H'
theorem ok_law_sizes {f : Addr} {fd : FuncData} (F : Fun K "_law_sizes" "_law_sizes" s__law_sizes f fd) (B : Bt mg) (D : FnB P w K mg base 1 "_law_draw" ["_law_cell", "_law_k", "_law_many"] sp_draw) : FnOk P w K mg base CX0 2 f fd ["_law_cell"] sp_law_sizes := by
 refine F.ok sc__law_sizes (fun vs H Q E h => ?_) (fun cdv A outer s H vs Q E hr h => ?_)
 · obtain ⟨c, rfl, _⟩ := h
   rfl
 · obtain ⟨c, rfl, k⟩ := h
   refine ⟨_, sK (sS (i := 1) sc__law_sizes.nd rfl (Or.inl rfl) (pe_op op_add eI (eF D hr (pK (pv 0) (pK eI (pK eI pN))))))
     (sK (sS (i := 2) sc__law_sizes.nd rfl (Or.inr rfl) (pe_ix ix_tup (pe_tup (pa_ints (ns := mos) (by decide +kernel))) (pe_op op_sub (pv 1) eI) (fun _ _ => rfl)))
     (s1' (sR (pe_lc sc__law_sizes [0, 2] (pi_range1 (by rfl) B.range (pK (pv 1) pN)) (fun _ _ _ _ _ _ => ⟨pif_nil, pe_op op_add eI (eF D hr (pK (pe_op op_add (pv 1) (pe_op op_mul eI (pv 0))) (pK (pe_op op_add eI (pv 0)) (pK (pv 2) pN))))⟩))))), ?_⟩
   refine ⟨_, rfl, c, 0, 4, rfl, by decide, by decide, fun r H1 r0 r4 s1 => ?_⟩
   obtain ⟨n, rfl⟩ : ∃ n : Nat, r = (n : Int) := ⟨r.toNat, (Int.toNat_of_nonneg r0).symm⟩
   have hn : n < 4 := by omega
   refine ⟨_, _, rfl, rfl, (by show 4 ≤ sizeLine; decide), fun t nt => ?_⟩
   have em : (1 + (n : Int)) - 1 = (n : Int) := by omega
   refine ⟨_, rfl, _, _, rfl, rfl, t, _, _, .int (J.at0 mos n), rfl, rfl, SqT.of uS, by show atI (mos.map V.int) ((1 + (n : Int)) - 1) = _; rw [em]; exact atI_nat (getV_of hn), ?_⟩
   have s2 : Same H (upd H1 t (.tup (mos.map V.int))) := s1.lay nt
   have hmo : ∀ j : Nat, j < 4 → 0 < J.at0 mos j := by decide
   refine ⟨_, rfl, 1 + (n : Int), rfl, by omega, by omega, ?_⟩
   have en : (1 + (n : Int)).toNat = n + 1 := by omega
   rw [en]
   refine lc_rangeN (n := n + 1) (fun i ys H' => Same (upd H1 t (.tup (mos.map V.int))) H' ∧ ∃ sz : List Int, ys = sz.map V.int ∧ sz.length = i ∧ ∀ s ∈ sz, 1 ≤ s ∧ s ≤ J.at0 mos n) ⟨Same.refl _, [], rfl, rfl, by simp⟩ (small1000 (by omega))
     (fun i ys H' ⟨_, sz, e, l, _⟩ => by rw [e, List.length_map, l]; exact Nat.le_refl _) ?_ ?_
   · rintro i ys H2 hi ⟨s3, sz, rfl, hl, hb⟩
     refine tYes_of ⟨_, rfl, _, rfl, _, _, rfl, rfl, .inl ⟨by decide, by decide⟩, _, _, rfl, rfl, _, rfl, _, _, rfl, rfl, _, rfl, _, _, _, rfl, by omega, hmo n hn, fun r' H3 r0' r4' s4 => ?_⟩
     refine ⟨_, _, rfl, rfl, s3.trans s4, sz ++ [1 + r'], ?_, ?_, ?_⟩
     · rw [List.map_append]; rfl
     · simp [hl]
     · intro s hs
       rcases List.mem_append.mp hs with h | h
       · exact hb s h
       · have e : s = 1 + r' := by simpa using h
         omega
   · rintro ys H2 ⟨s3, sz, rfl, hl, hb⟩ D nD
     refine k D _ sz ((s2.trans s3).lay nD) ((s2.trans s3).free nD) uS ⟨by omega, by omega, fun s hs => ?_⟩
     rw [hl]; exact hb s hs
def sp_law_state : Sp := fun vs H Q _ => ∃ (c : Int) (l : Addr) (sz : List Int), vs = [.int c, .ref l] ∧ H l = some (.lst (sz.map V.int)) ∧ sz.length ≤ 4 ∧ (∀ s ∈ sz, 0 ≤ s) ∧ ∀ t H' st, Same H H' → H' t = some (.tup (st.map V.int)) → J.IsSt sz st → Q (.ref t) H'
theorem at0_snoc (l : List Int) (v : Int) (j : Nat) : J.at0 (l ++ [v]) j = if j = l.length then v else J.at0 l j := by
 unfold J.at0
 rw [List.getD_eq_getElem?_getD, List.getD_eq_getElem?_getD, List.getElem?_append]
 by_cases h : j < l.length
 · rw [if_pos h, if_neg (by omega)]
 · rw [if_neg h]
   by_cases h2 : j = l.length
   · rw [if_pos h2, h2]; simp
   · rw [if_neg h2, List.getElem?_eq_none_iff.mpr (by simp; omega), List.getElem?_eq_none_iff.mpr (by omega)]
theorem ok_law_state {f : Addr} {fd : FuncData} (F : Fun K "_law_state" "_law_state" s__law_state f fd) (B : Bt mg) (D : FnB P w K mg base 1 "_law_draw" ["_law_cell", "_law_k", "_law_many"] sp_draw) : FnOk P w K mg base CX0 2 f fd ["_law_cell", "_law_sizes_here"] sp_law_state := by
 refine F.ok sc__law_state (fun vs H Q E h => ?_) (fun cdv A outer s H vs Q E hr h => ?_)
 · obtain ⟨c, l, sz, rfl, _⟩ := h
   rfl
 · obtain ⟨c, l, sz, rfl, hl, h4, hnn, k⟩ := h
   refine ⟨_, sK (sS (i := 2) sc__law_state.nd rfl (Or.inl rfl) (pe_lst pN))
     (sK (ps_for PassesOwn.never rfl (pi_range1 (by rfl) B.range (pK (eZ call_len_seq (by rfl) B.len PySem.boot_len (pK (pv 1) pN)) pN)) (pg_name (i := 3) sc__law_state.nd rfl (Or.inl rfl))
       (sK (sS (i := 4) sc__law_state.nd rfl (Or.inl rfl) (eF D hr (pK (pe_op op_add (pv 0) (pe_op op_mul eI (pv 3))) (pK (pe_op op_add eI (pv 3)) (pK eI pN)))))
       (s1' (ps_expr (pe_append (pv 2) (pe_ix ix_tup (pe_tup (pK eI (pK (pe_ix ix_list (pv 1) (pv 3) (fun _ _ => rfl)) (pK (eF D hr (pK (pv 0) (pK (pe_op op_add eI (pv 3)) (pK (pe_op op_add (pe_ix ix_list (pv 1) (pv 3) (fun _ _ => rfl)) eI) pN)))) (pK eI pN))))) (pv 4) (fun _ _ => rfl)))))))
     (s1' (sR (eT cT (by rfl) B.tuple bt_tuple (pK (pv 2) pN))))), ?_⟩
   refine ⟨(by show 0 ≤ sizeLine; decide), fun r nr => ?_⟩
   have s1 : Same H (upd H r (.lst [])) := Same.new nr
   refine ⟨_, rfl, l, _, rfl, .inl (SqL.of (s1 _ _ hl)), ((sz.length : Nat) : Int), (by rw [List.length_map]), by omega, by omega, for_rangeN (n := sz.length) (fun i σ H' => ∃ st v3 v4, σ = [some (.int c), some (.ref l), some (.ref r), v3, v4] ∧ Same H H' ∧ H' r = some (.lst (st.map V.int)) ∧ st.length = i ∧ ∀ j, j < i → 0 ≤ J.at0 st j ∧ J.at0 st j ≤ J.at0 sz j)
     ⟨[], none, none, rfl, s1, uS, rfl, fun j hj => absurd hj (Nat.not_lt_zero _)⟩ ?_ ?_⟩
   · rintro i σ H1 hi ⟨st, v3, v4, rfl, s2, e2, hst, hb⟩
     refine ⟨_, rfl, _, rfl, _, _, rfl, rfl, .inl ⟨by decide, by decide⟩, _, _, rfl, rfl, _, rfl, _, _, rfl, rfl, _, _, _, rfl, by omega, by decide, fun kd H2 k0 k4 s3 => ?_⟩
     have hli := s3 _ _ (s2 _ _ hl)
     have hz := hnn _ (List.mem_of_getElem? (get_of hi))
     refine ⟨_, rfl, .inl ⟨rfl, _, SqL.of (s3 _ _ e2)⟩, _, rfl, _, rfl, l, _, _, _, rfl, rfl, SqL.of hli, atI_nat (getV_of hi), ?_⟩
     refine ⟨_, rfl, _, rfl, _, _, rfl, rfl, _, rfl, _, rfl, l, _, _, _, rfl, rfl, SqL.of hli, atI_nat (getV_of hi), _, _, rfl, rfl, _, _, _, rfl, by omega, by omega, fun d H3 d0 d4 s4 => ?_⟩
     refine ⟨(by show 4 ≤ sizeLine; decide), fun t nt => ?_⟩
     obtain ⟨n, rfl⟩ : ∃ n : Nat, kd = (n : Int) := ⟨kd.toNat, (Int.toNat_of_nonneg k0).symm⟩
     have hn : n < 4 := by omega
     refine ⟨_, rfl, t, _, _, .int (J.at0 [0, J.at0 sz i, d, 0] n), rfl, rfl, SqT.of uS, atI_nat (getV_of (l := [0, J.at0 sz i, d, 0]) hn), ?_⟩
     have s5 : Same H2 (upd H3 t (.tup ([0, J.at0 sz i, d, 0].map V.int))) := s4.lay nt
     refine ⟨r, _, _, rfl, rfl, s5 _ _ (s3 _ _ e2), small1000 (by rw [List.length_map]; omega), ?_⟩
     refine ⟨st ++ [J.at0 [0, J.at0 sz i, d, 0] n], _, _, rfl, ((s2.trans s3).trans s5).put nr, ?_, by simp [hst], fun j hj => ?_⟩
     · rw [uS, List.map_append]; rfl
     · rw [at0_snoc]
       by_cases hj' : j = st.length
       · rw [if_pos hj', hj', hst]
         match n, hn with
         | 0, _ => exact ⟨Int.le_refl 0, hz⟩
         | 1, _ => exact ⟨hz, Int.le_refl _⟩
         | 2, _ => exact ⟨d0, Int.lt_add_one_iff.mp d4⟩
         | 3, _ => exact ⟨Int.le_refl 0, hz⟩
       · rw [if_neg hj']
         exact hb j (by omega)
   · rintro σ H1 ⟨st, v3, v4, rfl, s2, e2, hst, hb⟩
     refine ⟨_, rfl, r, _, rfl, .inl ⟨SqL.of e2, fun t nt => k t _ st (s2.lay nt) uS ⟨hst, hb⟩⟩⟩
end
section
variable {P : Program} {w : World} {K : PySem.W.Frag} {mg : Str → Option Value} {base : Heap} {CH : Addr} {Z : Cz}
def sp_all_moves : Sp := fun vs H Q _ => ∃ (l : Addr) (sz : List Int) (tap : Bool), vs = [.ref l, .bl tap] ∧ H l = some (.lst (sz.map V.int)) ∧ sz.length ≤ 4 ∧ ∀ r H' xs, Same H H' → H r = none → H' r = some (.lst xs) → Paired (isTI H') xs ((J.moves sz.length tap).map mvT) → Q (.ref r) H'
theorem ok_all_moves {f : Addr} {fd : FuncData} (F : Fun K "_law_all_moves" "_law_all_moves" s__law_all_moves f fd) (B : Bt mg) : FnOk P w K mg base CX0 1 f fd ["_law_sizes_here", "_law_tap"] sp_all_moves := by
 refine F.ok sc__law_all_moves (fun vs H Q E h => ?_) (fun cdv A outer s H vs Q E hr h => ?_)
 · obtain ⟨l, sz, tap, rfl, _⟩ := h
   rfl
 · obtain ⟨l, sz, tap, rfl, hl, h4, k⟩ := h
   refine ⟨_, sK (sS (i := 2) sc__law_all_moves.nd rfl (Or.inl rfl) (eT (call_list_rng rfl) (by rfl) B.list bt_list (pK (eT call_rangeR (by rfl) B.range bt_range (pK (eZ call_len_seq (by rfl) B.len PySem.boot_len (pK (pv 0) pN)) pN)) pN)))
     (sK (sS (i := 3) sc__law_all_moves.nd rfl (Or.inl rfl) (pe_lst pN))
     (sK (ps_for PassesOwn.never rfl (pi_list (pv 2)) (pg_name (i := 4) sc__law_all_moves.nd rfl (Or.inr rfl))
       (s1' (sS (i := 3) sc__law_all_moves.nd rfl (Or.inl rfl) (pe_op op_cat (pv 3) (pe_lc sc__law_all_moves [4] (pi_list (pv 2)) (fun _ _ _ _ _ _ => ⟨pif_one (pt_cmpR op_ne (pv 0) (pv 1) (nomark _)), pe_tup (pK eI (pK (pv 1) (pK (pv 0) pN)))⟩))))))
     (sK (ps_if (pt_val (pv 1)) (s1' (sS (i := 3) sc__law_all_moves.nd rfl (Or.inl rfl) (pe_op op_cat (pe_op op_cat (pv 3) (pe_lc sc__law_all_moves [] (pi_list (pv 2)) (fun _ _ _ _ _ _ => ⟨pif_nil, pe_tup (pK eI (pK (pv 0) (pK eI pN)))⟩)))
         (pe_lc sc__law_all_moves [] (pi_list (pv 2)) (fun _ _ _ _ _ _ => ⟨pif_nil, pe_tup (pK eI (pK (pv 0) (pK eI pN)))⟩))))) sN)
     (s1' (sR (pv 3)))))), ?_⟩
   have hjl : ∀ n : Nat, ((List.range n).map fun (k : Nat) => V.int (k : Int)).length = n := fun n => by simp
   have hjg : ∀ (n i : Nat) (x : V), ((List.range n).map fun (k : Nat) => V.int (k : Int))[i]? = some x → i < n ∧ x = .int (i : Int) := fun n i x e => by
     rw [List.getElem?_map] at e
     by_cases hi : i < n
     · rw [List.getElem?_range hi] at e
       exact ⟨hi, (Option.some.inj e).symm⟩
     · rw [List.getElem?_eq_none_iff.mpr (by simp; omega)] at e
       cases e
   refine ⟨_, rfl, l, _, rfl, .inl (SqL.of hl), _, rfl, fun g ng => ?_⟩
   rw [List.length_map]
   refine ⟨g, _, rfl, uS, by omega, by omega, fun j nj => ?_⟩
   rw [Int.toNat_natCast]
   have s1 : Same H (upd (upd H g (.rng 0 sz.length)) j (.lst ((List.range sz.length).map fun (k : Nat) => V.int (k : Int)))) := (Same.new ng).lay nj
   refine ⟨(by show 0 ≤ sizeLine; decide), fun r nr => ?_⟩
   have s2 := s1.lay (o := .lst []) nr
   have ej : (upd (upd (upd H g (.rng 0 sz.length)) j (.lst ((List.range sz.length).map fun (k : Nat) => V.int (k : Int)))) r (.lst [])) j = some (.lst ((List.range sz.length).map fun (k : Nat) => V.int (k : Int))) := (Same.new nr) _ _ uS
   generalize hH0 : upd (upd (upd H g (.rng 0 sz.length)) j (.lst ((List.range sz.length).map fun (k : Nat) => V.int (k : Int)))) r (.lst []) = H0 at s2 ej ⊢
   have er : H0 r = some (.lst []) := by rw [← hH0]; exact uS
   refine ⟨_, rfl, j, rfl, ⟨_, SqL.of ej⟩, for_list (K := K) (a := j) (xs := (List.range sz.length).map fun (k : Nat) => V.int (k : Int)) (fun i σ H' => ∃ b xs v4, σ = [some (.ref l), some (.bl tap), some (.ref j), some (.ref b), v4] ∧ Same H0 H' ∧ H b = none ∧ H' b = some (.lst xs) ∧ Paired (isTI H') xs (((List.range i).flatMap (row sz.length)).map mvT))
     ⟨r, [], none, rfl, Same.refl _, s1.free nr, er, .nil⟩ (fun i σ H' _ ⟨_, _, _, _, s3, _⟩ => SqL.of (s3 _ _ ej)) ?_ ?_⟩
   · rintro i x σ H1 hx ⟨b, xs, v4, rfl, s3, nb, eb, pb⟩
     obtain ⟨hi, rfl⟩ := hjg _ _ _ hx
     refine ⟨_, rfl, _, rfl, j, rfl, ⟨_, SqL.of (s3 _ _ ej)⟩, lc_list (xs := (List.range sz.length).map fun (k : Nat) => V.int (k : Int)) (fun m ys H' => Same H1 H' ∧ ys.length ≤ m ∧ Paired (isTI H') ys ((rowTo i m).map mvT)) ⟨Same.refl _, Nat.le_refl _, .nil⟩ (small1000 (by rw [hjl]; omega)) (fun m ys H' ⟨_, q, _⟩ => q)
       (fun m ys H' _ ⟨s4, _⟩ => SqL.of (s4 _ _ (s3 _ _ ej))) ?_ ?_⟩
     · rintro m y ys H2 hy ⟨s4, l4, p4⟩
       obtain ⟨hm, rfl⟩ := hjg _ _ _ hy
       refine ⟨_, rfl, _, rfl, rfl, _, rfl, ?_⟩
       by_cases hmi : m = i
       · subst hmi
         rw [decide_eq_true rfl]
         refine iteF ⟨s4, by omega, ?_⟩
         rw [rowTo_eq, if_pos rfl, List.append_nil]
         exact p4
       · rw [decide_eq_false (by simp; omega)]
         refine iteT ⟨_, rfl, _, rfl, (by show 3 ≤ sizeLine; decide), fun t nt => ⟨s4.lay nt, by simp; omega, ?_⟩⟩
         rw [rowTo_eq, if_neg hmi, List.map_append]
         exact Paired.snocP (pt_fix p4 (Fix.of (Same.new nt))) ⟨t, rfl, uS⟩
     · rintro ys H2 ⟨s4, l4, p4⟩ D nD
       have s5 : Same H2 (upd H2 D (.lst ys)) := Same.new nD
       have lx : xs.length ≤ 16 := by
         rw [pb.length, List.length_map]
         have h1 := rows_len sz.length i
         have h2 : i * sz.length ≤ 4 * 4 := Nat.mul_le_mul (by omega) h4
         omega
       rw [hjl] at l4
       refine ⟨b, D, xs, ys, rfl, rfl, s5 _ _ (s4 _ _ eb), uS, Nat.le_of_lt (small1000 (by omega)), fun p np => ?_⟩
       have s6 : Same (upd H2 D (.lst ys)) (upd (upd H2 D (.lst ys)) p (.lst (xs ++ ys))) := Same.new np
       have s7 := (s3.trans s4).trans (s5.trans s6)
       refine ⟨p, _, _, rfl, s7, (s2.trans ((s3.trans s4).trans s5)).free np, uS, ?_⟩
       rw [List.range_succ, List.flatMap_append, List.map_append]
       have e : (List.flatMap (row sz.length) [i]) = rowTo i sz.length := by simp [row, rowTo]
       rw [e]
       rw [hjl] at p4
       exact Paired.appP (pt_fix pb (Fix.of (s4.trans (s5.trans s6)))) (pt_fix p4 (Fix.of (s5.trans s6)))
   · rintro σ H1 ⟨b, xs, v4, rfl, s3, nb, eb, pb⟩
     rw [hjl] at pb
     refine ⟨_, rfl, _, rfl, ?_⟩
     have lx : xs.length ≤ 16 := by
       rw [pb.length, List.length_map]
       have h1 := rows_len sz.length sz.length
       have h2 : sz.length * sz.length ≤ 4 * 4 := Nat.mul_le_mul h4 h4
       omega
     cases tap with
     | false =>
       refine iteF ⟨_, rfl, k b H1 xs (s2.trans s3) nb eb ?_⟩
       have e : J.moves sz.length false = J.pours sz.length := by simp [J.moves]
       rw [e]; exact pb
     | true =>
       refine iteT ?_
       refine ⟨_, rfl, _, rfl, j, rfl, ⟨_, SqL.of (s3 _ _ ej)⟩, lc_list (xs := (List.range sz.length).map fun (k : Nat) => V.int (k : Int)) (fun m ys H' => Same H1 H' ∧ ys.length ≤ m ∧ Paired (isTI H') ys (((List.range m).map J.Mv.fill).map mvT)) ⟨Same.refl _, Nat.le_refl _, .nil⟩ (small1000 (by rw [hjl]; omega)) (fun m ys H' ⟨_, q, _⟩ => q)
         (fun m ys H' _ ⟨s4, _⟩ => SqL.of (s4 _ _ (s3 _ _ ej))) ?_ ?_⟩
       · rintro m y ys H2 hy ⟨s4, l4, p4⟩
         obtain ⟨hm, rfl⟩ := hjg _ _ _ hy
         refine tYes_of ⟨_, rfl, (by show 3 ≤ sizeLine; decide), fun t nt => ⟨s4.lay nt, by simp; omega, ?_⟩⟩
         rw [List.range_succ, List.map_append, List.map_append]
         exact Paired.snocP (pt_fix p4 (Fix.of (Same.new nt))) ⟨t, rfl, uS⟩
       · rintro ys H2 ⟨s4, l4, p4⟩ D nD
         rw [hjl] at l4 p4
         have s5 : Same H2 (upd H2 D (.lst ys)) := Same.new nD
         refine ⟨b, D, xs, ys, rfl, rfl, s5 _ _ (s4 _ _ eb), uS, Nat.le_of_lt (small1000 (by omega)), fun p np => ?_⟩
         have s6 : Same (upd H2 D (.lst ys)) (upd (upd H2 D (.lst ys)) p (.lst (xs ++ ys))) := Same.new np
         have s7 : Same H1 (upd (upd H2 D (.lst ys)) p (.lst (xs ++ ys))) := s4.trans (s5.trans s6)
         have p7 : Paired (isTI (upd (upd H2 D (.lst ys)) p (.lst (xs ++ ys)))) (xs ++ ys) ((J.pours sz.length ++ (List.range sz.length).map J.Mv.fill).map mvT) := by
           rw [List.map_append]
           exact Paired.appP (pt_fix pb (Fix.of s7)) (pt_fix p4 (Fix.of (s5.trans s6)))
         have e7 : (upd (upd H2 D (.lst ys)) p (.lst (xs ++ ys))) p = some (.lst (xs ++ ys)) := uS
         generalize hH7 : upd (upd H2 D (.lst ys)) p (.lst (xs ++ ys)) = H7 at s7 p7 e7 ⊢
         refine ⟨_, rfl, j, rfl, ⟨_, SqL.of (s7 _ _ (s3 _ _ ej))⟩, lc_list (xs := (List.range sz.length).map fun (k : Nat) => V.int (k : Int)) (fun m zs H' => Same H7 H' ∧ zs.length ≤ m ∧ Paired (isTI H') zs (((List.range m).map J.Mv.emp).map mvT)) ⟨Same.refl _, Nat.le_refl _, .nil⟩ (small1000 (by rw [hjl]; omega)) (fun m ys H' ⟨_, q, _⟩ => q)
           (fun m ys H' _ ⟨s8, _⟩ => SqL.of (s8 _ _ (s7 _ _ (s3 _ _ ej)))) ?_ ?_⟩
         · rintro m y zs H8 hy ⟨s8, l8, p8⟩
           obtain ⟨hm, rfl⟩ := hjg _ _ _ hy
           refine tYes_of ⟨_, rfl, (by show 3 ≤ sizeLine; decide), fun t nt => ⟨s8.lay nt, by simp; omega, ?_⟩⟩
           rw [List.range_succ, List.map_append, List.map_append]
           exact Paired.snocP (pt_fix p8 (Fix.of (Same.new nt))) ⟨t, rfl, uS⟩
         · rintro zs H8 ⟨s8, l8, p8⟩ D2 nD2
           rw [hjl] at l8 p8
           have s9 : Same H8 (upd H8 D2 (.lst zs)) := Same.new nD2
           refine ⟨p, D2, _, zs, rfl, rfl, s9 _ _ (s8 _ _ e7), uS, Nat.le_of_lt (small1000 (by rw [List.length_append]; omega)), fun p' np' => ?_⟩
           have s10 : Same (upd H8 D2 (.lst zs)) (upd (upd H8 D2 (.lst zs)) p' (.lst ((xs ++ ys) ++ zs))) := Same.new np'
           have sA := (s2.trans s3).trans (s7.trans (s8.trans s9))
           refine ⟨_, rfl, k p' _ _ (sA.trans s10) (sA.free np') uS ?_⟩
           have e : J.moves sz.length true = (J.pours sz.length ++ (List.range sz.length).map J.Mv.fill) ++ (List.range sz.length).map J.Mv.emp := by simp [J.moves]
           rw [e, List.map_append]
           exact Paired.appP (pt_fix p7 (Fix.of (s8.trans (s9.trans s10)))) (pt_fix p8 (Fix.of (s9.trans s10)))
end
def bitOf (m : Int) (k : Nat) : Bool := decide (Builtin.bitAnd (m / 2 ^ k) 1 = 1)
def jugsOf (m : Int) (n : Nat) : List Int := ((List.range n).filter (bitOf m)).map fun (k : Nat) => (k : Int)
theorem mask_all : ∀ n : Nat, n < 5 → ∀ m : Nat, m < 16 → 1 ≤ m → m < 2 ^ n → ((List.range n).filter (bitOf (m : Int))).length ≠ 0 := by decide +kernel
theorem nodup_cast : ∀ {l : List Nat}, l.Nodup → (l.map fun (k : Nat) => (k : Int)).Nodup
 | [], _ => by simp
 | a :: l, h => by
   rw [List.map_cons, List.nodup_cons]
   rw [List.nodup_cons] at h
   refine ⟨fun hm => ?_, nodup_cast h.2⟩
   obtain ⟨b, hb, e⟩ := List.mem_map.mp hm
   have : b = a := by omega
   exact h.1 (this ▸ hb)
structure Js (n : Nat) (js : List Int) : Prop where
 nd : js.Nodup
 l1 : 1 ≤ js.length
 l4 : js.length ≤ n
 bd : ∀ j ∈ js, 0 ≤ j ∧ j < n
theorem Js.of {n : Nat} {m : Int} (h4 : n ≤ 4) (h0 : 1 ≤ m) (h1 : m < 2 ^ n) : Js n (jugsOf m n) := by
 obtain ⟨k, rfl⟩ : ∃ k : Nat, m = (k : Int) := ⟨m.toNat, by omega⟩
 have hk : k < 2 ^ n := by exact_mod_cast h1
 have hp : 2 ^ n ≤ 2 ^ 4 := Nat.pow_le_pow_right (by decide) h4
 have := mask_all n (by omega) k (by omega) (by omega) hk
 refine ⟨nodup_cast (List.Pairwise.filter _ List.nodup_range), ?_, ?_, fun j hj => ?_⟩
 · unfold jugsOf; rw [List.length_map]; omega
 · unfold jugsOf; rw [List.length_map]
   have := List.length_filter_le (bitOf (k : Int)) (List.range n)
   rw [List.length_range] at this
   exact this
 · obtain ⟨a, ha, rfl⟩ := List.mem_map.mp hj
   have := List.mem_range.mp (List.mem_filter.mp ha).1
   omega
def tCut (t u : TS) : TS := fun D σ H => ∃ R : St → Hp → Prop, t { D with nx := R } σ H ∧ ∀ σ' H', R σ' H' → u D σ' H'
theorem pss_cut {X : Cx} {st : Stmt} {rest : List Stmt} {t u : TS} (h1 : PS X st t) (h2 : PSs X rest u) : PSs X (st :: rest) (tCut t u) := by
 intro pins s σ H D I ⟨R, h, hR⟩
 refine wpAny_execs_cons (thn (h1 pins s σ H { D with nx := R } I h) fun f s1 q => ?_)
 cases f with
 | next => obtain ⟨σ', H', I', q'⟩ := q; exact h2 pins s1 σ' H' D I' (hR σ' H' q')
 | ret v => exact q
 | brk => exact q
 | cont => exact q
theorem bt_max : bootBuiltins "max" = some (.builtin "max") := by decide +kernel
end Jug
namespace Jug
open PySem L2
theorem cut_put {st : List Int} {a : Nat} (ha : a < st.length) (x : Int) : cutV (st.map V.int) none (some (a : Int)) ++ [V.int x] ++ cutV (st.map V.int) (some ((a : Int) + 1)) none = (st.set a x).map V.int := by
 have e1 : HT.sIx (st.map V.int).length (st.map V.int).length (some (a : Int)) = a := by rw [HT.sIx_nat, List.length_map]; omega
 have e2 : HT.sIx (st.map V.int).length 0 (some ((a : Int) + 1)) = a + 1 := by
   rw [show ((a : Int) + 1) = ((a + 1 : Nat) : Int) by omega, HT.sIx_nat, List.length_map]; omega
 unfold cutV
 rw [e1, e2, HT.sIx_none, HT.sIx_none, List.drop_zero, Nat.sub_zero]
 rw [List.take_of_length_le (l := List.drop _ _) (by simp), ← List.map_take, ← List.map_drop]
 have : st.set a x = st.take a ++ x :: st.drop (a + 1) := by
   rw [List.set_eq_take_append_cons_drop, if_pos ha]
 rw [this, List.map_append, List.map_cons, List.append_assoc]
 rfl
theorem cut_lo {st : List Int} {a : Nat} (ha : a < st.length) : ¬ (HT.sIx (st.map V.int).length 0 none = 0 ∧ HT.sIx (st.map V.int).length (st.map V.int).length (some (a : Int)) = (st.map V.int).length) := by
 rw [HT.sIx_nat, List.length_map]; omega
theorem cut_hi {st : List Int} {a : Nat} (ha : a < st.length) : ¬ (HT.sIx (st.map V.int).length 0 (some ((a : Int) + 1)) = 0 ∧ HT.sIx (st.map V.int).length (st.map V.int).length none = (st.map V.int).length) := by
 rw [show ((a : Int) + 1) = ((a + 1 : Nat) : Int) by omega, HT.sIx_nat, List.length_map]; omega
theorem cutV_small (xs : List V) (lo hi : Option Int) (h : xs.length ≤ 8) : (cutV xs lo hi).length ≤ 8 := Nat.le_trans (cutV_length _ _ _) h
section
variable {P : Program} {w : World} {K : PySem.W.Frag} {mg : Str → Option Value} {base : Heap} {CH : Addr} {Z : Cz}
def sp_behind : Sp := fun vs H Q _ => ∃ (l a t : Addr) (sz st : List Int) (m : J.Mv) (tap : Bool), vs = [.ref l, .ref a, .ref t] ∧ H l = some (.lst (sz.map V.int)) ∧ H a = some (.tup (st.map V.int)) ∧ H t = some (.tup ((mvT m).map V.int)) ∧ J.IsSt sz st ∧ m.ok sz.length tap ∧ sz.length ≤ 4 ∧
 ∀ r H', Same H H' → H' r = some (.tup ((J.behind sz st m).map V.int)) → Q (.ref r) H'
theorem ok_behind2 {f : Addr} {fd : FuncData} (F : Fun K "_law_behind" "_law_behind" s__law_behind f fd) (B : Bt mg) : FnOk P w K mg base CX0 1 f fd ["_law_sizes_here", "_law_state_here", "_law_told_here"] sp_behind := by
 refine F.ok sc__law_behind (fun vs H Q E h => ?_) (fun cdv A outer s H vs Q E hr h => ?_)
 · obtain ⟨l, a, t, sz, st, m, tap, rfl, _⟩ := h
   rfl
 · obtain ⟨l, q, t, sz, st, m, tap, rfl, hl, hq, ht, hst, hok, h4, k⟩ := h
   have nd := sc__law_behind.nd
   refine ⟨_, sK (ps_asg (pv 2) (pg_tup rfl (pgs_cons (pg_name (i := 3) nd rfl (Or.inl rfl)) (pgs_cons (pg_name (i := 4) nd rfl (Or.inl rfl)) (pgs_cons (pg_name (i := 5) nd rfl (Or.inl rfl)) pgs_nil)))))
     (sK (ps_if (pt_cmpR op_eq (pv 3) eI (nomark _))
       (s1' (sR (pe_op op_catU (pe_op op_catU (pe_slice sl_tup (pv 1) po_none (po_some (pv 4))) (pe_tup (pK (pe_ix ix_list (pv 0) (pv 4) (fun _ _ => rfl)) pN))) (pe_slice sl_tup (pv 1) (po_some (pe_op op_add (pv 4) eI)) po_none)))) sN)
     (sK (ps_if (pt_cmpR op_eq (pv 3) eI (nomark _))
       (s1' (sR (pe_op op_catU (pe_op op_catU (pe_slice sl_tup (pv 1) po_none (po_some (pv 4))) (pe_tup (pK eI pN))) (pe_slice sl_tup (pv 1) (po_some (pe_op op_add (pv 4) eI)) po_none)))) sN)
     (sK (sS (i := 6) nd rfl (Or.inl rfl) (eT cL (by rfl) B.list bt_list (pK (pv 1) pN)))
     (sK (sS (i := 7) nd rfl (Or.inl rfl) (eZ (call_min2 rfl) (by rfl) B.min bt_min (pK (pe_ix ix_list (pv 6) (pv 4) (fun _ _ => rfl)) (pK (pe_op op_sub (pe_ix ix_list (pv 0) (pv 5) (fun _ _ => rfl)) (pe_ix ix_list (pv 6) (pv 5) (fun _ _ => rfl))) pN))))
     (sK (ps_asg (pe_op op_sub (pe_ix ix_list (pv 6) (pv 4) (fun _ _ => rfl)) (pv 7)) (pg_sub (pv 6) (pv 4) set_list))
     (sK (ps_asg (pe_op op_add (pe_ix ix_list (pv 6) (pv 5) (fun _ _ => rfl)) (pv 7)) (pg_sub (pv 6) (pv 5) set_list))
     (s1' (sR (eT cT (by rfl) B.tuple bt_tuple (pK (pv 6) pN)))))))))), ?_⟩
   have l8 : (st.map V.int).length ≤ 8 := by rw [List.length_map, hst.len]; omega
   have sl : (24 : Nat) ≤ sizeLine := by decide
   cases m with
   | fill a =>
     have ha : a < st.length := by rw [hst.len]; exact hok.1
     refine ⟨_, rfl, t, _, rfl, SqT.of ht, rfl, _, _, rfl, _, _, rfl, _, _, rfl, rfl, ?_⟩
     refine ⟨_, rfl, rfl, _, rfl, ?_⟩
     rw [decide_eq_true rfl]
     refine iteT ?_
     refine ⟨_, rfl, _, rfl, _, rfl, q, _, rfl, SqT.of hq, cut_lo ha, fun p1 n1 => ?_⟩
     have s1 : Same H (upd H p1 (.tup (cutV (st.map V.int) none (some (a : Int))))) := Same.new n1
     refine ⟨_, rfl, _, rfl, l, _, _, _, rfl, rfl, SqL.of (s1 _ _ hl), atI_nat (getV_of hok.1), (by show 1 ≤ sizeLine; decide), fun p2 n2 => ?_⟩
     have s2 := s1.lay (o := .tup [V.int (J.at0 sz a)]) n2
     refine ⟨p1, p2, _, _, rfl, rfl, (Same.new n2) _ _ uS, uS, by have := cutV_small (st.map V.int) none (some (a : Int)) l8; simp only [List.length_singleton]; omega, fun p3 H3 s3 e3 => ?_⟩
     have s03 := s2.trans s3
     refine ⟨_, rfl, _, rfl, _, _, rfl, rfl, _, rfl, q, _, rfl, SqT.of (s03 _ _ hq), cut_hi ha, fun p4 n4 => ?_⟩
     refine ⟨p3, p4, _, _, rfl, rfl, (Same.new n4) _ _ e3, uS, ?_, fun p5 H5 s5 e5 => ?_⟩
     · have h1 := cutV_small (st.map V.int) none (some (a : Int)) l8
       have h2 := cutV_small (st.map V.int) (some ((a : Int) + 1)) none l8
       simp only [List.length_append, List.length_singleton]; omega
     · exact k p5 H5 ((s03.lay n4).trans s5) (by rw [e5, cut_put ha]; rfl)
   | emp a =>
     have ha : a < st.length := by rw [hst.len]; exact hok.1
     refine ⟨_, rfl, t, _, rfl, SqT.of ht, rfl, _, _, rfl, _, _, rfl, _, _, rfl, rfl, ?_⟩
     refine ⟨_, rfl, rfl, _, rfl, ?_⟩
     rw [decide_eq_false (by simp)]
     refine iteF ?_
     refine ⟨_, rfl, rfl, _, rfl, ?_⟩
     rw [decide_eq_true rfl]
     refine iteT ?_
     refine ⟨_, rfl, _, rfl, _, rfl, q, _, rfl, SqT.of hq, cut_lo ha, fun p1 n1 => ?_⟩
     have s1 : Same H (upd H p1 (.tup (cutV (st.map V.int) none (some (a : Int))))) := Same.new n1
     refine ⟨(by show 1 ≤ sizeLine; decide), fun p2 n2 => ?_⟩
     have s2 := s1.lay (o := .tup [V.int 0]) n2
     refine ⟨p1, p2, _, _, rfl, rfl, (Same.new n2) _ _ uS, uS, by have := cutV_small (st.map V.int) none (some (a : Int)) l8; simp only [List.length_singleton]; omega, fun p3 H3 s3 e3 => ?_⟩
     have s03 := s2.trans s3
     refine ⟨_, rfl, _, rfl, _, _, rfl, rfl, _, rfl, q, _, rfl, SqT.of (s03 _ _ hq), cut_hi ha, fun p4 n4 => ?_⟩
     refine ⟨p3, p4, _, _, rfl, rfl, (Same.new n4) _ _ e3, uS, ?_, fun p5 H5 s5 e5 => ?_⟩
     · have h1 := cutV_small (st.map V.int) none (some (a : Int)) l8
       have h2 := cutV_small (st.map V.int) (some ((a : Int) + 1)) none l8
       simp only [List.length_append, List.length_singleton]; omega
     · exact k p5 H5 ((s03.lay n4).trans s5) (by rw [e5, cut_put ha]; rfl)
   | pour a b =>
     obtain ⟨ha', hb', hab⟩ := hok
     have ha : a < st.length := by rw [hst.len]; exact ha'
     have hb : b < st.length := by rw [hst.len]; exact hb'
     refine ⟨_, rfl, t, _, rfl, SqT.of ht, rfl, _, _, rfl, _, _, rfl, _, _, rfl, rfl, ?_⟩
     refine ⟨_, rfl, rfl, _, rfl, ?_⟩
     rw [decide_eq_false (by simp)]
     refine iteF ?_
     refine ⟨_, rfl, rfl, _, rfl, ?_⟩
     rw [decide_eq_false (by simp)]
     refine iteF ?_
     refine ⟨_, rfl, q, _, rfl, .inr (SqT.of hq), fun r nr => ?_⟩
     have s1 : Same H (upd H r (.lst (st.map V.int))) := Same.new nr
     refine ⟨_, rfl, _, rfl, r, _, _, _, rfl, rfl, SqL.of uS, atI_nat (getV_of ha), _, rfl, _, rfl, l, _, _, _, rfl, rfl, SqL.of (s1 _ _ hl), atI_nat (getV_of hb'), _, rfl, _, rfl, r, _, _, _, rfl, rfl, SqL.of uS, atI_nat (getV_of hb), _, _, rfl, rfl, _, _, rfl, ?_⟩
     refine ⟨_, rfl, _, rfl, r, _, _, _, rfl, rfl, SqL.of uS, atI_nat (getV_of ha), _, rfl, _, _, rfl, rfl, _, rfl, _, rfl, r, _, _, a, rfl, rfl, uS, ixN_of (by simpa using ha), ?_⟩
     rw [map_set_int]
     have lb2 : b < (st.set a (J.at0 st a - J.much sz st a b)).length := by simpa using hb
     refine ⟨_, rfl, _, rfl, r, _, _, _, rfl, rfl, SqL.of uS, atI_nat (getV_of lb2), _, rfl, _, _, rfl, rfl, _, rfl, _, rfl, r, _, _, b, rfl, rfl, uS, ixN_of (by simpa using hb), ?_⟩
     refine ⟨_, rfl, r, _, rfl, .inl ⟨SqL.of uS, fun x nx => k x _ (((s1.put nr).put nr).lay nx) ?_⟩⟩
     have e2 : J.at0 (st.set a (J.at0 st a - J.much sz st a b)) b = J.at0 st b := by rw [J.at0_set, if_neg (fun h => hab h.1)]
     rw [uS, map_set_int]
     show some (HO.tup (((st.set a (J.at0 st a - J.much sz st a b)).set b (J.at0 (st.set a (J.at0 st a - J.much sz st a b)) b + J.much sz st a b)).map V.int)) = _
     rw [e2]
     rfl
end
end Jug
namespace Jug
open PySem L2
section
variable {P : Program} {w : World} {K : PySem.W.Frag} {mg : Str → Option Value} {base : Heap} {CH : Addr} {Z : Cz}
def wordsM : J.Mv → List Str
 | .pour a b => ["pour", numT a, numT b]
 | .fill a => ["fill", numT a]
 | .emp a => ["empty", numT a]
theorem words_eq {m : J.Mv} (h : Sm m) : Txt.split (Txt.join "; " [mvText m]) " " = wordsM m := by
 have h1 : ∀ a : Nat, a < 4 → ∀ b : Nat, b < 4 → Txt.split (Txt.join "; " [mvText (.pour a b)]) " " = wordsM (.pour a b) := by decide +kernel
 have h2 : ∀ a : Nat, a < 4 → Txt.split (Txt.join "; " [mvText (.fill a)]) " " = wordsM (.fill a) := by decide +kernel
 have h3 : ∀ a : Nat, a < 4 → Txt.split (Txt.join "; " [mvText (.emp a)]) " " = wordsM (.emp a) := by decide +kernel
 cases m with
 | pour a b => exact h1 a h.1 b h.2
 | fill a => exact h2 a h
 | emp a => exact h3 a h
theorem text1_len {m : J.Mv} (h : Sm m) : (Txt.join "; " [mvText m]).length ≤ 20 := by
 have h1 : ∀ a : Nat, a < 4 → ∀ b : Nat, b < 4 → (Txt.join "; " [mvText (.pour a b)]).length ≤ 20 := by decide +kernel
 have h2 : ∀ a : Nat, a < 4 → (Txt.join "; " [mvText (.fill a)]).length ≤ 20 := by decide +kernel
 have h3 : ∀ a : Nat, a < 4 → (Txt.join "; " [mvText (.emp a)]).length ≤ 20 := by decide +kernel
 cases m with
 | pour a b => exact h1 a h.1 b h.2
 | fill a => exact h2 a h
 | emp a => exact h3 a h
theorem int_num : ∀ a : Nat, a < 4 → PySem.intText? (numT a) = some (a : Int) := by decide +kernel
def sp_told (Z : Cz) : Sp := fun vs H Q _ => ∃ p m, vs = [.ref p] ∧ MvAt Z H p m ∧ Sm m ∧ ∀ t H', Same H H' → H' t = some (.tup ((mvT m).map V.int)) → Q (.ref t) H'
theorem ok_told {f : Addr} {fd : FuncData} (F : Fun K "_law_told" "_law_told" s__law_told f fd) (B : Bt mg) (R : FnB P w K mg base 2 "routine_text" ["moves"] (sp_routine_text Z)) : FnOk P w K mg base CX0 3 f fd ["_law_move"] (sp_told Z) := by
 refine F.ok sc__law_told (fun vs H Q E h => ?_) (fun cdv A outer s H vs Q E hr h => ?_)
 · obtain ⟨p, m, rfl, _⟩ := h
   rfl
 · obtain ⟨p, m, rfl, hmv, hsm, k⟩ := h
   refine ⟨_, sK (sS (i := 1) sc__law_told.nd rfl (Or.inl rfl) (pe_split (eF R hr (pK (pe_lst (pK (pv 0) pN)) pN)) pe_str))
     (sK (ps_if (pt_cmpR op_eq (pe_ix ix_list (pv 1) eI (fun _ _ => rfl)) pe_str (nomark _))
       (s1' (sR (pe_tup (pK eI (pK (eT call_int_str (by rfl) B.int bt_int (pK (pe_ix ix_list (pv 1) eI (fun _ _ => rfl)) pN)) (pK (eT call_int_str (by rfl) B.int bt_int (pK (pe_ix ix_list (pv 1) eI (fun _ _ => rfl)) pN)) pN)))))) sN)
     (s1' (sR (pe_tup (pK (pe_ifExp (pt_cmpR op_eq (pe_ix ix_list (pv 1) eI (fun _ _ => rfl)) pe_str (nomark _)) eI eI) (pK (eT call_int_str (by rfl) B.int bt_int (pK (pe_ix ix_list (pv 1) eI (fun _ _ => rfl)) pN)) (pK eI pN))))))), ?_⟩
   refine ⟨_, rfl, (by show 1 ≤ sizeLine; decide), fun q nq => ?_⟩
   have s1 : Same H (upd H q (.lst [.ref p])) := Same.new nq
   refine ⟨q, _, [m], rfl, uS, .cons ⟨p, rfl, hmv.mono s1⟩ .nil, fun x hx => ?_, by simp, fun H1 s2 => ?_⟩
   · have e : x = m := by simpa using hx
     subst e; exact hsm
   have hlen := text1_len hsm
   refine ⟨rfl, Txt.join "; " [mvText m], " ", rfl, rfl, by decide +kernel, Nat.le_of_lt (small1000 (by omega)), ?_, fun l nl => ?_⟩
   · rw [words_eq hsm]
     exact Nat.le_of_lt (small1000 (by cases m <;> simp [wordsM]))
   rw [words_eq hsm]
   have s3 : Same H (upd H1 l (.lst ((wordsM m).map V.str))) := (s1.trans s2).lay nl
   have n1 : ¬ (V.str "fill" = V.str "pour") := by intro e; exact absurd (V.str.inj e) (by decide +kernel)
   have n2 : ¬ (V.str "empty" = V.str "pour") := by intro e; exact absurd (V.str.inj e) (by decide +kernel)
   have n3 : ¬ (V.str "empty" = V.str "fill") := by intro e; exact absurd (V.str.inj e) (by decide +kernel)
   cases m with
   | pour a b =>
     have l1 := numT_len a hsm.1
     have l2 := numT_len b hsm.2
     refine ⟨_, rfl, l, _, _, .str "pour", rfl, rfl, SqL.of uS, atI_nat (j := 0) rfl, rfl, _, rfl, ?_⟩
     rw [decide_eq_true rfl]
     refine iteT ?_
     refine ⟨_, rfl, l, _, _, .str (numT a), rfl, rfl, SqL.of uS, atI_nat (j := 1) rfl, numT a, a, rfl, int_num a hsm.1, by omega, _, rfl, l, _, _, .str (numT b), rfl, rfl, SqL.of uS, atI_nat (j := 2) rfl, numT b, b, rfl, int_num b hsm.2, by omega, (by show 3 ≤ sizeLine; decide), fun t nt => ?_⟩
     exact k t _ (s3.lay nt) uS
   | fill a =>
     have l1 := numT_len a hsm
     refine ⟨_, rfl, l, _, _, .str "fill", rfl, rfl, SqL.of uS, atI_nat (j := 0) rfl, rfl, _, rfl, ?_⟩
     rw [decide_eq_false n1]
     refine iteF ?_
     refine ⟨_, rfl, l, _, _, .str "fill", rfl, rfl, SqL.of uS, atI_nat (j := 0) rfl, rfl, _, rfl, ?_⟩
     rw [decide_eq_true rfl]
     refine iteT ?_
     refine ⟨_, rfl, l, _, _, .str (numT a), rfl, rfl, SqL.of uS, atI_nat (j := 1) rfl, numT a, a, rfl, int_num a hsm, by omega, (by show 3 ≤ sizeLine; decide), fun t nt => ?_⟩
     exact k t _ (s3.lay nt) uS
   | emp a =>
     have l1 := numT_len a hsm
     refine ⟨_, rfl, l, _, _, .str "empty", rfl, rfl, SqL.of uS, atI_nat (j := 0) rfl, rfl, _, rfl, ?_⟩
     rw [decide_eq_false n2]
     refine iteF ?_
     refine ⟨_, rfl, l, _, _, .str "empty", rfl, rfl, SqL.of uS, atI_nat (j := 0) rfl, rfl, _, rfl, ?_⟩
     rw [decide_eq_false n3]
     refine iteF ?_
     refine ⟨_, rfl, l, _, _, .str (numT a), rfl, rfl, SqL.of uS, atI_nat (j := 1) rfl, numT a, a, rfl, int_num a hsm, by omega, (by show 3 ≤ sizeLine; decide), fun t nt => ?_⟩
     exact k t _ (s3.lay nt) uS
end
def TG (H : Hp) (t : Addr) : Go → Prop
 | .holds j m => ∃ l, H t = some (.tup [.int 0, .ref l, .int m]) ∧ H l = some (.lst ([(j : Int)].map V.int))
 | .som m => ∃ l, H t = some (.tup [.int 1, .ref l, .int m]) ∧ H l = some (.lst [])
 | .sum js m => ∃ l, H t = some (.tup [.int 2, .ref l, .int m]) ∧ H l = some (.lst (js.map V.int))
 | .whole st => ∃ l a, H t = some (.tup [.int 3, .ref l, .ref a]) ∧ H l = some (.lst []) ∧ H a = some (.tup (st.map V.int))
theorem TG.mono {H H' : Hp} {t : Addr} {g : Go} (h : TG H t g) (s : Same H H') : TG H' t g := by
 cases g with
 | holds j m => obtain ⟨l, e, e2⟩ := h; exact ⟨l, s _ _ e, s _ _ e2⟩
 | som m => obtain ⟨l, e, e2⟩ := h; exact ⟨l, s _ _ e, s _ _ e2⟩
 | sum js m => obtain ⟨l, e, e2⟩ := h; exact ⟨l, s _ _ e, s _ _ e2⟩
 | whole st => obtain ⟨l, a, e, e2, e3⟩ := h; exact ⟨l, a, s _ _ e, s _ _ e2, s _ _ e3⟩
def GoW (sz : List Int) : Go → Prop
 | .holds j m => j < sz.length ∧ 0 ≤ m ∧ m ≤ 240
 | .som m => 0 ≤ m ∧ m ≤ 240
 | .sum js m => Js sz.length js ∧ 0 ≤ m ∧ m ≤ 240
 | .whole st => J.IsSt sz st
theorem GoW.ok {sz : List Int} {g : Go} (hz : sz.length ≤ 4) (h : GoW sz g) : g.ok sz := by
 cases g with
 | holds j m => exact h.1
 | som m => exact trivial
 | sum js m => exact ⟨Nat.le_trans h.1.l4 hz, h.1.bd⟩
 | whole st => exact h
theorem pow_mask : ∀ n : Nat, 1 ≤ n → n ≤ 4 → (0 : Int) < 1 * 2 ^ n - 1 := by
 intro n g1 g4
 match n, g1, g4 with
 | 1, _, _ => decide
 | 2, _, _ => decide
 | 3, _, _ => decide
 | 4, _, _ => decide
section
variable {P : Program} {w : World} {K : PySem.W.Frag} {mg : Str → Option Value} {base : Heap} {CH CG CP CB : Addr} {Z : Cz} {G : Gz}
def sp_goal : Sp := fun vs H Q _ => ∃ (c : Int) (l a : Addr) (sz st : List Int), vs = [.int c, .ref l, .ref a] ∧ H l = some (.lst (sz.map V.int)) ∧ Hz sz ∧ H a = some (.tup (st.map V.int)) ∧ J.IsSt sz st ∧
 ∀ t H' g, Same H H' → TG H' t g → GoW sz g → Q (.ref t) H'
theorem ok_goal {f : Addr} {fd : FuncData} (F : Fun K "_law_goal" "_law_goal" s__law_goal f fd) (B : Bt mg) (hmx : mg "max" = none) (D : FnB P w K mg base 1 "_law_draw" ["_law_cell", "_law_k", "_law_many"] sp_draw) :
   FnOk P w K mg base CX0 2 f fd ["_law_cell", "_law_sizes_here", "_law_state_here"] sp_goal := by
 refine F.ok sc__law_goal (fun vs H Q E h => ?_) (fun cdv A outer s H vs Q E hr h => ?_)
 · obtain ⟨c, l, a, sz, st, rfl, _⟩ := h
   rfl
 · obtain ⟨c, l, a, sz, st, rfl, hl, hz, ha, hst, k⟩ := h
   have nd := sc__law_goal.nd
   refine ⟨_, sK (sS (i := 3) nd rfl (Or.inl rfl) (eF D hr (pK (pv 0) (pK eI (pK (pe_op op_add (eZ (call_maxL rfl) (by rfl) hmx bt_max (pK (pv 1) pN)) eI) pN)))))
     (sK (sS (i := 4) nd rfl (Or.inl rfl) (eF D hr (pK (pv 0) (pK eI (pK eI pN)))))
     (sK (ps_if (pt_cmpR op_eq (pv 4) eI (nomark _)) (s1' (sR (pe_tup (pK eI (pK (pe_lst (pK (eF D hr (pK (pv 0) (pK eI (pK (eZ (call_lenK K) (by rfl) B.len PySem.boot_len (pK (pv 1) pN)) pN)))) pN)) (pK (pv 3) pN)))))) sN)
     (sK (ps_if (pt_cmpR op_eq (pv 4) eI (nomark _)) (s1' (sR (pe_tup (pK eI (pK (pe_lst pN) (pK (pv 3) pN)))))) sN)
     (sK (ps_if (pt_cmpR op_eq (pv 4) eI (nomark _)) (sK (sS (i := 5) nd rfl (Or.inr rfl) (pe_op op_add eI (eF D hr (pK (pv 0) (pK eI (pK (pe_op op_sub (pe_op op_shl eI (eZ (call_lenK K) (by rfl) B.len PySem.boot_len (pK (pv 1) pN))) eI) pN))))))
       (s1' (sR (pe_tup (pK eI (pK (pe_lc sc__law_goal [5] (pi_range1 (by rfl) B.range (pK (eZ (call_lenK K) (by rfl) B.len PySem.boot_len (pK (pv 1) pN)) pN)) (fun _ _ _ _ _ _ => ⟨pif_one (pt_cmpR op_eq (pe_op op_and (pe_op op_shr (pv 1) (pv 0)) eI) eI (nomark _)), pv 0⟩)) (pK (pv 3) pN))))))) sN)
     (s1' (sR (pe_tup (pK eI (pK (pe_lst pN) (pK (pv 2) pN)))))))))), ?_⟩
   have h1 := hz.l1
   have h4 := hz.l4
   refine ⟨_, rfl, _, rfl, ⟨l, sz, rfl, SqL.of hl, by omega, fun M hM _ => ?_⟩⟩
   have bM := hz.bd M hM
   refine ⟨_, _, rfl, rfl, c, 0, _, rfl, by decide, by omega, fun m H1 m0 m1 s1 => ?_⟩
   refine ⟨_, rfl, c, 1, 4, rfl, by decide, by decide, fun n H2 n0 n1 s2 => ?_⟩
   have s12 := s1.trans s2
   have mr : 0 ≤ m ∧ m ≤ 240 := ⟨m0, by omega⟩
   refine ⟨_, rfl, rfl, _, rfl, ?_⟩
   by_cases c0 : n = 0
   · rw [decV, decide_eq_true c0]
     refine iteT ?_
     refine ⟨_, rfl, _, rfl, l, _, rfl, .inl (SqL.of (s12 _ _ hl)), c, 2, _, rfl, by decide, by rw [List.length_map]; omega, fun j H3 j0 j1 s3 => ?_⟩
     rw [List.length_map] at j1
     obtain ⟨i, rfl⟩ : ∃ i : Nat, j = (i : Int) := ⟨j.toNat, (Int.toNat_of_nonneg j0).symm⟩
     refine ⟨(by show 1 ≤ sizeLine; decide), fun p1 n1 => ?_⟩
     refine ⟨_, rfl, (by show 3 ≤ sizeLine; decide), fun p2 n2 => ?_⟩
     exact k p2 _ (.holds i m) (((s12.trans s3).lay n1).lay n2) ⟨p1, uS, (Same.new n2) _ _ uS⟩ ⟨by omega, mr⟩
   rw [decV, decide_eq_false c0]
   refine iteF ?_
   refine ⟨_, rfl, rfl, _, rfl, ?_⟩
   by_cases c1 : n = 1
   · rw [decV, decide_eq_true c1]
     refine iteT ?_
     refine ⟨(by show 0 ≤ sizeLine; decide), fun p1 n1 => ?_⟩
     refine ⟨_, rfl, (by show 3 ≤ sizeLine; decide), fun p2 n2 => ?_⟩
     exact k p2 _ (.som m) ((s12.lay n1).lay n2) ⟨p1, uS, (Same.new n2) _ _ uS⟩ mr
   rw [decV, decide_eq_false c1]
   refine iteF ?_
   refine ⟨_, rfl, rfl, _, rfl, ?_⟩
   by_cases c2 : n = 2
   · rw [decV, decide_eq_true c2]
     refine iteT ?_
     refine ⟨_, rfl, _, rfl, l, _, rfl, .inl (SqL.of (s12 _ _ hl)), _, _, rfl, rfl, ⟨by omega, by rw [List.length_map]; omega, by decide⟩, _, _, rfl, rfl, c, 2, _, rfl, by decide, ?_, fun r K2 r0 r1 w2 => ?_⟩
     · rw [List.length_map, Int.toNat_natCast]
       exact pow_mask _ h1 h4
     rw [List.length_map, Int.toNat_natCast, Int.one_mul] at r1
     have jsA : Js sz.length (jugsOf (1 + r) sz.length) := Js.of h4 (by omega) (by omega)
     refine ⟨_, _, rfl, rfl, ?_⟩
     have w02 := s12.trans w2
     refine ⟨_, rfl, l, _, rfl, .inl (SqL.of (w02 _ _ hl)), ((sz.length : Nat) : Int), (by rw [List.length_map]), by omega, by omega, ?_⟩
     refine lc_rangeN (n := sz.length) (fun i ys H' => ys = (jugsOf (1 + r) i).map V.int ∧ H' = K2) ⟨rfl, rfl⟩ (small1000 (by omega)) (fun i ys H' ⟨e, _⟩ => by
         rw [e]; unfold jugsOf; rw [List.length_map, List.length_map]
         have := List.length_filter_le (bitOf (1 + r)) (List.range i)
         rw [List.length_range] at this; exact this) ?_ ?_
     · rintro i ys H' hi ⟨rfl, rfl⟩
       refine ⟨_, rfl, _, rfl, _, _, rfl, rfl, by omega, _, _, rfl, rfl, rfl, _, rfl, ?_⟩
       rw [decV, Int.toNat_natCast]
       have e : jugsOf (1 + r) (i + 1) = if bitOf (1 + r) i = true then jugsOf (1 + r) i ++ [(i : Int)] else jugsOf (1 + r) i := by
         unfold jugsOf
         rw [List.range_succ, List.filter_append, List.filter_cons, List.filter_nil]
         split <;> simp
       rw [e]
       show if bitOf (1 + r) i = true then _ else _
       by_cases hb : bitOf (1 + r) i = true
       · rw [if_pos hb, if_pos hb]
         exact ⟨_, rfl, by rw [List.map_append]; rfl, rfl⟩
       · rw [if_neg hb, if_neg hb]
         exact ⟨rfl, rfl⟩
     rintro ys H' ⟨rfl, rfl⟩ p1 n1
     refine ⟨_, rfl, (by show 3 ≤ sizeLine; decide), fun p2 n2 => ?_⟩
     exact k p2 _ (.sum (jugsOf (1 + r) sz.length) m) ((w02.lay n1).lay n2) ⟨p1, uS, (Same.new n2) _ _ uS⟩ ⟨jsA, mr⟩
   rw [decV, decide_eq_false c2]
   refine iteF ?_
   refine ⟨(by show 0 ≤ sizeLine; decide), fun p1 n1 => ?_⟩
   refine ⟨_, rfl, (by show 3 ≤ sizeLine; decide), fun p2 n2 => ?_⟩
   exact k p2 _ (.whole st) ((s12.lay n1).lay n2) ⟨p1, a, uS, (Same.new n2) _ _ uS, ((s12.lay n1).lay n2) _ _ ha⟩ hst
end
end Jug
namespace Jug
open PySem L2
theorem mkSame {H H' : Hp} {p dx C : Addr} (np : H p = none) (ndx : H dx = none) (kp : ∀ c o, (upd (upd H dx (.own p)) p (.ins C dx [])) c = some o → c ≠ p → H' c = some o) : Same H H' :=
 fun c o e => kp c o (by rw [uN (nN e np), uN (nN e ndx)]; exact e) (nN e np)
theorem hz_st {sz st : List Int} (hz : Hz sz) (h : J.IsSt sz st) : 1 ≤ st.length ∧ st.length ≤ 4 ∧ ∀ j ∈ st, 0 ≤ j ∧ j ≤ 60 := by
 refine ⟨by rw [h.len]; exact hz.l1, by rw [h.len]; exact hz.l4, fun v hv => ?_⟩
 obtain ⟨i, hi, rfl⟩ := List.mem_iff_getElem.mp hv
 have b1 := h.bnd i (by rw [← h.len]; exact hi)
 have b2 := hz.bd _ (List.mem_of_getElem? (get_of (show i < sz.length by rw [← h.len]; exact hi)))
 have e : J.at0 st i = st[i] := by unfold J.at0; rw [List.getD_eq_getElem?_getD, List.getElem?_eq_getElem hi]; rfl
 rw [e] at b1
 omega
section
variable {P : Program} {w : World} {K : PySem.W.Frag} {mg : Str → Option Value} {base : Heap} {CH CG CP CB : Addr} {Z : Cz} {G : Gz}
def sp_lmet : Sp := fun vs H Q _ => ∃ (t a : Addr) (sz st : List Int) (g : Go), vs = [.ref t, .ref a] ∧ TG H t g ∧ GoW sz g ∧ sz.length ≤ 4 ∧ H a = some (.tup (st.map V.int)) ∧ J.IsSt sz st ∧ ∀ H', Same H H' → Q (.bl (g.met st)) H'
theorem ok_lmet {f : Addr} {fd : FuncData} (F : Fun K "_law_met" "_law_met" s__law_met f fd) (hsm : mg "sum" = none) : FnOk P w K mg base CX0 1 f fd ["_law_told_here", "_law_state_here"] sp_lmet := by
 refine F.ok sc__law_met (fun vs H Q E h => ?_) (fun cdv A outer s H vs Q E hr h => ?_)
 · obtain ⟨t, a, sz, st, g, rfl, _⟩ := h
   rfl
 · obtain ⟨t, a, sz, st, g, rfl, hg, gw, h4, ha, hst, k⟩ := h
   have nd := sc__law_met.nd
   have hu := hr.u20
   refine ⟨_, sK (ps_asg (pv 0) (pg_tup rfl (pgs_cons (pg_name (i := 2) nd rfl (Or.inl rfl)) (pgs_cons (pg_name (i := 3) nd rfl (Or.inl rfl)) (pgs_cons (pg_name (i := 4) nd rfl (Or.inl rfl)) pgs_nil)))))
     (sK (ps_if (pt_cmpR op_eq (pv 2) eI (nomark _)) (s1' (sR (pe_cmpR (op_eqD hu) (pv 1) (pv 4) (nomark _)))) sN)
     (sK (ps_if (pt_cmpR op_eq (pv 2) eI (nomark _)) (s1' (sR (pe_cmpR op_in_seq (pv 4) (pv 1) (by rfl)))) sN)
     (s1' (sR (pe_cmpR op_eq (eZ (call_sum rfl) (by rfl) hsm bt_sum (pK (pe_lc sc__law_met [1] (pi_list (pv 3)) (fun _ _ _ _ _ _ => ⟨pif_nil, pe_ix (ix_tupK K) (pv 1) (pv 0) (fun _ _ => rfl)⟩)) pN)) (pv 4) (nomark _)))))), ?_⟩
   have key : (∃ (n : Int) (l : Addr) (js : List Int) (m : Int), n ≠ 3 ∧ n ≠ 1 ∧ H t = some (.tup [.int n, .ref l, .int m]) ∧ H l = some (.lst (js.map V.int)) ∧ js.length ≤ 4 ∧ (∀ j ∈ js, 0 ≤ j ∧ j < sz.length) ∧ g.met st = decide (sumAt st js = m)) ∨
       (∃ m, g = .som m) ∨ ∃ su, g = .whole su := by
     cases g with
     | holds j m =>
       obtain ⟨l, ht, hl⟩ := hg
       refine .inl ⟨0, l, [(j : Int)], m, by decide, by decide, ht, hl, by simp, fun z hz => ?_, ?_⟩
       · rw [List.mem_singleton.mp hz]
         have := gw.1
         omega
       · unfold sumAt; simp [Go.met]
     | sum js m =>
       obtain ⟨l, ht, hl⟩ := hg
       exact .inl ⟨2, l, js, m, by decide, by decide, ht, hl, Nat.le_trans gw.1.l4 h4, gw.1.bd, rfl⟩
     | som m => exact .inr (.inl ⟨m, rfl⟩)
     | whole su => exact .inr (.inr ⟨su, rfl⟩)
   rcases key with ⟨n, l, js, m, n3, n1, ht, hl, hj4, hb, hm⟩ | ⟨m, rfl⟩ | ⟨su, rfl⟩
   · refine ⟨_, rfl, t, _, rfl, SqT.of ht, rfl, _, _, rfl, _, _, rfl, _, _, rfl, rfl, ?_⟩
     refine ⟨_, rfl, rfl, _, rfl, ?_⟩
     rw [decV, decide_eq_false n3]
     refine iteF ?_
     refine ⟨_, rfl, rfl, _, rfl, ?_⟩
     rw [decV, decide_eq_false n1]
     refine iteF ?_
     refine ⟨_, rfl, l, rfl, ⟨_, SqL.of hl⟩, lc_list (xs := js.map V.int) (fun i ys H'' => ys = ((js.take i).map fun j => J.at0 st j.toNat).map V.int ∧ H'' = H) ⟨rfl, rfl⟩ (by rw [List.length_map]; exact small1000 (by omega)) (fun i ys H' ⟨e, _⟩ => by rw [e]; simp; omega)
       (fun i ys H'' _ ⟨_, e⟩ => by subst e; exact SqL.of hl) (fun i x ys H'' hx ⟨e1, e2⟩ => ?_) (fun ys H'' ⟨e1, e2⟩ => ?_)⟩
     · obtain ⟨z, ez, rfl⟩ := mem_ints hx
       obtain ⟨z0, z1⟩ := hb z (List.mem_of_getElem? ez)
       obtain ⟨j, rfl⟩ : ∃ j : Nat, z = (j : Int) := ⟨z.toNat, (Int.toNat_of_nonneg z0).symm⟩
       have hj' : j < st.length := by rw [hst.len]; omega
       subst e1 e2
       refine tYes_of ⟨_, rfl, _, rfl, a, _, _, .int (J.at0 st j), rfl, rfl, SqT.of ha, atI_nat (getV_of hj'), ?_, rfl⟩
       rw [List.take_add_one, ez, List.map_append, List.map_append]
       rfl
     · subst e1 e2
       intro D nD
       have s2 := (Same.refl H'').lay (o := .lst (((js.take (js.map V.int).length).map fun j => J.at0 st j.toNat).map V.int)) nD
       refine ⟨D, _, rfl, SqL.of uS, ?_⟩
       refine ⟨_, rfl, rfl, ?_⟩
       rw [decV, List.length_map, List.take_length]
       have kk := k _ s2
       rw [hm, List.length_map, List.take_length] at kk
       exact kk
   · obtain ⟨l, ht, hl⟩ := hg
     refine ⟨_, rfl, t, _, rfl, SqT.of ht, rfl, _, _, rfl, _, _, rfl, _, _, rfl, rfl, ?_⟩
     refine ⟨_, rfl, rfl, _, rfl, ?_⟩
     rw [decV, decide_eq_false (by decide)]
     refine iteF ?_
     refine ⟨_, rfl, rfl, _, rfl, ?_⟩
     rw [decV, decide_eq_true rfl]
     refine iteT ?_
     refine ⟨_, rfl, _, rfl, a, _, rfl, .inr (SqT.of ha), rfl, flat_ints _, ?_⟩
     show Q (.bl (inV (.int m) (st.map V.int))) H
     rw [inV_ints]
     exact k _ (Same.refl _)
   · obtain ⟨l, b, ht, hl, hb⟩ := hg
     refine ⟨_, rfl, t, _, rfl, SqT.of ht, rfl, _, _, rfl, _, _, rfl, _, _, rfl, rfl, ?_⟩
     refine ⟨_, rfl, rfl, _, rfl, ?_⟩
     rw [decV, decide_eq_true rfl]
     refine iteT ?_
     refine ⟨_, rfl, _, rfl, _, rcT ha hb, ?_⟩
     exact k _ (Same.refl _)
def sp_lmade (G : Gz) : Sp := fun vs H Q _ => ∃ (t : Addr) (sz : List Int) (g : Go), vs = [.ref t] ∧ TG H t g ∧ GoW sz g ∧ Hz sz ∧ ∀ p H', Same H H' → GoAt G H' p g → Q (.ref p) H'
theorem ok_lmade {f : Addr} {fd : FuncData} (F : Fun K "_law_made" "_law_made" s__law_made f fd) (MO : MkB P w K mg base 4 "Holds" G.H ["self", "jug", "many"] (sp_Holds_init G)) (MS : MkB P w K mg base 3 "Some" G.S ["self", "many"] (sp_Some_init G))
   (MU : MkB P w K mg base 5 "Sum" G.U ["self", "jugs", "many"] (sp_Sum_init G)) (MW : MkB P w K mg base 3 "Whole" G.W ["self", "state"] (sp_Whole_init G)) : FnOk P w K mg base CX0 7 f fd ["_law_told_here"] (sp_lmade G) := by
 refine F.ok sc__law_made (fun vs H Q E h => ?_) (fun cdv A outer s H vs Q E hr h => ?_)
 · obtain ⟨t, sz, g, rfl, _⟩ := h
   rfl
 · obtain ⟨t, sz, g, rfl, hg, gw, hz, k⟩ := h
   have nd := sc__law_made.nd
   have hr4 : Room 5 _ := hr.mono (by decide)
   have h4 := hz.l4
   refine ⟨_, sK (ps_asg (pv 0) (pg_tup rfl (pgs_cons (pg_name (i := 1) nd rfl (Or.inl rfl)) (pgs_cons (pg_name (i := 2) nd rfl (Or.inl rfl)) (pgs_cons (pg_name (i := 3) nd rfl (Or.inl rfl)) pgs_nil)))))
     (sK (ps_if (pt_cmpR op_eq (pv 1) eI (nomark _)) (s1' (sR (pe_mk MO hr4 (pK (pe_ix (ix_listK K) (pv 2) eI (fun _ _ => rfl)) (pK (pv 3) pN))))) sN)
     (sK (ps_if (pt_cmpR op_eq (pv 1) eI (nomark _)) (s1' (sR (pe_mk MS (hr.mono (by decide)) (pK (pv 3) pN)))) sN)
     (sK (ps_if (pt_cmpR op_eq (pv 1) eI (nomark _)) (s1' (sR (pe_mk MU hr (pK (pv 2) (pK (pv 3) pN))))) sN)
     (s1' (sR (pe_mk MW (hr.mono (by decide)) (pK (pv 3) pN))))))), ?_⟩
   cases g with
   | holds j m =>
     obtain ⟨l, ht, hl⟩ := hg
     obtain ⟨gj, m0, m1⟩ := gw
     refine ⟨_, rfl, t, _, rfl, SqT.of ht, rfl, _, _, rfl, _, _, rfl, _, _, rfl, rfl, ?_⟩
     refine ⟨_, rfl, rfl, _, rfl, ?_⟩
     rw [decV, decide_eq_true rfl]
     refine iteT ?_
     refine ⟨_, rfl, l, _, _, .int (j : Int), rfl, rfl, SqL.of hl, rfl, ?_⟩
     refine ⟨_, rfl, fun q dq nq ndq neq => ⟨q, dq, j, m, rfl, uS, by omega, m0, m1, fun K3 kq hgq => ⟨rfl, ?_⟩⟩⟩
     exact k q _ (mkSame nq ndq kq) hgq
   | som m =>
     obtain ⟨l, ht, hl⟩ := hg
     refine ⟨_, rfl, t, _, rfl, SqT.of ht, rfl, _, _, rfl, _, _, rfl, _, _, rfl, rfl, ?_⟩
     refine ⟨_, rfl, rfl, _, rfl, ?_⟩
     rw [decV, decide_eq_false (by decide)]
     refine iteF ?_
     refine ⟨_, rfl, rfl, _, rfl, ?_⟩
     rw [decV, decide_eq_true rfl]
     refine iteT ?_
     refine ⟨_, rfl, fun q dq nq ndq neq => ⟨q, dq, m, rfl, uS, gw.1, gw.2, fun K3 kq hgq => ⟨rfl, ?_⟩⟩⟩
     exact k q _ (mkSame nq ndq kq) hgq
   | sum js m =>
     obtain ⟨l, ht, hl⟩ := hg
     obtain ⟨gj, m0, m1⟩ := gw
     refine ⟨_, rfl, t, _, rfl, SqT.of ht, rfl, _, _, rfl, _, _, rfl, _, _, rfl, rfl, ?_⟩
     refine ⟨_, rfl, rfl, _, rfl, ?_⟩
     rw [decV, decide_eq_false (by decide)]
     refine iteF ?_
     refine ⟨_, rfl, rfl, _, rfl, ?_⟩
     rw [decV, decide_eq_false (by decide)]
     refine iteF ?_
     refine ⟨_, rfl, rfl, _, rfl, ?_⟩
     rw [decV, decide_eq_true rfl]
     refine iteT ?_
     refine ⟨_, rfl, _, rfl, fun q dq nq ndq neq => ⟨q, dq, l, js, m, rfl, uS, ?_, gj.nd, gj.l1, Nat.le_trans gj.l4 h4, fun z hz' => ?_, m0, m1, fun K3 kq hgq => ⟨rfl, ?_⟩⟩⟩
     · rw [uN (nN hl nq), uN (nN hl ndq)]; exact hl
     · have := gj.bd z hz'
       omega
     · exact k q _ (mkSame nq ndq kq) hgq
   | whole su =>
     obtain ⟨l, b, ht, hl, hb⟩ := hg
     obtain ⟨b1, b4, bb⟩ := hz_st hz gw
     refine ⟨_, rfl, t, _, rfl, SqT.of ht, rfl, _, _, rfl, _, _, rfl, _, _, rfl, rfl, ?_⟩
     refine ⟨_, rfl, rfl, _, rfl, ?_⟩
     rw [decV, decide_eq_false (by decide)]
     refine iteF ?_
     refine ⟨_, rfl, rfl, _, rfl, ?_⟩
     rw [decV, decide_eq_false (by decide)]
     refine iteF ?_
     refine ⟨_, rfl, rfl, _, rfl, ?_⟩
     rw [decV, decide_eq_false (by decide)]
     refine iteF ?_
     refine ⟨_, rfl, fun q dq nq ndq neq => ⟨q, dq, b, su, rfl, uS, ?_, b1, b4, bb, fun K3 kq hgq => ⟨rfl, ?_⟩⟩⟩
     · rw [uN (nN hb nq), uN (nN hb ndq)]; exact hb
     · exact k q _ (mkSame nq ndq kq) hgq
def sp_is_state : Sp := fun vs H Q _ => ∃ (l a : Addr) (sz st : List Int), vs = [.ref l, .ref a] ∧ H l = some (.lst (sz.map V.int)) ∧ sz.length ≤ 4 ∧ H a = some (.tup (st.map V.int)) ∧ J.IsSt sz st ∧ Q (.bl true) H
theorem ok_is_state {f : Addr} {fd : FuncData} (F : Fun K "_law_is_state" "_law_is_state" s__law_is_state f fd) (B : Bt mg) : FnOk P w K mg base CX0 1 f fd ["_law_sizes_here", "_law_state_here"] sp_is_state := by
 refine F.ok sc__law_is_state (fun vs H Q E h => ?_) (fun cdv A outer s H vs Q E hr h => ?_)
 · obtain ⟨l, a, sz, st, rfl, _⟩ := h
   rfl
 · obtain ⟨l, a, sz, st, rfl, hl, h4, ha, hst, k⟩ := h
   have nd := sc__law_is_state.nd
   refine ⟨_, sK (ps_if (PW.pt (pw_or (pt_not (pt_val (eZ (cI K) (by rfl) B.isinstance bI (pK (pv 1) (pK (pe_bltn (v := .ty "tuple") (by rfl) B.tuple bt_tuple rfl) pN)))))
       (pw_or1 (pt_cmpR op_ne (eZ (call_lenK K) (by rfl) B.len PySem.boot_len (pK (pv 1) pN)) (eZ (call_lenK K) (by rfl) B.len PySem.boot_len (pK (pv 0) pN)) (nomark _))))) sV sN)
     (sK (ps_for PassesOwn.never rfl (pi_range1 (by rfl) B.range (pK (eZ (call_lenK K) (by rfl) B.len PySem.boot_len (pK (pv 0) pN)) pN)) (pg_name (i := 2) nd rfl (Or.inl rfl))
       (s1' (ps_if (PW.pt (pw_or (pt_val (eZ (cI K) (by rfl) B.isinstance bI (pK (pe_ix (ix_tupK K) (pv 1) (pv 2) (fun _ _ => rfl)) (pK (pe_bltn (v := .ty "bool") (by rfl) B.bool bt_bool rfl) pN))))
         (pw_or (pt_not (pt_val (eZ (cI K) (by rfl) B.isinstance bI (pK (pe_ix (ix_tupK K) (pv 1) (pv 2) (fun _ _ => rfl)) (pK (pe_bltn (v := .ty "int") (by rfl) B.int bt_int rfl) pN)))))
         (pw_or1 (pt_not (pt_chain op_le op_le eI (pe_ix (ix_tupK K) (pv 1) (pv 2) (fun _ _ => rfl)) (pe_ix (ix_listK K) (pv 0) (pv 2) (fun _ _ => rfl)))))))) sV sN)))
     (s1' (sR pe_bl))), ?_⟩
   refine ⟨_, rfl, _, _, _, _, _, rfl, .ty "tuple", .tup ha, kit_tt, _, rfl, iteF ?_⟩
   refine ⟨_, rfl, a, _, rfl, .inr (SqT.of ha), _, rfl, l, _, rfl, .inl (SqL.of hl), rfl, _, rfl, ?_⟩
   rw [List.length_map, List.length_map, hst.len, decV, decide_eq_true rfl]
   refine iteF ?_
   refine ⟨_, rfl, l, _, rfl, .inl (SqL.of hl), ((sz.length : Nat) : Int), (by rw [List.length_map]), by omega, by omega, ?_⟩
   refine for_rangeN (n := sz.length) (fun i σ H' => ∃ v, σ = [some (.ref l), some (.ref a), v] ∧ H' = H) ⟨none, rfl, rfl⟩ ?_ ?_
   · rintro j σ H' hj ⟨v, rfl, rfl⟩
     have hj' : j < st.length := by rw [hst.len]; exact hj
     have bj := hst.bnd j hj
     refine ⟨_, rfl, _, rfl, a, _, _, .int (J.at0 st j), rfl, rfl, SqT.of ha, atI_nat (getV_of hj'), _, _, _, _, _, rfl, .ty "bool", .int _, kit_ib, _, rfl, iteF ?_⟩
     refine ⟨_, rfl, _, rfl, a, _, _, .int (J.at0 st j), rfl, rfl, SqT.of ha, atI_nat (getV_of hj'), _, _, _, _, _, rfl, .ty "int", .int _, kit_ii, _, rfl, iteF ?_⟩
     refine ⟨_, rfl, _, rfl, a, _, _, .int (J.at0 st j), rfl, rfl, SqT.of ha, atI_nat (getV_of hj'), _, _, rfl, rfl, _, rfl, ?_⟩
     rw [decide_eq_true bj.1]
     refine iteT ⟨_, rfl, _, rfl, l, _, _, .int (J.at0 sz j), rfl, rfl, SqL.of hl, atI_nat (getV_of hj), _, _, rfl, rfl, _, rfl, ?_⟩
     rw [decide_eq_true bj.2]
     exact iteF ⟨_, rfl, rfl⟩
   · rintro σ H' ⟨v, rfl, rfl⟩
     exact k
end
end Jug
namespace Jug
open PySem L2
def dOf (L : List (List Int × Int)) : List (List Key × V) := L.map fun x => (kOf x.1, V.int x.2)
theorem dOf_nd {L : List (List Int × Int)} (nd : (L.map (·.1)).Nodup) : ((dOf L).map (·.1)).Nodup := by
 have h2 : (dOf L).map (·.1) = (L.map (·.1)).map kOf := by unfold dOf; rw [List.map_map, List.map_map]; rfl
 rw [h2]
 exact List.Pairwise.map _ (fun a b hab e => hab (kOf_inj e)) nd
theorem dOf_get {L : List (List Int × Int)} (nd : (L.map (·.1)).Nodup) {x : List Int} {n : Int} (h : (x, n) ∈ L) : valV (dOf L) (kOf x) = some (.int n) :=
 valV_mem (dOf_nd nd) (List.mem_map.mpr ⟨(x, n), h, rfl⟩)
theorem dOf_out {L : List (List Int × Int)} {x : List Int} (h : x ∉ L.map (·.1)) : valV (dOf L) (kOf x) = none := by
 refine valV_out fun hk => h ?_
 have h2 : (dOf L).map (·.1) = (L.map (·.1)).map kOf := by unfold dOf; rw [List.map_map, List.map_map]; rfl
 rw [h2] at hk
 obtain ⟨y, hy, e⟩ := List.mem_map.mp hk
 rw [← kOf_inj e]
 exact hy
theorem dOf_at {L : List (List Int × Int)} {i : Nat} {k : List Key} {v : V} (h : (dOf L)[i]? = some (k, v)) : ∃ x n, L[i]? = some (x, n) ∧ k = kOf x ∧ v = .int n := by
 unfold dOf at h
 rw [List.getElem?_map] at h
 cases e : L[i]? with
 | none => rw [e] at h; cases h
 | some p => rw [e] at h; cases h; exact ⟨p.1, p.2, rfl, rfl, rfl⟩
theorem rd_ne {H : Hp} {d a : Addr} {kvs : List (List Key × V)} {xs : List V} (h : Rd H d (.dT kvs)) (e : H a = some (.lst xs)) : a ≠ d := fun q => by
 subst q
 rcases h with h | ⟨o, h⟩
 · rw [e] at h; cases h
 · rw [e] at h; cases h
theorem rd_neT {H : Hp} {d a : Addr} {kvs : List (List Key × V)} {xs : List V} (h : Rd H d (.dT kvs)) (e : H a = some (.tup xs)) : a ≠ d := fun q => by
 subst q
 rcases h with h | ⟨o, h⟩
 · rw [e] at h; cases h
 · rw [e] at h; cases h
theorem bt_all : bootBuiltins "all" = some (.builtin "all") := by decide +kernel
theorem bt_any : bootBuiltins "any" = some (.builtin "any") := by decide +kernel
theorem rep_all (n : Nat) : (List.replicate n true).all id = true := by
 rw [List.all_eq_true]
 intro x hx
 rw [(List.mem_replicate.mp hx).2]; rfl
section
variable {P : Program} {w : World} {K : PySem.W.Frag} {mg : Str → Option Value} {base : Heap} {CH CG CP CB : Addr} {Z : Cz} {G : Gz}
def sp_closed : Sp := fun vs H Q _ => ∃ (l d : Addr) (sz : List Int) (tap : Bool) (L : List (List Int × Int)), vs = [.ref l, .bl tap, .ref d] ∧ H l = some (.lst (sz.map V.int)) ∧ Hz sz ∧ Rd H d (.dT (dOf L)) ∧ (L.map (·.1)).Nodup ∧ L.length ≤ 2000 ∧ (∀ x ∈ L, J.IsSt sz x.1) ∧
 (∀ x ∈ L, ∀ m ∈ J.moves sz.length tap, ∃ n', (J.behind sz x.1 m, n') ∈ L ∧ n' ≤ x.2 + 1) ∧ ∀ H', Q (.bl true) H'
theorem ok_closed {f : Addr} {fd : FuncData} (F : Fun K "_law_closed" "_law_closed" s__law_closed f fd) (hal : mg "all" = none) (AM : FnB P w K mg base 1 "_law_all_moves" ["_law_sizes_here", "_law_tap"] sp_all_moves)
   (BE : FnB P w K mg base 1 "_law_behind" ["_law_sizes_here", "_law_state_here", "_law_told_here"] sp_behind) (IS : FnB P w K mg base 1 "_law_is_state" ["_law_sizes_here", "_law_state_here"] sp_is_state) :
   FnOk P w K mg base CX0 2 f fd ["_law_sizes_here", "_law_tap", "_law_heights"] sp_closed := by
 refine F.ok sc__law_closed (fun vs H Q E h => ?_) (fun cdv A outer s H vs Q E hr h => ?_)
 · obtain ⟨l, d, sz, tap, L, rfl, _⟩ := h
   rfl
 · obtain ⟨l, d, sz, tap, L, rfl, hl, hz, hd, nd', hlen, hst, hcl, k⟩ := h
   have nd := sc__law_closed.nd
   have hu : _ + 1 < cLine := Nat.lt_of_le_of_lt (Nat.add_le_add_left (by decide : 1 ≤ 64) _) hr.units
   refine ⟨_, sK (sS (i := 3) nd rfl (Or.inl rfl) (eF AM hr (pK (pv 0) (pK (pv 1) pN))))
     (sK (ps_if (pt_not (pt_val (eZ (call_all rfl) (by rfl) hal bt_all (pK (pe_lc sc__law_closed [0] (pi_dtR (pv 2)) (fun _ _ _ _ _ _ => ⟨pif_nil, eF IS hr (pK (pv 1) (pK (pv 0) pN))⟩)) pN)))) sV sN)
     (sK (ps_for PassesOwn.never rfl (pi_dt (pv 2)) (pg_name (i := 4) nd rfl (Or.inl rfl))
       (s1' (ps_for PassesOwn.never rfl (pi_list (pv 3)) (pg_name (i := 5) nd rfl (Or.inl rfl))
         (sK (sS (i := 6) nd rfl (Or.inl rfl) (eF BE hr (pK (pv 0) (pK (pv 4) (pK (pv 5) pN)))))
         (s1' (ps_if (PW.pt (pw_or (pt_cmp (pc_dnotin hu (pv 6) (pv 2)) rfl) (pw_or1 (pt_cmpR op_gt (pe_dget hu (pv 2) (pv 6) (fun _ _ => rfl)) (pe_op op_add (pe_dget hu (pv 2) (pv 4) (fun _ _ => rfl)) eI) (nomark _))))) sV sN))))))
     (s1' (sR pe_bl)))), ?_⟩
   have h4 := hz.l4
   have ll : (dOf L).length = L.length := by simp [dOf]
   refine ⟨_, rfl, _, rfl, l, sz, tap, rfl, hl, h4, fun r H1 xs s1 nr er pm => ?_⟩
   have hd1 := Rd.same hd s1
   refine ⟨_, rfl, d, _, rfl, hd1, fun o H2 s2 e2 => ?_⟩
   have hl2 : H2 l = some (.lst (sz.map V.int)) := s2 _ _ (s1 _ _ hl) (rd_ne hd1 (s1 _ _ hl))
   have er2 : H2 r = some (.lst xs) := s2 _ _ er (rd_ne hd1 er)
   have pm2 : Paired (isTI H2) xs ((J.moves sz.length tap).map mvT) := Paired.mapP pm fun v c ⟨a, e, h⟩ => ⟨a, e, s2 _ _ h (rd_neT hd1 h)⟩
   refine lc_dt (fun i ys H' => ys = (List.replicate i true).map V.bl ∧ H' = H2) ⟨rfl, rfl⟩ (by rw [ll, sizeLine_eq]; omega) (fun i ys H' ⟨e, _⟩ => by rw [e]; simp) (fun i ys H' _ ⟨_, e⟩ => by rw [e]; exact e2) ?_ ?_
   · rintro i k' v b ys H' hk hb ⟨e1, e3⟩
     obtain ⟨x, n, hx, rfl, rfl⟩ := dOf_at hk
     subst e1 e3
     refine tYes_of ⟨_, rfl, _, rfl, l, b, sz, x, rfl, hl2, h4, by rw [hb, kOf_map], hst _ (List.mem_of_getElem? hx), ?_, rfl⟩
     rw [List.replicate_succ', List.map_append]
     rfl
   rintro ys H' ⟨rfl, rfl⟩ D nD
   refine ⟨D, _, rfl, SqL.of uS, _, rfl, ?_⟩
   rw [rep_all]
   refine iteF ?_
   have s3 : Same H' (upd H' D (.lst ((List.replicate (dOf L).length true).map V.bl))) := Same.new nD
   generalize upd H' D (.lst ((List.replicate (dOf L).length true).map V.bl)) = H3 at s3 ⊢
   refine ⟨_, rfl, d, _, rfl, .inr ⟨o, s3 _ _ e2, for_dt (a := d) (kvs := dOf L) (o := o) (fun i σ H' => ∃ v4 v5 v6 : Option V, σ = [some (.ref l), some (.bl tap), some (.ref d), some (.ref r), v4, v5, v6] ∧ Same H3 H')
     ⟨none, none, none, rfl, Same.refl _⟩ (fun i σ H' _ ⟨_, _, _, _, s4⟩ => s4 _ _ (s3 _ _ e2)) ?_ fun σ H' _ => k H'⟩⟩
   rintro i k' v b σ H4 hk hb ⟨v4, v5, v6, rfl, s4⟩
   obtain ⟨x, n, hx, rfl, rfl⟩ := dOf_at hk
   have hxm := List.mem_of_getElem? hx
   rw [kOf_map] at hb
   refine ⟨_, rfl, r, rfl, ⟨_, SqL.of (s4 _ _ (s3 _ _ er2))⟩, for_list (K := K) (a := r) (xs := xs) (fun j σ H' => ∃ v5 v6 : Option V, σ = [some (.ref l), some (.bl tap), some (.ref d), some (.ref r), some (.ref b), v5, v6] ∧ Same H4 H')
     ⟨v5, v6, rfl, Same.refl _⟩ (fun j σ H' _ ⟨_, _, _, s5⟩ => SqL.of (s5 _ _ (s4 _ _ (s3 _ _ er2)))) ?_ fun σ H' ⟨v5, v6, e, s5⟩ => ⟨_, v5, v6, e, s4.trans s5⟩⟩
   rintro j v σ H5 hv ⟨v5, v6, rfl, s5⟩
   obtain ⟨c, hc, t, rfl, ht⟩ := L2.Paired.get pm2 hv
   rw [List.getElem?_map] at hc
   obtain ⟨m, hm, rfl⟩ := Option.map_eq_some_iff.mp hc
   have s35 := s3.trans (s4.trans s5)
   have hmm := List.mem_of_getElem? hm
   refine ⟨_, rfl, _, rfl, _, rfl, l, b, t, sz, x, m, tap, rfl, s35 _ _ hl2, s5 _ _ hb, s35 _ _ ht, hst _ hxm, J.mem_moves.mp hmm, h4, fun y H6 s6 e6 => ?_⟩
   have s36 := s35.trans s6
   obtain ⟨n', hn', hle⟩ := hcl _ hxm m hmm
   have g1 := dOf_get nd' hn'
   have g2 := dOf_get nd' hxm
   refine ⟨_, rfl, _, rfl, d, some (.int n'), rfl, .inr ⟨dOf L, kOf (J.behind sz x m), y, .inr ⟨o, s36 _ _ e2⟩, rfl, by rw [kOf_map]; exact e6, g1.symm⟩, _, rfl, iteF ?_⟩
   refine ⟨_, rfl, _, rfl, d, .int n', rfl, .inr ⟨dOf L, kOf (J.behind sz x m), y, .inr ⟨o, s36 _ _ e2⟩, rfl, by rw [kOf_map]; exact e6, g1.symm⟩, ?_⟩
   refine ⟨_, rfl, _, rfl, d, .int n, rfl, .inr ⟨dOf L, kOf x, b, .inr ⟨o, s36 _ _ e2⟩, rfl, by rw [kOf_map]; exact (s5.trans s6) _ _ hb, g2.symm⟩, _, _, rfl, rfl, _, _, rfl, rfl, _, rfl, ?_⟩
   rw [decide_eq_false (by have : n' ≤ n + 1 := hle; omega)]
   exact iteF ⟨_, _, rfl, s5.trans s6⟩
end
end Jug
namespace Jug
open PySem L2
theorem n_hp : ¬ (("heights" : Str) = "pours") := by decide +kernel
theorem anF_pours (a b : Addr) : (anF a b).lookup ("pours" : Str) = some (.ref a) := by
 unfold anF; rw [lP, if_neg (fun e => n_hp e.symm), lP, if_pos rfl]
theorem anF_heights (a b : Addr) : (anF a b).lookup ("heights" : Str) = some (.ref b) := by
 unfold anF; rw [lP, if_pos rfl]
theorem baF_among (r : Addr) : (baF r).lookup ("among" : Str) = some (.ref r) := by
 unfold baF; rw [lP, if_pos rfl]
theorem fold_st {sz st : List Int} {tap : Bool} (hs : ∀ i, i < sz.length → 0 ≤ J.at0 sz i) (hst : J.IsSt sz st) : ∀ (ms : List J.Mv), (∀ m ∈ ms, m.ok sz.length tap) → J.IsSt sz (ms.foldl (J.behind sz) st) := by
 intro ms
 induction ms generalizing st with
 | nil => intro _; exact hst
 | cons m ms ih => intro h; exact ih (hst.behind hs (h m List.mem_cons_self)) fun x hx => h x (List.mem_cons_of_mem _ hx)
def lw (W : List J.Way) (i : Nat) : List (List Int × Int) := (List.range i).map fun j => ((W.getD j ([], none)).1, ((J.h W j : Nat) : Int))
theorem dOf_lw (W : List J.Way) (i : Nat) : dOf (lw W i) = hs W i := by
 unfold dOf lw hs
 rw [List.map_map]
 rfl
theorem lw_keys (W : List J.Way) : (lw W W.length).map (·.1) = W.map (·.1) := by
 unfold lw
 rw [List.map_map]
 refine List.ext_getElem? fun j => ?_
 by_cases hj : j < W.length
 · simp [hj, List.getD_eq_getElem?_getD]
 · simp [hj]
theorem lw_mem {W : List J.Way} {x : List Int × Int} : x ∈ lw W W.length ↔ ∃ (j : Nat) (y : J.Way), W[j]? = some y ∧ x = (y.1, ((J.h W j : Nat) : Int)) := by
 unfold lw
 constructor
 · intro h
   obtain ⟨j, hj, e⟩ := List.mem_map.mp h
   have hj' := List.mem_range.mp hj
   exact ⟨j, W[j], List.getElem?_eq_getElem hj', by rw [← e, List.getD_eq_getElem?_getD, List.getElem?_eq_getElem hj']; rfl⟩
 · rintro ⟨j, y, hy, rfl⟩
   have hj := (List.getElem?_eq_some_iff.mp hy).1
   refine List.mem_map.mpr ⟨j, List.mem_range.mpr hj, ?_⟩
   rw [List.getD_eq_getElem?_getD, hy]
   rfl
theorem lw_closed {sz st : List Int} {tap : Bool} (hz : Hz sz) (hst : J.IsSt sz st) : ∀ x ∈ lw (J.ways sz (J.moves sz.length tap) st) (J.ways sz (J.moves sz.length tap) st).length, ∀ m ∈ J.moves sz.length tap, ∃ n', (J.behind sz x.1 m, n') ∈ lw (J.ways sz (J.moves sz.length tap) st) (J.ways sz (J.moves sz.length tap) st).length ∧ n' ≤ x.2 + 1 := by
 intro x hx m hm
 obtain ⟨j, y, hy, rfl⟩ := lw_mem.mp hx
 obtain ⟨i, z, hz', e, hle⟩ := J.h_step (J.ways_inv (J.good_moves (tap := tap) hz.nn) hst) hy hm
 exact ⟨_, lw_mem.mpr ⟨i, z, hz', by rw [← e]⟩, by show ((J.h _ i : Nat) : Int) ≤ ((J.h _ j : Nat) : Int) + 1; omega⟩
def l0 (W : List J.Way) (i : Nat) : List (List Int × Int) := (W.take i).map fun x => (x.1, 0)
theorem l0_keys (W : List J.Way) (i : Nat) : (l0 W i).map (·.1) = (W.map (·.1)).take i := by
 unfold l0
 rw [List.map_map, ← List.map_take]
 rfl
theorem l0_closed {sz st : List Int} {tap : Bool} (hz : Hz sz) (hst : J.IsSt sz st) : ∀ x ∈ l0 (J.ways sz (J.moves sz.length tap) st) (J.ways sz (J.moves sz.length tap) st).length, ∀ m ∈ J.moves sz.length tap, ∃ n', (J.behind sz x.1 m, n') ∈ l0 (J.ways sz (J.moves sz.length tap) st) (J.ways sz (J.moves sz.length tap) st).length ∧ n' ≤ x.2 + 1 := by
 intro x hx m hm
 unfold l0 at hx ⊢
 rw [List.take_length] at hx ⊢
 obtain ⟨y, hy, rfl⟩ := List.mem_map.mp hx
 obtain ⟨j, hj⟩ := List.mem_iff_getElem?.mp hy
 obtain ⟨i, z, hz', e, hle⟩ := J.h_step (J.ways_inv (J.good_moves (tap := tap) hz.nn) hst) hj hm
 exact ⟨0, List.mem_map.mpr ⟨z, List.mem_of_getElem? hz', by rw [← e]⟩, by show (0 : Int) ≤ 0 + 1; decide⟩
theorem rep_any (n : Nat) : (List.replicate n false).any id = false := by
 rw [List.any_eq_false]
 intro x hx
 rw [(List.mem_replicate.mp hx).2]; simp
theorem hs_at {W : List J.Way} {j : Nat} {kv : List Key × V} (h : (hs W W.length)[j]? = some kv) : ∃ y, W[j]? = some y ∧ kv = (kOf y.1, V.int (J.h W j : Nat)) := by
 have hj : j < W.length := by have := (List.getElem?_eq_some_iff.mp h).1; simpa [hs] using this
 refine ⟨W[j], List.getElem?_eq_getElem hj, ?_⟩
 unfold hs at h
 rw [List.getElem?_map, List.getElem?_range hj] at h
 cases h
 show (kOf (W.getD j ([], none)).1, V.int (J.h W j : Nat)) = _
 rw [List.getD_eq_getElem?_getD, List.getElem?_eq_getElem hj]
 rfl
section
variable {P : Program} {w : World} {K : PySem.W.Frag} {mg : Str → Option Value} {base : Heap} {CH CG CP CB : Addr} {Z : Cz} {G : Gz}
def sp_poured (Z : Cz) (CP : Addr) : Sp := fun vs H Q _ => ∃ (r l a t : Addr) (sz st : List Int) (tap : Bool) (g : Go) (i : Nat) (x : J.Way), vs = [.ref r, .ref l, .bl tap, .ref a, .ref t] ∧ H l = some (.lst (sz.map V.int)) ∧ Hz sz ∧ H a = some (.tup (st.map V.int)) ∧ J.IsSt sz st ∧ TG H t g ∧ GoW sz g ∧
 PouredAt CP Z H r (J.ways sz (J.moves sz.length tap) st) i ∧ (J.ways sz (J.moves sz.length tap) st)[i]? = some x ∧ g.met x.1 = true ∧ (∀ (j : Nat) (y : J.Way), j < i → (J.ways sz (J.moves sz.length tap) st)[j]? = some y → g.met y.1 = false) ∧ ∀ H', Q (.bl true) H'
theorem ok_poured {f : Addr} {fd : FuncData} (F : Fun K "_law_poured" "_law_poured" s__law_poured f fd) (B : Bt mg) (han : mg "any" = none) (C : CPd K CP) (TO : FnB P w K mg base 3 "_law_told" ["_law_move"] (sp_told Z))
   (AM : FnB P w K mg base 1 "_law_all_moves" ["_law_sizes_here", "_law_tap"] sp_all_moves) (BE : FnB P w K mg base 1 "_law_behind" ["_law_sizes_here", "_law_state_here", "_law_told_here"] sp_behind)
   (ME : FnB P w K mg base 1 "_law_met" ["_law_told_here", "_law_state_here"] sp_lmet) (CL : FnB P w K mg base 2 "_law_closed" ["_law_sizes_here", "_law_tap", "_law_heights"] sp_closed) :
   FnOk P w K mg base CX0 4 f fd ["_law_found", "_law_sizes_here", "_law_tap", "_law_state_here", "_law_goal_here"] (sp_poured Z CP) := by
 refine F.ok sc__law_poured (fun vs H Q E h => ?_) (fun cdv A outer s H vs Q E hr h => ?_)
 · obtain ⟨r, l, a, t, sz, st, tap, g, i, x, rfl, _⟩ := h
   rfl
 · obtain ⟨r, l, a, t, sz, st, tap, g, i, x, rfl, hl, hz, ha, hst, hg, gw, hP, hx, hm, hno, k⟩ := h
   have nd := sc__law_poured.nd
   have hr1 : Room 1 _ := hr.mono (by decide)
   have hu : _ + 1 < cLine := Nat.lt_of_le_of_lt (Nat.add_le_add_left (by decide : 1 ≤ 64) _) hr.units
   have hu20 := hr.u20
   refine ⟨_, sK (ps_if (PW.pt (pw_or (pt_not (pt_val (eZ (cI K) (by rfl) B.isinstance bI (pK (pe_fldK K (pv 0) rfl) (pK (pe_bltn (v := .ty "list") (by rfl) B.list bt_list rfl) pN)))))
       (pw_or1 (pt_not (pt_val (eZ (cI K) (by rfl) B.isinstance bI (pK (pe_fldK K (pv 0) rfl) (pK (pe_bltn (v := .ty "list") (by rfl) B.list bt_list rfl) pN)))))))) sV sN)
     (sK (sS (i := 5) nd rfl (Or.inr rfl) pe_dnewT)
     (pss_cut (ps_for PassesOwn.never rfl (pi_list (pe_fldK K (pv 0) rfl)) (pg_tup rfl (pgs_cons (pg_name (i := 6) nd rfl (Or.inl rfl)) (pgs_cons (pg_name (i := 7) nd rfl (Or.inl rfl)) pgs_nil)))
       (sK (ps_if (PW.pt (pw_or (pt_cmp (pc_din hu (pv 6) (pv 5)) rfl) (pw_or (pt_val (eZ (cI K) (by rfl) B.isinstance bI (pK (pv 7) (pK (pe_bltn (v := .ty "bool") (by rfl) B.bool bt_bool rfl) pN))))
         (pw_or (pt_not (pt_val (eZ (cI K) (by rfl) B.isinstance bI (pK (pv 7) (pK (pe_bltn (v := .ty "int") (by rfl) B.int bt_int rfl) pN))))) (pw_or1 (pt_cmpR op_lt (pv 7) eI (nomark _))))))) sV sN)
       (s1' (ps_dput hu (pv 5) (pv 6) (pv 7) rfl))))
     (sK (sS (i := 8) nd rfl (Or.inl rfl) (pv 3))
     (pss_cut (ps_for PassesOwn.never rfl (pi_list (pe_fldK K (pv 0) rfl)) (pg_name (i := 9) nd rfl (Or.inl rfl))
       (sK (sS (i := 10) nd rfl (Or.inl rfl) (eF TO hr (pK (pv 9) pN)))
       (sK (ps_if (pt_cmpR (op_notInD hu20) (pv 10) (eF AM hr1 (pK (pv 1) (pK (pv 2) pN))) (by rfl)) sV sN)
       (s1' (sS (i := 8) nd rfl (Or.inl rfl) (eF BE hr1 (pK (pv 1) (pK (pv 8) (pK (pv 10) pN)))))))))
     (sK (ps_if (PW.pt (pw_or (pt_not (pt_val (eF ME hr1 (pK (pv 4) (pK (pv 8) pN))))) (pw_or (pt_cmp (pc_dnotin hu (pv 3) (pv 5)) rfl) (pw_or1 (pt_cmpR op_ne (pe_dget hu (pv 5) (pv 3) (fun _ _ => rfl)) eI (nomark _)))))) sV sN)
     (sK (ps_if (pt_val (eZ (call_any rfl) (by rfl) han bt_any (pK (pe_lc sc__law_poured [0, 4, 5] (pi_dtR (pv 5)) (fun _ _ _ _ _ _ => ⟨pif_nil, pe_and (eF ME hr1 (pK (pv 2) (pK (pv 0) pN)))
         (pe_one (pe_cmpR op_lt (pe_dget hu (pv 3) (pv 0) (fun _ _ => rfl)) (eZ (call_lenK K) (by rfl) B.len PySem.boot_len (pK (pe_fldK K (pv 1) rfl) pN)) (nomark _)))⟩)) pN))) sV sN)
     (s1' (sR (eF CL (hr.mono (by decide)) (pK (pv 1) (pK (pv 2) (pK (pv 5) pN)))))))))))), ?_⟩
   obtain ⟨dx, pa, pb, xs, ys, hp, hpa, pm, hpb, ht⟩ := hP
   have hgd := J.good_moves (tap := tap) hz.nn
   have wi := J.ways_inv hgd hst
   have wl : (J.ways sz (J.moves sz.length tap) st).length ≤ 2000 := by
     have := J.run_le hgd hst (J.states sz).length
     have := hz.states_le
     unfold J.ways
     omega
   have h4 := hz.l4
   obtain ⟨bk1, bk2, bk3⟩ := J.back_ok wi (i + 1) i x (by omega) hx
   have hmono := J.h_mono wi
   generalize eW : J.ways sz (J.moves sz.length tap) st = W at *
   have okm : ∀ m ∈ (J.back W (i + 1) i).reverse, m.ok sz.length tap := fun m h => J.mem_moves.mp (bk3 m (List.mem_reverse.mp h))
   have lms : (J.back W (i + 1) i).reverse.length = J.h W i := by rw [List.length_reverse, bk1]
   generalize (J.back W (i + 1) i).reverse = ms at *
   refine ⟨_, rfl, r, CP, dx, _, _, rfl, hp, C.cl, C.pours, anF_pours _ _, _, _, _, _, _, rfl, .ty "list", .lst hpa, kit_ll, _, rfl, iteF ?_⟩
   refine ⟨_, rfl, r, CP, dx, _, _, rfl, hp, C.cl, C.heights, anF_heights _ _, _, _, _, _, _, rfl, .ty "list", .lst hpb, kit_ll, _, rfl, iteF ?_⟩
   intro he nhe
   have s1 : Same H (upd H he (.dT [])) := Same.new nhe
   refine ⟨fun σ H' => ∃ v6 v7, σ = [some (.ref r), some (.ref l), some (.bl tap), some (.ref a), some (.ref t), some (.ref he), v6, v7, none, none, none] ∧ Same H H' ∧ H' he = some (.dT (hs W W.length)), ?_, ?_⟩
   · refine ⟨_, rfl, r, CP, dx, _, _, rfl, s1 _ _ hp, C.cl, C.heights, anF_heights _ _, pb, rfl, ⟨_, SqL.of (s1 _ _ hpb)⟩, for_list (K := K) (a := pb) (xs := ys) (fun j σ H' => ∃ v6 v7, σ = [some (.ref r), some (.ref l), some (.bl tap), some (.ref a), some (.ref t), some (.ref he), v6, v7, none, none, none] ∧ Same H H' ∧ H' he = some (.dT (hs W j)))
       ⟨none, none, rfl, s1, uS⟩ (fun j σ H' _ ⟨_, _, _, s2, _⟩ => SqL.of (s2 _ _ hpb)) ?_ fun σ H' ⟨v6, v7, e, s2, e2⟩ => ⟨v6, v7, e, s2, ?_⟩⟩
     · rintro j v σ H' hv ⟨v6, v7, rfl, s2, e2⟩
       obtain ⟨kv, hkv, tt, b, rfl, h1, h2⟩ := L2.Paired.get ht hv
       obtain ⟨y, hy, rfl⟩ := hs_at hkv
       have hjl := (List.getElem?_eq_some_iff.mp hy).1
       have lh : (hs W j).length = j := by simp [hs]
       refine ⟨tt, _, rfl, SqT.of (s2 _ _ h1), rfl, _, _, rfl, _, _, rfl, rfl, ?_⟩
       refine ⟨_, rfl, _, rfl, he, none, rfl, .inr ⟨hs W j, kOf y.1, b, .inl e2, rfl, s2 _ _ h2, (hs_out wi.nd hy).symm⟩, _, rfl, iteF ?_⟩
       refine ⟨_, rfl, _, _, _, _, _, rfl, .ty "bool", .int _, kit_ib, _, rfl, iteF ?_⟩
       refine ⟨_, rfl, _, _, _, _, _, rfl, .ty "int", .int _, kit_ii, _, rfl, iteF ?_⟩
       refine ⟨_, rfl, _, _, rfl, rfl, _, rfl, ?_⟩
       rw [decide_eq_false (by omega)]
       refine iteF ?_
       refine ⟨_, rfl, _, rfl, _, rfl, he, _, rfl, DPut.t (k := kOf y.1) e2 (s2 _ _ h2) (by rw [sizeLine_eq]; omega), ?_⟩
       refine ⟨_, _, rfl, s2.put nhe, ?_⟩
       rw [uS, putK_new _ (hs_out wi.nd hy), hs_succ hy]
     · have := Paired.length ht
       simp [hs] at this
       rw [this] at e2
       exact e2
   rintro _ H2 ⟨v6, v7, rfl, s2, e2⟩
   refine ⟨_, rfl, ?_⟩
   refine ⟨fun σ H' => ∃ v9 v10 nw, σ = [some (.ref r), some (.ref l), some (.bl tap), some (.ref a), some (.ref t), some (.ref he), v6, v7, some (.ref nw), v9, v10] ∧ Same H2 H' ∧ H' nw = some (.tup (x.1.map V.int)), ?_, ?_⟩
   · refine ⟨_, rfl, r, CP, dx, _, _, rfl, s2 _ _ hp, C.cl, C.pours, anF_pours _ _, pa, rfl, ⟨_, SqL.of (s2 _ _ hpa)⟩, for_list (K := K) (a := pa) (xs := xs) (fun j σ H' => ∃ v9 v10 nw, σ = [some (.ref r), some (.ref l), some (.bl tap), some (.ref a), some (.ref t), some (.ref he), v6, v7, some (.ref nw), v9, v10] ∧ Same H2 H' ∧ H' nw = some (.tup (((ms.take j).foldl (J.behind sz) st).map V.int)))
       ⟨none, none, a, rfl, Same.refl _, s2 _ _ ha⟩ (fun j σ H' _ ⟨_, _, _, _, s3, _⟩ => SqL.of (s3 _ _ (s2 _ _ hpa))) ?_ fun σ H' ⟨v9, v10, nw, e, s3, e3⟩ => ⟨v9, v10, nw, e, s3, ?_⟩⟩
     · rintro j v σ H' hv ⟨v9, v10, nw, rfl, s3, e3⟩
       obtain ⟨m, hmj, p, rfl, hmv⟩ := L2.Paired.get pm hv
       have s03 := s2.trans s3
       have hmm := List.mem_of_getElem? hmj
       have mok := okm m hmm
       refine ⟨_, rfl, p, m, rfl, hmv.mono s03, sm_of mok h4, fun tt H4 s4 e4 => ?_⟩
       have s04 := s03.trans s4
       refine ⟨_, rfl, _, rfl, _, rfl, l, sz, tap, rfl, s04 _ _ hl, h4, fun q H5 qs s5 nq eq pq => ?_⟩
       have s05 := s04.trans s5
       refine ⟨List Int, inferInstance, isT K H5 isI, q, qs, _, mvT m, rfl, EqR.tup (d := 18) EqR.int, .inl (SqL.of eq), toTs pq, ⟨tt, _, rfl, SqT.of (s5 _ _ e4), pI _⟩, _, rfl, ?_⟩
       have hin : mvT m ∈ (J.moves sz.length tap).map mvT := List.mem_map.mpr ⟨m, J.mem_moves.mpr mok, rfl⟩
       have hdc : ∀ I : Decidable (mvT m ∈ (J.moves sz.length tap).map mvT), @decide _ I = true := fun I => @decide_eq_true _ I hin
       rw [if_pos rfl, hdc]
       refine iteF ?_
       refine ⟨_, rfl, _, rfl, _, rfl, l, nw, tt, sz, _, m, tap, rfl, s05 _ _ hl, (s4.trans s5) _ _ e3, s5 _ _ e4, fold_st hz.nn hst _ (fun z hz' => okm z (List.mem_of_mem_take hz')), mok, h4, fun y H6 s6 e6 => ?_⟩
       refine ⟨_, _, y, rfl, ((s3.trans s4).trans s5).trans s6, ?_⟩
       rw [e6, List.take_add_one, hmj, List.foldl_append]
       rfl
     · have := Paired.length pm
       rw [this, List.take_length, bk2] at e3
       exact e3
   rintro _ H3 ⟨v9, v10, nw, rfl, s3, e3⟩
   have s03 := s2.trans s3
   have xst : J.IsSt sz x.1 := wi.sts x (List.mem_of_getElem? hx)
   refine ⟨_, rfl, _, rfl, t, nw, sz, x.1, g, rfl, hg.mono s03, gw, h4, e3, xst, fun H4 s4 => ⟨_, rfl, ?_⟩⟩
   rw [hm]
   refine iteF ?_
   have s04 := s03.trans s4
   have e4 : H4 he = some (.dT (hs W W.length)) := (s3.trans s4) _ _ e2
   have w0 : 0 < W.length := (List.getElem?_eq_some_iff.mp wi.hd).1
   have g0 : valV (hs W W.length) (kOf st) = some (.int 0) := by
     have := hs_get wi.nd (Nat.le_refl _) w0 wi.hd
     rw [J.h_none wi.hd] at this
     exact this
   refine ⟨_, rfl, _, rfl, he, _, rfl, .inr ⟨_, kOf st, a, .inl e4, rfl, by rw [kOf_map]; exact s04 _ _ ha, g0.symm⟩, _, rfl, iteF ?_⟩
   refine ⟨_, rfl, _, rfl, he, _, rfl, .inr ⟨_, kOf st, a, .inl e4, rfl, by rw [kOf_map]; exact s04 _ _ ha, g0.symm⟩, rfl, _, rfl, ?_⟩
   rw [decV, decide_eq_true rfl]
   refine iteF ?_
   refine ⟨_, rfl, he, _, rfl, .inl e4, fun o H5 s5 e5 => ?_⟩
   have s05 : Same H H5 := fun c u e => s5 c u (s04 _ _ e) (nN e nhe)
   have lh : (hs W W.length).length = W.length := by simp [hs]
   refine lc_dt (fun n ys H' => ys = (List.replicate n false).map V.bl ∧ Same H5 H') ⟨rfl, Same.refl _⟩ (by rw [lh, sizeLine_eq]; omega) (fun n ys H' ⟨e, _⟩ => by rw [e]; simp) (fun n ys H' _ ⟨_, s6⟩ => s6 _ _ e5) ?_ ?_
   · rintro n k' v b ys H' hk hb ⟨e1, s6⟩
     obtain ⟨y, hy, ekv⟩ := hs_at hk
     cases ekv
     subst e1
     have s06 := s05.trans s6
     refine tYes_of ⟨_, rfl, _, rfl, t, b, sz, y.1, g, rfl, hg.mono s06, gw, h4, by rw [hb, kOf_map], wi.sts y (List.mem_of_getElem? hy), fun H7 s7 => ⟨_, rfl, ?_⟩⟩
     have rep : (List.replicate n false).map V.bl ++ [V.bl false] = (List.replicate (n + 1) false).map V.bl := by rw [List.replicate_succ', List.map_append]; rfl
     cases em : g.met y.1 with
     | false => exact iteF ⟨rep, s6.trans s7⟩
     | true =>
       have s07 := s06.trans s7
       have hni : i ≤ n := Nat.le_of_not_lt fun h => by have := hno n y h hy; rw [em] at this; cases this
       have hnl := (List.getElem?_eq_some_iff.mp hy).1
       have hh := hmono n i hni hnl
       refine iteT ⟨_, rfl, _, rfl, he, _, rfl, .inr ⟨_, kOf y.1, b, .inr ⟨o, s7 _ _ (s6 _ _ e5)⟩, rfl, s7 _ _ hb, (hs_get wi.nd (Nat.le_refl _) hnl hy).symm⟩, _, rfl, r, CP, dx, _, _, rfl, s07 _ _ hp, C.cl, C.pours, anF_pours _ _, pa, _, rfl, .inl (SqL.of (s07 _ _ hpa)), _, _, rfl, rfl, ?_⟩
       have lx := Paired.length pm
       have dl : decide (((J.h W n : Nat) : Int) < ((xs.length : Nat) : Int)) = false := decide_eq_false (by omega)
       refine ⟨?_, s6.trans s7⟩
       show (List.replicate n false).map V.bl ++ [V.bl (decide (((J.h W n : Nat) : Int) < ((xs.length : Nat) : Int)))] = _
       rw [dl]
       exact rep
   rintro ys' H6 ⟨rfl, s6⟩ D nD
   refine ⟨D, _, rfl, SqL.of uS, _, rfl, ?_⟩
   rw [rep_any]
   refine iteF ?_
   have s7 := s6.lay (o := .lst ((List.replicate (hs W W.length).length false).map V.bl)) nD
   refine ⟨_, rfl, _, rfl, _, rfl, l, he, sz, tap, lw W W.length, rfl, s7 _ _ (s05 _ _ hl), hz, .inr ⟨o, by rw [dOf_lw]; exact s7 _ _ e5⟩, by rw [lw_keys]; exact wi.nd, by simp [lw]; exact wl, fun z hz' => ?_, ?_, k⟩
   · obtain ⟨j, y, hy, rfl⟩ := lw_mem.mp hz'
     exact wi.sts y (List.mem_of_getElem? hy)
   · have := lw_closed (tap := tap) hz hst
     rw [eW] at this
     exact this
def sp_barred (CB : Addr) : Sp := fun vs H Q _ => ∃ (r l a t : Addr) (sz st : List Int) (tap : Bool) (g : Go), vs = [.ref r, .ref l, .bl tap, .ref a, .ref t] ∧ H l = some (.lst (sz.map V.int)) ∧ Hz sz ∧ H a = some (.tup (st.map V.int)) ∧ J.IsSt sz st ∧ TG H t g ∧ GoW sz g ∧
 BarredAt CB H r (J.ways sz (J.moves sz.length tap) st) ∧ (∀ x ∈ J.ways sz (J.moves sz.length tap) st, g.met x.1 = false) ∧ ∀ H', Q (.bl true) H'
theorem ok_barred {f : Addr} {fd : FuncData} (F : Fun K "_law_barred" "_law_barred" s__law_barred f fd) (B : Bt mg) (C : CBa K CB)
   (ME : FnB P w K mg base 1 "_law_met" ["_law_told_here", "_law_state_here"] sp_lmet) (CL : FnB P w K mg base 2 "_law_closed" ["_law_sizes_here", "_law_tap", "_law_heights"] sp_closed) :
   FnOk P w K mg base CX0 4 f fd ["_law_found", "_law_sizes_here", "_law_tap", "_law_state_here", "_law_goal_here"] (sp_barred CB) := by
 refine F.ok sc__law_barred (fun vs H Q E h => ?_) (fun cdv A outer s H vs Q E hr h => ?_)
 · obtain ⟨r, l, a, t, sz, st, tap, g, rfl, _⟩ := h
   rfl
 · obtain ⟨r, l, a, t, sz, st, tap, g, rfl, hl, hz, ha, hst, hg, gw, hB, hno, k⟩ := h
   have nd := sc__law_barred.nd
   have hr1 : Room 1 _ := hr.mono (by decide)
   have hu : _ + 1 < cLine := Nat.lt_of_le_of_lt (Nat.add_le_add_left (by decide : 1 ≤ 64) _) hr.units
   refine ⟨_, sK (ps_if (pt_not (pt_val (eZ (cI K) (by rfl) B.isinstance bI (pK (pe_fldK K (pv 0) rfl) (pK (pe_bltn (v := .ty "list") (by rfl) B.list bt_list rfl) pN))))) sV sN)
     (sK (sS (i := 5) nd rfl (Or.inl rfl) pe_dnewT)
     (sK (ps_for PassesOwn.never rfl (pi_list (pe_fldK K (pv 0) rfl)) (pg_name (i := 6) nd rfl (Or.inl rfl))
       (sK (ps_if (PW.pt (pw_or (pt_cmp (pc_din hu (pv 6) (pv 5)) rfl) (pw_or1 (pt_val (eF ME hr1 (pK (pv 4) (pK (pv 6) pN))))))) sV sN)
       (s1' (ps_dput hu (pv 5) (pv 6) eI rfl))))
     (s1' (sR (pe_and (pe_cmp (pc_din hu (pv 3) (pv 5)) rfl) (pe_one (eF CL (hr.mono (by decide)) (pK (pv 1) (pK (pv 2) (pK (pv 5) pN)))))))))), ?_⟩
   obtain ⟨dx, pa, xs, hp, hpa, pm⟩ := hB
   have hgd := J.good_moves (tap := tap) hz.nn
   have wi := J.ways_inv hgd hst
   have wl : (J.ways sz (J.moves sz.length tap) st).length ≤ 2000 := by
     have := J.run_le hgd hst (J.states sz).length
     have := hz.states_le
     unfold J.ways
     omega
   have h4 := hz.l4
   have lcl := l0_closed (tap := tap) hz hst
   generalize J.ways sz (J.moves sz.length tap) st = W at *
   have lx : xs.length = W.length := by have := Paired.length pm; simpa using this
   refine ⟨_, rfl, r, CB, dx, _, _, rfl, hp, C.cl, C.among, baF_among _, _, _, _, _, _, rfl, .ty "list", .lst hpa, kit_ll, _, rfl, iteF ?_⟩
   intro he nhe
   have s1 : Same H (upd H he (.dT [])) := Same.new nhe
   refine ⟨_, rfl, r, CB, dx, _, _, rfl, s1 _ _ hp, C.cl, C.among, baF_among _, pa, rfl, ⟨_, SqL.of (s1 _ _ hpa)⟩, for_list (K := K) (a := pa) (xs := xs) (fun j σ H' => ∃ v6, σ = [some (.ref r), some (.ref l), some (.bl tap), some (.ref a), some (.ref t), some (.ref he), v6] ∧ Same H H' ∧ H' he = some (.dT (dOf (l0 W j))))
       ⟨none, rfl, s1, uS⟩ (fun j σ H' _ ⟨_, _, s2, _⟩ => SqL.of (s2 _ _ hpa)) ?_ ?_⟩
   · rintro j v σ H' hv ⟨v6, rfl, s2, e2⟩
     obtain ⟨z, hz', b, rfl, hb⟩ := L2.Paired.get pm hv
     rw [List.getElem?_map] at hz'
     obtain ⟨y, hy, rfl⟩ := Option.map_eq_some_iff.mp hz'
     have hjl := (List.getElem?_eq_some_iff.mp hy).1
     have hout : y.1 ∉ (l0 W j).map (·.1) := by
       rw [l0_keys]
       intro hk
       obtain ⟨q, hq⟩ := List.mem_iff_getElem?.mp hk
       have hqj : q < j := by have := (List.getElem?_eq_some_iff.mp hq).1; rw [List.length_take] at this; omega
       rw [List.getElem?_take_of_lt hqj] at hq
       have h2 : (W.map (·.1))[j]? = some y.1 := by rw [List.getElem?_map, hy]; rfl
       have := (List.getElem?_inj (i := q) (j := j) (by simp; omega) wi.nd).mp (by rw [hq, h2])
       omega
     have no := dOf_out hout
     have lh : (dOf (l0 W j)).length ≤ j := by simp [dOf, l0]; omega
     refine ⟨_, rfl, _, rfl, he, none, rfl, .inr ⟨_, kOf y.1, b, .inl e2, rfl, by rw [kOf_map]; exact s2 _ _ hb, no.symm⟩, _, rfl, iteF ?_⟩
     refine ⟨_, rfl, _, rfl, t, b, sz, y.1, g, rfl, hg.mono s2, gw, h4, s2 _ _ hb, wi.sts y (List.mem_of_getElem? hy), fun H3 s3 => ⟨_, rfl, ?_⟩⟩
     rw [hno y (List.mem_of_getElem? hy)]
     refine iteF ?_
     refine ⟨_, rfl, _, rfl, he, _, rfl, DPut.t (k := kOf y.1) (s3 _ _ e2) (by rw [kOf_map]; exact s3 _ _ (s2 _ _ hb)) (by rw [sizeLine_eq]; omega), ?_⟩
     refine ⟨_, rfl, (s2.trans s3).put nhe, ?_⟩
     rw [uS, putK_new _ no]
     have : l0 W (j + 1) = l0 W j ++ [(y.1, 0)] := by unfold l0; rw [List.take_add_one, hy, List.map_append]; rfl
     rw [this]
     unfold dOf
     rw [List.map_append]
     rfl
   · rintro σ H' ⟨v6, rfl, s2, e2⟩
     rw [lx] at e2
     have keys : (l0 W W.length).map (·.1) = W.map (·.1) := by rw [l0_keys, List.take_of_length_le (by simp)]
     have ndk : ((l0 W W.length).map (·.1)).Nodup := by rw [keys]; exact wi.nd
     have hin : (st, 0) ∈ l0 W W.length := by unfold l0; rw [List.take_length]; exact List.mem_map.mpr ⟨_, List.mem_of_getElem? wi.hd, rfl⟩
     refine ⟨_, rfl, _, rfl, he, _, rfl, .inr ⟨_, kOf st, a, .inl e2, rfl, by rw [kOf_map]; exact s2 _ _ ha, (dOf_get ndk hin).symm⟩, _, rfl, iteT ?_⟩
     refine ⟨_, rfl, _, rfl, _, rfl, l, he, sz, tap, l0 W W.length, rfl, s2 _ _ hl, hz, .inl e2, ndk, by simp [l0]; exact wl, fun z hz' => ?_, lcl, k⟩
     unfold l0 at hz'
     rw [List.take_length] at hz'
     obtain ⟨y, hy, rfl⟩ := List.mem_map.mp hz'
     exact wi.sts y hy
end
end Jug
namespace Jug
open PySem L2
theorem rc_pair {X : Cx} {H : Hp} {l m a1 a2 b1 b2 : Addr} (hl : SqL X.K H l [.ref a1, .ref a2]) (hm : SqL X.K H m [.ref b1, .ref b2]) (n1 : a1 ≠ b1) (n2 : a2 ≠ b2) (h1 : RcD X H 19 (.ref a1) (.ref b1) true) (h2 : RcD X H 19 (.ref a2) (.ref b2) true) : RcD X H 20 (.ref l) (.ref m) true := by
 intro A s pins σ u v I hu ru rv
 cases ru; cases rv
 obtain ⟨its, r1, t1, _⟩ := I.list hl
 obtain ⟨jts, r2, t2, _⟩ := I.list hm
 obtain ⟨x1, x2, rfl, y1, y2⟩ := vals2 r1
 obtain ⟨z1, z2, rfl, w1, w2⟩ := vals2 r2
 cases y1; cases y2; cases w1; cases w2
 have hu1 : A.units < cLine := by omega
 have hu2 : A.in1.units + 19 < cLine := by show A.units + 1 + 19 < cLine; omega
 have hE : ∀ j (g1 : j < [Value.ref a1, Value.ref a2].toArray.size) (g2 : j < [Value.ref b1, Value.ref b2].toArray.size), SeqAt.EqAt A.in1 s [Value.ref a1, Value.ref a2].toArray[j] [Value.ref b1, Value.ref b2].toArray[j] ((fun _ => true) j) := fun j g1 g2 => by
   match j, g1 with
   | 0, _ => exact SeqAt.EqAt.of_refs n1 (h1 A.in1 s pins σ _ _ I hu2 rfl rfl).1
   | 1, _ => exact SeqAt.EqAt.of_refs n2 (h2 A.in1 s pins σ _ _ I hu2 rfl rfl).1
 have z1 := SeqAt.RcAt.lists (A := A) (s := s) t1.isList t2.isList rfl hu1 hE
 have z2 := SeqAt.RcNeAt.lists (A := A) (s := s) t1.isList t2.isList rfl hu1 hE
 have hb : (List.range [Value.ref a1, Value.ref a2].toArray.size).all (fun _ => true) = true := by simp
 rw [hb] at z1 z2
 exact ⟨z1, z2⟩
theorem refs_of {F : V → Prop} (h : ∀ v, F v → ∃ a, v = V.ref a) : ∀ {xs : List V}, (∀ x ∈ xs, F x) → ∃ ps : List Addr, xs = ps.map V.ref
 | [], _ => ⟨[], rfl⟩
 | x :: xs, g => by
   obtain ⟨a, rfl⟩ := h x (g x List.mem_cons_self)
   obtain ⟨ps, rfl⟩ := refs_of h fun y hy => g y (List.mem_cons_of_mem _ hy)
   exact ⟨a :: ps, rfl⟩
theorem paired_refs {β : Type} {F : V → β → Prop} (h : ∀ v b, F v b → ∃ a, v = V.ref a) {xs : List V} {bs : List β} (p : Paired F xs bs) : ∃ ps : List Addr, xs = ps.map V.ref :=
 refs_of (F := fun v => ∃ b, F v b) (fun v ⟨b, e⟩ => h v b e) fun x hx => by
   obtain ⟨j, hj⟩ := List.mem_iff_getElem?.mp hx
   obtain ⟨b, _, e⟩ := L2.Paired.get p hj
   exact ⟨b, e⟩
theorem back_le (W : List J.Way) : ∀ f i, (J.back W f i).length ≤ f
 | 0, _ => Nat.le_refl _
 | f + 1, i => by
   unfold J.back
   split
   · have := back_le W f
     rename_i q m _
     have := this q
     simp only [List.length_cons]
     omega
   · simp
theorem hz5556 : Hz [5, 5, 5, 6] := ⟨by decide, by decide, by decide, by decide⟩
structure AnC (K : PySem.W.Frag) (mg : Str → Option Value) (CP CB CA : Addr) : Prop where
 kP : CPd K CP
 kB : CBa K CB
 tP : CTy K CP
 tB : CTy K CB
 gP : mg "Poured" = some (.ref CP)
 gB : mg "Barred" = some (.ref CB)
 gA : mg "Answer" = some (.ref CA)
 kPB : PySem.W.kitOne K (.ref CP) (.ref CB) = some false
 kBP : PySem.W.kitOne K (.ref CB) (.ref CP) = some false
 kPA : PySem.W.kitOne K (.ref CP) (.ref CA) = some true
 kBA : PySem.W.kitOne K (.ref CB) (.ref CA) = some true
section
variable {P : Program} {w : World} {K : PySem.W.Frag} {mg : Str → Option Value} {base : Heap} {CH CG CP CB CAn : Addr} {Z : Cz} {G : Gz}
def spLaw (K : PySem.W.Frag) : Sp := fun vs H Q _ => ∃ (a : Addr) (ns : List Int), vs = [.ref a] ∧ SqL K H a (ns.map V.int) ∧ ns.length ≤ 63 ∧ ∀ H', Q (.bl true) H'
theorem ok_law5 {f : Addr} {fd : FuncData} (F : Fun K "law" "law" s_law f fd) (B : Bt mg) (N : AnC K mg CP CB CAn)
   (D : FnB P w K mg base 1 "_law_draw" ["_law_cell", "_law_k", "_law_many"] sp_draw) (CA : FnB P w K mg base 1 "_law_cell_at" ["_law_script", "_law_k"] (sp_cell_at K))
   (LZ : FnB P w K mg base 2 "_law_sizes" ["_law_cell"] sp_law_sizes) (LS : FnB P w K mg base 2 "_law_state" ["_law_cell", "_law_sizes_here"] sp_law_state)
   (AM : FnB P w K mg base 1 "_law_all_moves" ["_law_sizes_here", "_law_tap"] sp_all_moves) (BE : FnB P w K mg base 1 "_law_behind" ["_law_sizes_here", "_law_state_here", "_law_told_here"] sp_behind)
   (GO : FnB P w K mg base 2 "_law_goal" ["_law_cell", "_law_sizes_here", "_law_state_here"] sp_goal) (MD : FnB P w K mg base 7 "_law_made" ["_law_told_here"] (sp_lmade G))
   (PO : FnB P w K mg base 4 "_law_poured" ["_law_found", "_law_sizes_here", "_law_tap", "_law_state_here", "_law_goal_here"] (sp_poured Z CP)) (BA : FnB P w K mg base 4 "_law_barred" ["_law_found", "_law_sizes_here", "_law_tap", "_law_state_here", "_law_goal_here"] (sp_barred CB))
   (MH : MkB P w K mg base 3 "House" CH ["self", "sizes", "tap"] (sp_House_init CH)) (FW : FnB P w K mg base 9 "fewest" ["house", "state", "goal"] (sp_fewest Z G CH CP CB))
   (MP : MkB P w K mg base 1 "Poured" CP ["self", "pours", "heights"] (sp_Poured_init CP)) (MB : MkB P w K mg base 1 "Barred" CB ["self", "among"] (sp_Barred_init CB)) :
   FnOk P w K mg base CX0 10 f fd ["_law_script"] (spLaw K) := by
 refine F.ok sc_law (fun vs H Q E h => ?_) (fun cdv A outer s H vs Q E hr h => ?_)
 · obtain ⟨a, ns, rfl, _⟩ := h
   rfl
 · obtain ⟨sc, ns, rfl, hS, hlen, k⟩ := h
   have nd := sc_law.nd
   have hu := hr.u20
   have h1 : Room 1 _ := hr.mono (by decide)
   have h2 : Room 2 _ := hr.mono (by decide)
   refine ⟨_, sK (sS (i := 1) nd rfl (Or.inl rfl) (eF LZ h2 (pK (eF CA h1 (pK (pv 0) (pK eI pN))) pN)))
     (sK (sS (i := 2) nd rfl (Or.inl rfl) (pe_cmpR op_eq (eF D h1 (pK (eF CA h1 (pK (pv 0) (pK eI pN))) (pK eI (pK eI pN)))) eI (nomark _)))
     (pss_cut (ps_if (pt_cmpR op_eq (eF D h1 (pK (eF CA h1 (pK (pv 0) (pK eI pN))) (pK eI (pK eI pN)))) eI (nomark _))
       (s1' (ps_par (i := 1) (j := 2) rfl nd rfl rfl (by decide) rfl rfl (pK (pe_lst (pK eI (pK eI (pK eI (pK eI pN))))) (pK pe_bl pN)) rfl)) sN)
     (sK (sS (i := 3) nd rfl (Or.inl rfl) (pe_mk MH (hr.mono (by decide)) (pK (pv 1) (pK (pv 2) pN))))
     (sK (sS (i := 4) nd rfl (Or.inl rfl) (eF LS h2 (pK (eF CA h1 (pK (pv 0) (pK eI pN))) (pK (pv 1) pN))))
     (sK (sS (i := 5) nd rfl (Or.inl rfl) (pv 4))
     (pss_cut (ps_for PassesOwn.never rfl (pi_range1 (by rfl) B.range (pK (eF D h1 (pK (eF CA h1 (pK (pv 0) (pK eI pN))) (pK eI (pK eI pN)))) pN)) (pg_name (i := 6) nd rfl (Or.inl rfl))
       (sK (sS (i := 7) nd rfl (Or.inl rfl) (eF AM h1 (pK (pv 1) (pK (pv 2) pN))))
       (s1' (ps_if (pt_cmpR (op_neD hu) (pv 7) (pe_lst pN) (nomark _))
         (s1' (sS (i := 5) nd rfl (Or.inl rfl) (eF BE h1 (pK (pv 1) (pK (pv 5) (pK (pe_ix (ix_listK K) (pv 7) (eF D h1 (pK (eF CA h1 (pK (pv 0) (pK (pe_op op_add eI (pv 6)) pN))) (pK eI (pK (eZ (call_lenK K) (by rfl) B.len PySem.boot_len (pK (pv 7) pN)) pN)))) (fun _ _ => rfl)) pN)))))) sN))))
     (pss_cut (ps_if (pt_cmpR op_eq (eF D h1 (pK (eF CA h1 (pK (pv 0) (pK eI pN))) (pK eI (pK eI pN)))) eI (nomark _))
       (s1' (sS (i := 5) nd rfl (Or.inl rfl) (eF LS h2 (pK (eF CA h1 (pK (pv 0) (pK eI pN))) (pK (pv 1) pN))))) sN)
     (sK (sS (i := 8) nd rfl (Or.inl rfl) (eF GO h2 (pK (eF CA h1 (pK (pv 0) (pK eI pN))) (pK (pv 1) (pK (pv 5) pN)))))
     (pss_cut (sS (i := 9) nd rfl (Or.inl rfl) (eF FW hr (pK (pv 3) (pK (pv 4) (pK (eF MD (hr.mono (by decide)) (pK (pv 8) pN)) pN)))))
     (pss_cut (ps_if (pt_val (eZ (cI K) (by rfl) B.isinstance bI (pK (pv 9) (pK (pe_glob (v := .ref CP) (by rfl) N.gP rfl) pN))))
       (sK (sS (i := 10) nd rfl (Or.inl rfl) (pe_lst (pK (eT cL (by rfl) B.list bt_list (pK (pe_fldK K (pv 9) rfl) pN)) (pK (eT cL (by rfl) B.list bt_list (pK (pe_fldK K (pv 9) rfl) pN)) pN))))
       (sK (sS (i := 11) nd rfl (Or.inl rfl) (pe_mk MP h2 (pK (pe_fldK K (pv 9) rfl) (pK (pe_fldK K (pv 9) rfl) pN))))
       (sK (ps_expr (pe_append (pe_fldK K (pv 9) rfl) eI))
       (sK (ps_expr (pe_clear (pe_fldK K (pv 9) rfl)))
       (s1' (ps_if (pt_cmpR (op_neD hu) (pe_lst (pK (pe_fldK K (pv 11) rfl) (pK (pe_fldK K (pv 11) rfl) pN))) (pv 10) (nomark _)) sV sN))))))
       (s1' (ps_if (pt_val (eZ (cI K) (by rfl) B.isinstance bI (pK (pv 9) (pK (pe_glob (v := .ref CB) (by rfl) N.gB rfl) pN))))
         (sK (sS (i := 10) nd rfl (Or.inl rfl) (eT cL (by rfl) B.list bt_list (pK (pe_fldK K (pv 9) rfl) pN)))
         (sK (sS (i := 11) nd rfl (Or.inl rfl) (pe_mk MB h2 (pK (pe_fldK K (pv 9) rfl) pN)))
         (sK (ps_expr (pe_clear (pe_fldK K (pv 9) rfl)))
         (s1' (ps_if (pt_cmpR (op_neD hu) (pe_fldK K (pv 11) rfl) (pv 10) (nomark _)) sV sN))))) sN)))
     (pss_cut (sS (i := 9) nd rfl (Or.inl rfl) (eF FW hr (pK (pv 3) (pK (pv 4) (pK (eF MD (hr.mono (by decide)) (pK (pv 8) pN)) pN)))))
     (sK (ps_if (PW.pt (pw_or (pt_not (pt_val (eZ (cI K) (by rfl) B.isinstance bI (pK (pv 9) (pK (pe_glob (v := .ref CAn) (by rfl) N.gA rfl) pN)))))
       (pw_or1 (pt_cmpR op_eq (eZ (cI K) (by rfl) B.isinstance bI (pK (pv 9) (pK (pe_glob (v := .ref CP) (by rfl) N.gP rfl) pN))) (eZ (cI K) (by rfl) B.isinstance bI (pK (pv 9) (pK (pe_glob (v := .ref CB) (by rfl) N.gB rfl) pN))) (nomark _))))) sV sN)
     (sK (ps_if (pt_val (eZ (cI K) (by rfl) B.isinstance bI (pK (pv 9) (pK (pe_glob (v := .ref CP) (by rfl) N.gP rfl) pN))))
       (s1' (sR (eF PO (hr.mono (by decide)) (pK (pv 9) (pK (pv 1) (pK (pv 2) (pK (pv 4) (pK (pv 8) pN)))))))) sN)
     (s1' (sR (eF BA (hr.mono (by decide)) (pK (pv 9) (pK (pv 1) (pK (pv 2) (pK (pv 4) (pK (pv 8) pN))))))))))))))))))))), ?_⟩
   refine ⟨_, rfl, sc, ns, 0, rfl, hS, by decide, fun c0 => ⟨c0, rfl, fun l1 H1 sz1 s1 nl1 el1 lz => ?_⟩⟩
   refine ⟨_, rfl, sc, ns, 1, rfl, s1.seq hS, by decide, fun c1 => ⟨c1, 0, 2, rfl, by decide, by decide, fun r1 H2 p1 q1 s2 => ⟨rfl, ?_⟩⟩⟩
   have t2 := s1.trans s2
   refine ⟨fun σ H' => ∃ (l : Addr) (sz : List Int) (tap : Bool), σ = [some (.ref sc), some (.ref l), some (.bl tap), none, none, none, none, none, none, none, none, none] ∧ Same H H' ∧ H' l = some (.lst (sz.map V.int)) ∧ Hz sz, ?_, ?_⟩
   · refine ⟨_, rfl, sc, ns, 1, rfl, t2.seq hS, by decide, fun c2 => ⟨c2, 1, 128, rfl, by decide, by decide, fun r2 H3 p2 q2 s3 => ⟨rfl, _, rfl, ?_⟩⟩⟩
     refine ite2 (fun _ => ?_) (fun _ => ⟨l1, sz1, _, rfl, t2.trans s3, s3 _ _ (s2 _ _ el1), lz.hz⟩)
     exact ⟨(by show 4 ≤ sizeLine; decide), fun l nl => ⟨_, _, rfl, l, [5, 5, 5, 6], true, rfl, (t2.trans s3).lay nl, uS, hz5556⟩⟩
   rintro _ H3 ⟨l, sz, tap, rfl, t3, el, hz⟩
   have h4 := hz.l4
   have hnn : ∀ s ∈ sz, 0 ≤ s := fun s hs => by have := hz.bd s hs; omega
   refine ⟨_, rfl, _, rfl, fun p dx np ndx nex => ⟨p, dx, l, sz, tap, rfl, uS, ?_, hz, fun H4 kp hh => ⟨rfl, ?_⟩⟩⟩
   · rw [uN (nN el np), uN (nN el ndx)]
     exact el
   have s4 : Same H3 H4 := mkSame np ndx kp
   have t4 := t3.trans s4
   have el4 := s4 _ _ el
   clear s4 kp np ndx nex
   refine ⟨_, rfl, sc, ns, 2, rfl, t4.seq hS, by decide, fun c2 => ⟨_, rfl, c2, l, sz, rfl, el4, h4, hnn, fun a H5 st s5 ea hst => ?_⟩⟩
   have t5 := t4.trans s5
   have el5 := s5 _ _ el4
   have hh5 := hh.mono s5
   refine ⟨_, rfl, ?_⟩
   refine ⟨fun σ H' => ∃ (v6 v7 : Option V) (ot : Addr) (so : List Int), σ = [some (.ref sc), some (.ref l), some (.bl tap), some (.ref p), some (.ref a), some (.ref ot), v6, v7, none, none, none, none] ∧ Same H5 H' ∧ H' ot = some (.tup (so.map V.int)) ∧ J.IsSt sz so, ?_, ?_⟩
   · refine ⟨_, rfl, sc, ns, 4, rfl, t5.seq hS, by decide, fun c3 => ⟨c3, 3, 9, rfl, by decide, by decide, fun r3 H6 p3 q3 s6 => ?_⟩⟩
     obtain ⟨q, rfl⟩ : ∃ q : Nat, r3 = (q : Int) := ⟨r3.toNat, by omega⟩
     refine ⟨(q : Int), rfl, by omega, by omega, for_rangeN (n := q) (fun i σ H' => ∃ (v6 v7 : Option V) (ot : Addr) (so : List Int), σ = [some (.ref sc), some (.ref l), some (.bl tap), some (.ref p), some (.ref a), some (.ref ot), v6, v7, none, none, none, none] ∧ Same H5 H' ∧ H' ot = some (.tup (so.map V.int)) ∧ J.IsSt sz so)
       ⟨none, none, a, st, rfl, s6, s6 _ _ ea, hst⟩ ?_ fun _ _ z => z⟩
     rintro i σ H7 hi ⟨v6, v7, ot, so, rfl, s7, eo, hso⟩
     refine ⟨_, rfl, _, rfl, l, sz, tap, rfl, s7 _ _ el5, h4, fun r H8 xs s8 nr er pm => ?_⟩
     have s78 := s7.trans s8
     refine ⟨_, rfl, (by show 0 ≤ sizeLine; decide), fun e0 ne0 => ⟨_, rcLT (s := (J.moves sz.length tap).map mvT) (t := []) ((Same.new ne0) _ _ er) (Paired.mapP pm fun v c ⟨a, e, h⟩ => ⟨a, e, (Same.new ne0) _ _ h⟩) uS .nil, _, rfl, ?_⟩⟩
     have s9 : Same H8 (upd H8 e0 (.lst [])) := Same.new ne0
     generalize upd H8 e0 (.lst []) = H9 at s9 ⊢
     have s59 := s78.trans s9
     have lx : xs.length = (J.moves sz.length tap).length := by have := Paired.length pm; simpa using this
     refine ite2 (fun c => ?_) (fun _ => ⟨_, _, ot, so, rfl, s59, s9 _ _ (s8 _ _ eo), hso⟩)
     have xpos : 0 < xs.length := by
       rw [lx]
       cases em : J.moves sz.length tap with
       | nil => rw [em] at c; simp at c
       | cons _ _ => simp
     refine ⟨_, rfl, _, rfl, _, rfl, _, rfl, _, rfl, _, _, rfl, rfl, sc, ns, _, rfl, (t5.trans s59).seq hS, by omega, fun c5 => ⟨_, rfl, r, _, rfl, .inl (SqL.of (s9 _ _ er)), c5, 4, _, rfl, by decide, by omega, fun z H10 z0 z1 s10 => ?_⟩⟩
     obtain ⟨j, rfl⟩ : ∃ j : Nat, z = (j : Int) := ⟨z.toNat, by omega⟩
     have hj : j < xs.length := by omega
     have hv : xs[j]? = some (xs[j]) := List.getElem?_eq_getElem hj
     obtain ⟨cc, hc, tt, ett, htt⟩ := L2.Paired.get pm hv
     rw [List.getElem?_map] at hc
     obtain ⟨m, hm, rfl⟩ := Option.map_eq_some_iff.mp hc
     rw [ett] at hv
     have s810 := s9.trans s10
     refine ⟨r, _, _, _, rfl, rfl, SqL.of (s810 _ _ er), atI_nat hv, l, ot, tt, sz, so, m, tap, rfl, (s59.trans s10) _ _ el5, (s8.trans s810) _ _ eo, s810 _ _ htt, hso, J.mem_moves.mp (List.mem_of_getElem? hm), h4, fun y H11 s11 e11 => ?_⟩
     exact ⟨_, _, y, _, rfl, (s59.trans s10).trans s11, e11, hso.behind hz.nn (J.mem_moves.mp (List.mem_of_getElem? hm))⟩
   rintro _ H6 ⟨v6, v7, ot0, so0, rfl, s6, eo0, hso0⟩
   refine ⟨fun σ H' => ∃ (ot : Addr) (so : List Int), σ = [some (.ref sc), some (.ref l), some (.bl tap), some (.ref p), some (.ref a), some (.ref ot), v6, v7, none, none, none, none] ∧ Same H5 H' ∧ H' ot = some (.tup (so.map V.int)) ∧ J.IsSt sz so, ?_, ?_⟩
   · refine ⟨_, rfl, sc, ns, 4, rfl, (t5.trans s6).seq hS, by decide, fun c3 => ⟨c3, 4, 2, rfl, by decide, by decide, fun r3 H7 p3 q3 s7 => ⟨rfl, _, rfl, ?_⟩⟩⟩
     have s67 := s6.trans s7
     refine ite2 (fun _ => ?_) (fun _ => ⟨ot0, so0, rfl, s67, s7 _ _ eo0, hso0⟩)
     exact ⟨_, rfl, sc, ns, 4, rfl, (t5.trans s67).seq hS, by decide, fun c4 => ⟨_, rfl, c4, l, sz, rfl, s67 _ _ el5, h4, hnn, fun b H8 su s8 eb hsu => ⟨b, su, rfl, s67.trans s8, eb, hsu⟩⟩⟩
   rintro _ H7 ⟨ot, so, rfl, s7, eo, hso⟩
   refine ⟨_, rfl, sc, ns, 3, rfl, (t5.trans s7).seq hS, by decide, fun c6 => ⟨_, rfl, _, rfl, c6, l, ot, sz, so, rfl, s7 _ _ el5, hz, eo, hso, fun t H8 g s8 hg gw => ?_⟩⟩
   have s58 := s7.trans s8
   have el8 := s58 _ _ el5
   have ea8 := s58 _ _ ea
   have hh8 := hh5.mono s58
   have gok := gw.ok h4
   clear s58 s7 s8 eo hso s6 eo0 hso0
   have wl : (J.ways sz (J.moves sz.length tap) st).length ≤ 2000 := by
     have := J.run_le (J.good_moves (tap := tap) hz.nn) hst (J.states sz).length
     have := hz.states_le
     unfold J.ways
     omega
   refine ⟨fun σ H' => ∃ r, σ = [some (.ref sc), some (.ref l), some (.bl tap), some (.ref p), some (.ref a), some (.ref ot), v6, v7, some (.ref t), some (.ref r), none, none] ∧ Same H8 H' ∧ ((∃ i, i < (J.ways sz (J.moves sz.length tap) st).length ∧ PouredN CP Z H8 H' r (J.ways sz (J.moves sz.length tap) st) i) ∨ BarredN CB H8 H' r (J.ways sz (J.moves sz.length tap) st)), ?_, ?_⟩
   · refine ⟨_, rfl, _, rfl, _, rfl, t, sz, g, rfl, hg, gw, hz, fun p1 H9 s9 hgo => ?_⟩
     refine ⟨p, a, p1, sz, tap, st, g, rfl, hh8.mono s9, hz, s9 _ _ ea8, hst, hgo, gok, fun i x r H10 hx hm hno s10 nr hP => ?_, fun hno r H10 s10 nr hB => ?_⟩
     · obtain ⟨dx, pa, pb, xs, ys, hp, hpa, pm, hpb, ht, na, nb, ab⟩ := hP
       exact ⟨r, rfl, s9.trans s10, .inl ⟨i, (List.getElem?_eq_some_iff.mp hx).1, dx, pa, pb, xs, ys, hp, hpa, pm, hpb, ht, none_back s9 na, none_back s9 nb, ab⟩⟩
     · obtain ⟨dx, pa, xs, hp, hpa, pm, na⟩ := hB
       exact ⟨r, rfl, s9.trans s10, .inr ⟨dx, pa, xs, hp, hpa, pm, none_back s9 na⟩⟩
   rintro _ H10 ⟨r, rfl, s10, hA⟩
   refine ⟨fun σ H' => ∃ v9 v10 v11, σ = [some (.ref sc), some (.ref l), some (.bl tap), some (.ref p), some (.ref a), some (.ref ot), v6, v7, some (.ref t), v9, v10, v11] ∧ Same H8 H', ?_, ?_⟩
   · rcases hA with ⟨i, hil, dx, pa, pb, xs, ys, hp, hpa, pm, hpb, ht, na, nb, ab⟩ | ⟨dx, pa, xs, hp, hpa, pm, na⟩
     · have ty : TyOf K H10 (.ref r) (.ref CP) := .ins hp N.kP.cl N.tP.ha N.tP.hn N.tP.htk N.tP.hm
       refine ⟨_, rfl, _, _, _, _, _, rfl, .ref _, ty, kit_self CP, _, rfl, iteT ?_⟩
       obtain ⟨ps, rfl⟩ := paired_refs (fun v m ⟨q, e, _⟩ => ⟨q, e⟩) pm
       have ly : ys.length ≤ 2000 := by have := Paired.length ht; simp [hs] at this; omega
       have tys : ∀ y ∈ ys, ∃ t zs, y = .ref t ∧ H10 t = some (.tup zs) := fun y hy => by
         obtain ⟨j, hj⟩ := List.mem_iff_getElem?.mp hy
         obtain ⟨kv, _, t', b', e, h1', h2'⟩ := L2.Paired.get ht hj
         exact ⟨t', _, e, h1'⟩
       have lps : ps.length ≤ 2000 := by
         have q1 := Paired.length pm
         have q2 := back_le (J.ways sz (J.moves sz.length tap) st) (i + 1) i
         rw [List.length_map, List.length_reverse] at q1
         omega
       obtain ⟨qs, rfl⟩ := paired_refs (fun v kv ⟨q, b, e, _⟩ => ⟨q, e⟩) ht
       refine ⟨_, rfl, r, CP, dx, _, _, rfl, hp, N.kP.cl, N.kP.pours, anF_pours _ _, pa, _, rfl, .inl (SqL.of hpa), fun l1 n1 => ?_⟩
       have g1 : Same H10 (upd H10 l1 (.lst (ps.map V.ref))) := Same.new n1
       have f1 : (upd H10 l1 (.lst (ps.map V.ref))) l1 = some (.lst (ps.map V.ref)) := uS
       generalize upd H10 l1 (.lst (ps.map V.ref)) = H11 at g1 f1 ⊢
       refine ⟨_, rfl, r, CP, dx, _, _, rfl, g1 _ _ hp, N.kP.cl, N.kP.heights, anF_heights _ _, pb, _, rfl, .inl (SqL.of (g1 _ _ hpb)), fun l2 n2 => ?_⟩
       have g2 : Same H11 (upd H11 l2 (.lst (qs.map V.ref))) := Same.new n2
       have f2 : (upd H11 l2 (.lst (qs.map V.ref))) l2 = some (.lst (qs.map V.ref)) := uS
       generalize upd H11 l2 (.lst (qs.map V.ref)) = H12 at g2 f2 ⊢
       refine ⟨(by show 2 ≤ sizeLine; decide), fun l3 n3 => ?_⟩
       have g3 : Same H12 (upd H12 l3 (.lst [.ref l1, .ref l2])) := Same.new n3
       have f3 : (upd H12 l3 (.lst [.ref l1, .ref l2])) l3 = some (.lst [.ref l1, .ref l2]) := uS
       generalize upd H12 l3 (.lst [.ref l1, .ref l2]) = H13 at g3 f3 ⊢
       have f1' := g3 _ _ (g2 _ _ f1)
       have f2' := g3 _ _ f2
       have g13 := (g1.trans g2).trans g3
       refine ⟨_, rfl, r, CP, dx, _, _, rfl, g13 _ _ hp, N.kP.cl, N.kP.pours, anF_pours _ _, _, rfl, r, CP, dx, _, _, rfl, g13 _ _ hp, N.kP.cl, N.kP.heights, anF_heights _ _, fun p2 dx2 np ndx nex => ?_⟩
       have ls : Same H13 (upd (upd H13 dx2 (.own p2)) p2 (.ins CP dx2 [])) := fun c u e => by rw [uN (nN e np), uN (nN e ndx)]; exact e
       refine ⟨p2, dx2, pa, pb, _, _, rfl, uS, ls _ _ (g13 _ _ hpa), ls _ _ (g13 _ _ hpb), ly, fun y hy => ?_, fun r1 q1 H14 nr1 nq1 rq kp h14 e14 e15 => ⟨rfl, ?_⟩⟩
       · obtain ⟨t', zs, e, h⟩ := tys y hy
         exact ⟨t', zs, e, ls _ _ (g13 _ _ h)⟩
       have s14 : Same H13 H14 := mkSame np ndx kp
       have m1 := none_back ls nr1
       have m2 := none_back ls nq1
       have g14 := g13.trans s14
       have hp14 := g14 _ _ hp
       have hpa14 := g14 _ _ hpa
       have hpb14 := g14 _ _ hpb
       have rpa : r ≠ pa := ne_of hp hpa (by intro h; cases h)
       have rpb : r ≠ pb := ne_of hp hpb (by intro h; cases h)
       have ppa : p2 ≠ pa := ne_of h14 hpa14 (by intro h; cases h)
       have ppb : p2 ≠ pb := ne_of h14 hpb14 (by intro h; cases h)
       have r1a : r1 ≠ pa := (nN (g13 _ _ hpa) m1).symm
       have r1b : r1 ≠ pb := (nN (g13 _ _ hpb) m1).symm
       have q1a : q1 ≠ pa := (nN (g13 _ _ hpa) m2).symm
       have q1b : q1 ≠ pb := (nN (g13 _ _ hpb) m2).symm
       have r1l : r1 ≠ l1 := (nN f1' m1).symm
       have q1l : q1 ≠ l2 := (nN f2' m2).symm
       have l1a : l1 ≠ pa := (nN hpa n1).symm
       have l1b : l1 ≠ pb := (nN hpb n1).symm
       have l2a : l2 ≠ pa := (nN (g1 _ _ hpa) n2).symm
       have l2b : l2 ≠ pb := (nN (g1 _ _ hpb) n2).symm
       have l3a : l3 ≠ pa := (nN ((g1.trans g2) _ _ hpa) n3).symm
       have l3b : l3 ≠ pb := (nN ((g1.trans g2) _ _ hpb) n3).symm
       refine ⟨_, rfl, r, CP, dx, _, _, rfl, hp14, N.kP.cl, N.kP.pours, anF_pours _ _, .inl ⟨rfl, _, SqL.of hpa14⟩, pa, _, _, rfl, rfl, hpa14, (by rw [sizeLine_eq, List.length_map]; omega), ?_⟩
       have hp15 : (upd H14 pa (.lst (ps.map V.ref ++ [.int 0]))) r = some (.ins CP dx (anF pa pb)) := by rw [uN rpa]; exact hp14
       have hpb15 : (upd H14 pa (.lst (ps.map V.ref ++ [.int 0]))) pb = some (.lst (qs.map V.ref)) := by rw [uN ab.symm]; exact hpb14
       refine ⟨_, rfl, r, CP, dx, _, _, rfl, hp15, N.kP.cl, N.kP.heights, anF_heights _ _, .inl ⟨rfl, _, SqL.of hpb15⟩, pb, _, rfl, rfl, hpb15, ?_⟩
       have far : ∀ c o, c ≠ pa → c ≠ pb → H14 c = some o → (upd (upd H14 pa (.lst (ps.map V.ref ++ [.int 0]))) pb (.lst [])) c = some o := fun c o c1 c2 e => by rw [uN c2, uN c1]; exact e
       have s16 : Same H8 (upd (upd H14 pa (.lst (ps.map V.ref ++ [.int 0]))) pb (.lst [])) := (((s10.trans g14).put na).put nb)
       generalize upd (upd H14 pa (.lst (ps.map V.ref ++ [.int 0]))) pb (.lst []) = H16 at far s16 ⊢
       have k1 := far _ _ ppa ppb h14
       refine ⟨_, rfl, p2, CP, dx2, _, _, rfl, k1, N.kP.cl, N.kP.pours, anF_pours _ _, _, rfl, p2, CP, dx2, _, _, rfl, k1, N.kP.cl, N.kP.heights, anF_heights _ _, (by show 2 ≤ sizeLine; decide), fun l4 n4 => ?_⟩
       have s17 : Same H16 (upd H16 l4 (.lst [.ref r1, .ref q1])) := Same.new n4
       have f4 : (upd H16 l4 (.lst [.ref r1, .ref q1])) l4 = some (.lst [.ref r1, .ref q1]) := uS
       generalize upd H16 l4 (.lst [.ref r1, .ref q1]) = H17 at s17 f4 ⊢
       refine ⟨_, rfl, true, rc_pair (SqL.of f4) (SqL.of (s17 _ _ (far _ _ l3a l3b (s14 _ _ f3)))) r1l q1l (RcD.same (SqL.of (s17 _ _ (far _ _ r1a r1b e14))) (SqL.of (s17 _ _ (far _ _ l1a l1b (s14 _ _ f1')))))
         (RcD.same (SqL.of (s17 _ _ (far _ _ q1a q1b e15))) (SqL.of (s17 _ _ (far _ _ l2a l2b (s14 _ _ f2'))))), _, rfl, iteF ?_⟩
       exact ⟨_, _, _, rfl, s16.trans s17⟩
     · have ty : TyOf K H10 (.ref r) (.ref CB) := .ins hp N.kB.cl N.tB.ha N.tB.hn N.tB.htk N.tB.hm
       refine ⟨_, rfl, _, _, _, _, _, rfl, .ref _, ty, N.kBP, _, rfl, iteF ?_⟩
       refine ⟨_, rfl, _, _, _, _, _, rfl, .ref _, ty, kit_self CB, _, rfl, iteT ?_⟩
       obtain ⟨ps, rfl⟩ := paired_refs (fun v m ⟨q, e, _⟩ => ⟨q, e⟩) pm
       refine ⟨_, rfl, r, CB, dx, _, _, rfl, hp, N.kB.cl, N.kB.among, baF_among _, pa, _, rfl, .inl (SqL.of hpa), fun l1 n1 => ?_⟩
       have g1 : Same H10 (upd H10 l1 (.lst (ps.map V.ref))) := Same.new n1
       have f1 : (upd H10 l1 (.lst (ps.map V.ref))) l1 = some (.lst (ps.map V.ref)) := uS
       generalize upd H10 l1 (.lst (ps.map V.ref)) = H11 at g1 f1 ⊢
       refine ⟨_, rfl, r, CB, dx, _, _, rfl, g1 _ _ hp, N.kB.cl, N.kB.among, baF_among _, fun p2 dx2 np ndx nex => ?_⟩
       have ls : Same H11 (upd (upd H11 dx2 (.own p2)) p2 (.ins CB dx2 [])) := fun c u e => by rw [uN (nN e np), uN (nN e ndx)]; exact e
       refine ⟨p2, dx2, pa, _, rfl, uS, ls _ _ (g1 _ _ hpa), fun r1 H14 nr1 kp h14 e14 => ⟨rfl, ?_⟩⟩
       have s14 : Same H11 H14 := mkSame np ndx kp
       have m1 := none_back ls nr1
       have g14 := g1.trans s14
       have hp14 := g14 _ _ hp
       have hpa14 := g14 _ _ hpa
       have ppa : p2 ≠ pa := ne_of h14 hpa14 (by intro h; cases h)
       have r1a : r1 ≠ pa := (nN (g1 _ _ hpa) m1).symm
       have l1a : l1 ≠ pa := (nN hpa n1).symm
       refine ⟨_, rfl, r, CB, dx, _, _, rfl, hp14, N.kB.cl, N.kB.among, baF_among _, .inl ⟨rfl, _, SqL.of hpa14⟩, pa, _, rfl, rfl, hpa14, ?_⟩
       have far : ∀ c o, c ≠ pa → H14 c = some o → (upd H14 pa (.lst [])) c = some o := fun c o c1 e => by rw [uN c1]; exact e
       refine ⟨_, rfl, p2, CB, dx2, _, _, rfl, far _ _ ppa h14, N.kB.cl, N.kB.among, baF_among _, _, rfl, true, RcD.same (SqL.of (far _ _ r1a e14)) (SqL.of (far _ _ l1a (s14 _ _ f1))), _, rfl, iteF ?_⟩
       exact ⟨_, _, _, rfl, (s10.trans g14).put na⟩
   rintro _ H11 ⟨v9, v10, v11, rfl, s11⟩
   refine ⟨fun σ H' => ∃ r, σ = [some (.ref sc), some (.ref l), some (.bl tap), some (.ref p), some (.ref a), some (.ref ot), v6, v7, some (.ref t), some (.ref r), v10, v11] ∧ Same H8 H' ∧ ((∃ (i : Nat) (x : J.Way), (J.ways sz (J.moves sz.length tap) st)[i]? = some x ∧ g.met x.1 = true ∧ (∀ (j : Nat) (y : J.Way), j < i → (J.ways sz (J.moves sz.length tap) st)[j]? = some y → g.met y.1 = false) ∧ PouredAt CP Z H' r (J.ways sz (J.moves sz.length tap) st) i) ∨ ((∀ x ∈ (J.ways sz (J.moves sz.length tap) st), g.met x.1 = false) ∧ BarredAt CB H' r (J.ways sz (J.moves sz.length tap) st))), ?_, ?_⟩
   · refine ⟨_, rfl, _, rfl, _, rfl, t, sz, g, rfl, hg.mono s11, gw, hz, fun p1 H12 s12 hgo => ?_⟩
     have s812 := s11.trans s12
     refine ⟨p, a, p1, sz, tap, st, g, rfl, hh8.mono s812, hz, s812 _ _ ea8, hst, hgo, gok, fun i x r H13 hx hm hno s13 nr hP => ?_, fun hno r H13 s13 nr hB => ?_⟩
     · obtain ⟨dx, pa, pb, xs, ys, hp, hpa, pm, hpb, ht, _⟩ := hP
       exact ⟨r, rfl, s812.trans s13, .inl ⟨i, x, hx, hm, hno, dx, pa, pb, xs, ys, hp, hpa, pm, hpb, ht⟩⟩
     · obtain ⟨dx, pa, xs, hp, hpa, pm, _⟩ := hB
       exact ⟨r, rfl, s812.trans s13, .inr ⟨hno, dx, pa, xs, hp, hpa, pm⟩⟩
   rintro _ H12 ⟨r, rfl, s12, hA⟩
   rcases hA with ⟨i, x, hx, hm, hno, hP⟩ | ⟨hno, hB⟩
   · obtain ⟨dx, pa, pb, xs, ys, hp, _⟩ := id hP
     have ty : TyOf K H12 (.ref r) (.ref CP) := .ins hp N.kP.cl N.tP.ha N.tP.hn N.tP.htk N.tP.hm
     refine ⟨_, rfl, _, _, _, _, _, rfl, .ref _, ty, N.kPA, _, rfl, iteF ?_⟩
     refine ⟨_, rfl, _, _, _, _, _, rfl, .ref _, ty, kit_self CP, _, rfl, _, _, _, _, _, rfl, .ref _, ty, N.kPB, rfl, _, rfl, iteF ?_⟩
     refine ⟨_, rfl, _, _, _, _, _, rfl, .ref _, ty, kit_self CP, _, rfl, iteT ?_⟩
     exact ⟨_, rfl, _, rfl, _, rfl, _, rfl, _, rfl, r, l, a, t, sz, st, tap, g, i, x, rfl, s12 _ _ el8, hz, s12 _ _ ea8, hst, hg.mono s12, gw, hP, hx, hm, hno, k⟩
   · obtain ⟨dx, pa, xs, hp, _⟩ := id hB
     have ty : TyOf K H12 (.ref r) (.ref CB) := .ins hp N.kB.cl N.tB.ha N.tB.hn N.tB.htk N.tB.hm
     refine ⟨_, rfl, _, _, _, _, _, rfl, .ref _, ty, N.kBA, _, rfl, iteF ?_⟩
     refine ⟨_, rfl, _, _, _, _, _, rfl, .ref _, ty, N.kBP, _, rfl, _, _, _, _, _, rfl, .ref _, ty, kit_self CB, rfl, _, rfl, iteF ?_⟩
     refine ⟨_, rfl, _, _, _, _, _, rfl, .ref _, ty, N.kBP, _, rfl, iteF ?_⟩
     exact ⟨_, rfl, _, rfl, _, rfl, _, rfl, _, rfl, r, l, a, t, sz, st, tap, g, rfl, s12 _ _ el8, hz, s12 _ _ ea8, hst, hg.mono s12, gw, hB, hno, k⟩
end
end Jug
namespace Jug
open PySem L2
theorem anyC {P : Program} {w : World} {K : PySem.W.Frag} {mg : Str → Option Value} {base : Heap} {k : Nat} {Z : Cz} {m : Str} {ps : List Str} {sp : Sp} (h1 : MeB P w K mg base k Z.P m ps sp) (h2 : MeB P w K mg base k Z.F m ps sp) (h3 : MeB P w K mg base k Z.E m ps sp) :
   ∀ C, anyMv Z C → MeB P w K mg base k C m ps sp := by
 rintro C (rfl | rfl | rfl)
 · exact h1
 · exact h2
 · exact h3
theorem anyD {P : Program} {w : World} {K : PySem.W.Frag} {mg : Str → Option Value} {base : Heap} {k : Nat} {Z : Gz} {m : Str} {ps : List Str} {sp : Sp} (h1 : MeB P w K mg base k Z.H m ps sp) (h2 : MeB P w K mg base k Z.S m ps sp) (h3 : MeB P w K mg base k Z.U m ps sp) (h4 : MeB P w K mg base k Z.W m ps sp) :
   ∀ C, anyGo Z C → MeB P w K mg base k C m ps sp := by
 rintro C (rfl | rfl | rfl | rfl)
 · exact h1
 · exact h2
 · exact h3
 · exact h4
theorem len1 {us : List Value} (h : us.length = 1) : ∃ a0, us = [a0] := match us, h with | [a0], _ => ⟨a0, rfl⟩
theorem len2 {us : List Value} (h : us.length = 2) : ∃ a0 a1, us = [a0, a1] := match us, h with | [a0, a1], _ => ⟨a0, a1, rfl⟩
theorem len3 {us : List Value} (h : us.length = 3) : ∃ a0 a1 a2, us = [a0, a1, a2] := match us, h with | [a0, a1, a2], _ => ⟨a0, a1, a2, rfl⟩
theorem len5 {us : List Value} (h : us.length = 5) : ∃ a0 a1 a2 a3 a4, us = [a0, a1, a2, a3, a4] := match us, h with | [a0, a1, a2, a3, a4], _ => ⟨a0, a1, a2, a3, a4, rfl⟩
theorem all_mk {l : PySem.W.OpenLaw} {w : World} {K : PySem.W.Frag} {h : Heap} {mg : Str → Option Value} {fa : Addr} (X : K.In h) (G : h.Ns mainGlobals mg) (hfa : mg "law" = some (.ref fa))
   {t_MOST_JUGS : Tok}
   {t_MOST_SIZE : Tok}
   {t_MOST_STATES : Tok}
   {t_MOST_AMOUNT : Tok}
   {C_Pour : Addr}
   {C_Fill : Addr}
   {C_Empty : Addr}
   {C_House : Addr}
   {C_Holds : Addr}
   {C_Some : Addr}
   {C_Sum : Addr}
   {C_Whole : Addr}
   {C_Goal : Addr}
   {C_Poured : Addr}
   {C_Barred : Addr}
   {C_Answer : Addr}
   {f0 : Addr} {oc0 kV0 dc0 pm0 cd0 ct0 : Value} {od0 an0 : Option Addr} {sl0 : Array (Option Value)}
   {f1 : Addr} {oc1 kV1 dc1 pm1 cd1 ct1 : Value} {od1 an1 : Option Addr} {sl1 : Array (Option Value)}
   {f2 : Addr} {oc2 kV2 dc2 pm2 cd2 ct2 : Value} {od2 an2 : Option Addr} {sl2 : Array (Option Value)}
   {f3 : Addr} {oc3 kV3 dc3 pm3 cd3 ct3 : Value} {od3 an3 : Option Addr} {sl3 : Array (Option Value)}
   {f4 : Addr} {oc4 kV4 dc4 pm4 cd4 ct4 : Value} {od4 an4 : Option Addr} {sl4 : Array (Option Value)}
   {f5 : Addr} {oc5 kV5 dc5 pm5 cd5 ct5 : Value} {od5 an5 : Option Addr} {sl5 : Array (Option Value)}
   {f6 : Addr} {oc6 kV6 dc6 pm6 cd6 ct6 : Value} {od6 an6 : Option Addr} {sl6 : Array (Option Value)}
   {f7 : Addr} {oc7 kV7 dc7 pm7 cd7 ct7 : Value} {od7 an7 : Option Addr} {sl7 : Array (Option Value)}
   {f8 : Addr} {oc8 kV8 dc8 pm8 cd8 ct8 : Value} {od8 an8 : Option Addr} {sl8 : Array (Option Value)}
   {f9 : Addr} {oc9 kV9 dc9 pm9 cd9 ct9 : Value} {od9 an9 : Option Addr} {sl9 : Array (Option Value)}
   {f10 : Addr} {oc10 kV10 dc10 pm10 cd10 ct10 : Value} {od10 an10 : Option Addr} {sl10 : Array (Option Value)}
   {f11 : Addr} {oc11 kV11 dc11 pm11 cd11 ct11 : Value} {od11 an11 : Option Addr} {sl11 : Array (Option Value)}
   {f12 : Addr} {oc12 kV12 dc12 pm12 cd12 ct12 : Value} {od12 an12 : Option Addr} {sl12 : Array (Option Value)}
   {f13 : Addr} {oc13 kV13 dc13 pm13 cd13 ct13 : Value} {od13 an13 : Option Addr} {sl13 : Array (Option Value)}
   {f14 : Addr} {oc14 kV14 dc14 pm14 cd14 ct14 : Value} {od14 an14 : Option Addr} {sl14 : Array (Option Value)}
   {f15 : Addr} {oc15 kV15 dc15 pm15 cd15 ct15 : Value} {od15 an15 : Option Addr} {sl15 : Array (Option Value)}
   {f16 : Addr} {oc16 kV16 dc16 pm16 cd16 ct16 : Value} {od16 an16 : Option Addr} {sl16 : Array (Option Value)}
   {f17 : Addr} {oc17 kV17 dc17 pm17 cd17 ct17 : Value} {od17 an17 : Option Addr} {sl17 : Array (Option Value)}
   {f18 : Addr} {oc18 kV18 dc18 pm18 cd18 ct18 : Value} {od18 an18 : Option Addr} {sl18 : Array (Option Value)}
   {f19 : Addr} {oc19 kV19 dc19 pm19 cd19 ct19 : Value} {od19 an19 : Option Addr} {sl19 : Array (Option Value)}
   {f20 : Addr} {oc20 kV20 dc20 pm20 cd20 ct20 : Value} {od20 an20 : Option Addr} {sl20 : Array (Option Value)}
   {f21 : Addr} {oc21 kV21 dc21 pm21 cd21 ct21 : Value} {od21 an21 : Option Addr} {sl21 : Array (Option Value)}
   {f22 : Addr} {oc22 kV22 dc22 pm22 cd22 ct22 : Value} {od22 an22 : Option Addr} {sl22 : Array (Option Value)}
   {f23 : Addr} {oc23 kV23 dc23 pm23 cd23 ct23 : Value} {od23 an23 : Option Addr} {sl23 : Array (Option Value)}
   {f24 : Addr} {oc24 kV24 dc24 pm24 cd24 ct24 : Value} {od24 an24 : Option Addr} {sl24 : Array (Option Value)}
   {f25 : Addr} {oc25 kV25 dc25 pm25 cd25 ct25 : Value} {od25 an25 : Option Addr} {sl25 : Array (Option Value)}
   {f26 : Addr} {oc26 kV26 dc26 pm26 cd26 ct26 : Value} {od26 an26 : Option Addr} {sl26 : Array (Option Value)}
   {f27 : Addr} {oc27 kV27 dc27 pm27 cd27 ct27 : Value} {od27 an27 : Option Addr} {sl27 : Array (Option Value)}
   {f28 : Addr} {oc28 kV28 dc28 pm28 cd28 ct28 : Value} {od28 an28 : Option Addr} {sl28 : Array (Option Value)}
   {f29 : Addr} {oc29 kV29 dc29 pm29 cd29 ct29 : Value} {od29 an29 : Option Addr} {sl29 : Array (Option Value)}
   {f30 : Addr} {oc30 kV30 dc30 pm30 cd30 ct30 : Value} {od30 an30 : Option Addr} {sl30 : Array (Option Value)}
   {f31 : Addr} {oc31 kV31 dc31 pm31 cd31 ct31 : Value} {od31 an31 : Option Addr} {sl31 : Array (Option Value)}
   {f32 : Addr} {oc32 kV32 dc32 pm32 cd32 ct32 : Value} {od32 an32 : Option Addr} {sl32 : Array (Option Value)}
   {f33 : Addr} {oc33 kV33 dc33 pm33 cd33 ct33 : Value} {od33 an33 : Option Addr} {sl33 : Array (Option Value)}
   {f34 : Addr} {oc34 kV34 dc34 pm34 cd34 ct34 : Value} {od34 an34 : Option Addr} {sl34 : Array (Option Value)}
   {f35 : Addr} {oc35 kV35 dc35 pm35 cd35 ct35 : Value} {od35 an35 : Option Addr} {sl35 : Array (Option Value)}
   {f36 : Addr} {oc36 kV36 dc36 pm36 cd36 ct36 : Value} {od36 an36 : Option Addr} {sl36 : Array (Option Value)}
   {f37 : Addr} {oc37 kV37 dc37 pm37 cd37 ct37 : Value} {od37 an37 : Option Addr} {sl37 : Array (Option Value)}
   {f38 : Addr} {oc38 kV38 dc38 pm38 cd38 ct38 : Value} {od38 an38 : Option Addr} {sl38 : Array (Option Value)}
   {f39 : Addr} {oc39 kV39 dc39 pm39 cd39 ct39 : Value} {od39 an39 : Option Addr} {sl39 : Array (Option Value)}
   {f40 : Addr} {oc40 kV40 dc40 pm40 cd40 ct40 : Value} {od40 an40 : Option Addr} {sl40 : Array (Option Value)}
   {f41 : Addr} {oc41 kV41 dc41 pm41 cd41 ct41 : Value} {od41 an41 : Option Addr} {sl41 : Array (Option Value)}
   {f42 : Addr} {oc42 kV42 dc42 pm42 cd42 ct42 : Value} {od42 an42 : Option Addr} {sl42 : Array (Option Value)}
   {f43 : Addr} {oc43 kV43 dc43 pm43 cd43 ct43 : Value} {od43 an43 : Option Addr} {sl43 : Array (Option Value)}
   {f44 : Addr} {oc44 kV44 dc44 pm44 cd44 ct44 : Value} {od44 an44 : Option Addr} {sl44 : Array (Option Value)}
   {f45 : Addr} {oc45 kV45 dc45 pm45 cd45 ct45 : Value} {od45 an45 : Option Addr} {sl45 : Array (Option Value)}
   {f46 : Addr} {oc46 kV46 dc46 pm46 cd46 ct46 : Value} {od46 an46 : Option Addr} {sl46 : Array (Option Value)}
   {f47 : Addr} {oc47 kV47 dc47 pm47 cd47 ct47 : Value} {od47 an47 : Option Addr} {sl47 : Array (Option Value)}
   {f48 : Addr} {oc48 kV48 dc48 pm48 cd48 ct48 : Value} {od48 an48 : Option Addr} {sl48 : Array (Option Value)}
   {f49 : Addr} {oc49 kV49 dc49 pm49 cd49 ct49 : Value} {od49 an49 : Option Addr} {sl49 : Array (Option Value)}
   {f50 : Addr} {oc50 kV50 dc50 pm50 cd50 ct50 : Value} {od50 an50 : Option Addr} {sl50 : Array (Option Value)}
   {f51 : Addr} {oc51 kV51 dc51 pm51 cd51 ct51 : Value} {od51 an51 : Option Addr} {sl51 : Array (Option Value)}
   {f52 : Addr} {oc52 kV52 dc52 pm52 cd52 ct52 : Value} {od52 an52 : Option Addr} {sl52 : Array (Option Value)}
   {f53 : Addr} {oc53 kV53 dc53 pm53 cd53 ct53 : Value} {od53 an53 : Option Addr} {sl53 : Array (Option Value)}
   {f54 : Addr} {oc54 kV54 dc54 pm54 cd54 ct54 : Value} {od54 an54 : Option Addr} {sl54 : Array (Option Value)}
   {f55 : Addr} {oc55 kV55 dc55 pm55 cd55 ct55 : Value} {od55 an55 : Option Addr} {sl55 : Array (Option Value)}
   {f56 : Addr} {oc56 kV56 dc56 pm56 cd56 ct56 : Value} {od56 an56 : Option Addr} {sl56 : Array (Option Value)}
   {f57 : Addr} {oc57 kV57 dc57 pm57 cd57 ct57 : Value} {od57 an57 : Option Addr} {sl57 : Array (Option Value)}
   {f58 : Addr} {oc58 kV58 dc58 pm58 cd58 ct58 : Value} {od58 an58 : Option Addr} {sl58 : Array (Option Value)}
   {f59 : Addr} {oc59 kV59 dc59 pm59 cd59 ct59 : Value} {od59 an59 : Option Addr} {sl59 : Array (Option Value)}
   {f60 : Addr} {oc60 kV60 dc60 pm60 cd60 ct60 : Value} {od60 an60 : Option Addr} {sl60 : Array (Option Value)}
   (z_isinstance : PySem.W.nsIn K mainGlobals "isinstance" = some none)
   (z_int : PySem.W.nsIn K mainGlobals "int" = some none)
   (z_bool : PySem.W.nsIn K mainGlobals "bool" = some none)
   (z_tuple : PySem.W.nsIn K mainGlobals "tuple" = some none)
   (z_list : PySem.W.nsIn K mainGlobals "list" = some none)
   (z_len : PySem.W.nsIn K mainGlobals "len" = some none)
   (z_zip : PySem.W.nsIn K mainGlobals "zip" = some none)
   (z_range : PySem.W.nsIn K mainGlobals "range" = some none)
   (z_min : PySem.W.nsIn K mainGlobals "min" = some none)
   (z_str : PySem.W.nsIn K mainGlobals "str" = some none)
   (z_sum : PySem.W.nsIn K mainGlobals "sum" = some none)
   (z_max : PySem.W.nsIn K mainGlobals "max" = some none)
   (z_sorted : PySem.W.nsIn K mainGlobals "sorted" = some none)
   (z_reversed : PySem.W.nsIn K mainGlobals "reversed" = some none)
   (z_any : PySem.W.nsIn K mainGlobals "any" = some none)
   (z_all : PySem.W.nsIn K mainGlobals "all" = some none)
   (z_set : PySem.W.nsIn K mainGlobals "set" = some none)
   (z_MOST_JUGS : PySem.W.nsIn K mainGlobals "MOST_JUGS" = some (some (.int 4 t_MOST_JUGS)))
   (z_MOST_SIZE : PySem.W.nsIn K mainGlobals "MOST_SIZE" = some (some (.int 60 t_MOST_SIZE)))
   (z_MOST_STATES : PySem.W.nsIn K mainGlobals "MOST_STATES" = some (some (.int 2000 t_MOST_STATES)))
   (z_MOST_AMOUNT : PySem.W.nsIn K mainGlobals "MOST_AMOUNT" = some (some (.int 240 t_MOST_AMOUNT)))
   (a_Pour : PySem.W.nsIn K mainGlobals "Pour" = some (some (.ref C_Pour)))
   (pg_Pour : PySem.W.plainGet K C_Pour Str.empty = true)
   (hd_Pour : PySem.W.hasDictIn K C_Pour = true)
   (po_Pour : PySem.W.plainOver K C_Pour = true)
   (sa_Pour : PySem.W.findIn K (.ref C_Pour) "__setattr__" = some (some (.builtin "object.__setattr__")))
   (mk_Pour : PySem.W.makesIn K C_Pour = true)
   (kc_Pour : PySem.W.keepIn K (.ref C_Pour) = true)
   (n_Pour_one : PySem.W.findIn K (.ref C_Pour) "one" = some none)
   (n_Pour_other : PySem.W.findIn K (.ref C_Pour) "other" = some none)
   (ha_Pour : PySem.W.findIn K (.ref C_Pour) "__class__" = some (some (.builtin "object.__class__")))
   (hm_Pour : PySem.W.mroIn K C_Pour (.type "object") = some true)
   (a_Fill : PySem.W.nsIn K mainGlobals "Fill" = some (some (.ref C_Fill)))
   (pg_Fill : PySem.W.plainGet K C_Fill Str.empty = true)
   (hd_Fill : PySem.W.hasDictIn K C_Fill = true)
   (po_Fill : PySem.W.plainOver K C_Fill = true)
   (sa_Fill : PySem.W.findIn K (.ref C_Fill) "__setattr__" = some (some (.builtin "object.__setattr__")))
   (mk_Fill : PySem.W.makesIn K C_Fill = true)
   (kc_Fill : PySem.W.keepIn K (.ref C_Fill) = true)
   (n_Fill_jug : PySem.W.findIn K (.ref C_Fill) "jug" = some none)
   (ha_Fill : PySem.W.findIn K (.ref C_Fill) "__class__" = some (some (.builtin "object.__class__")))
   (hm_Fill : PySem.W.mroIn K C_Fill (.type "object") = some true)
   (a_Empty : PySem.W.nsIn K mainGlobals "Empty" = some (some (.ref C_Empty)))
   (pg_Empty : PySem.W.plainGet K C_Empty Str.empty = true)
   (hd_Empty : PySem.W.hasDictIn K C_Empty = true)
   (po_Empty : PySem.W.plainOver K C_Empty = true)
   (sa_Empty : PySem.W.findIn K (.ref C_Empty) "__setattr__" = some (some (.builtin "object.__setattr__")))
   (mk_Empty : PySem.W.makesIn K C_Empty = true)
   (kc_Empty : PySem.W.keepIn K (.ref C_Empty) = true)
   (n_Empty_jug : PySem.W.findIn K (.ref C_Empty) "jug" = some none)
   (ha_Empty : PySem.W.findIn K (.ref C_Empty) "__class__" = some (some (.builtin "object.__class__")))
   (hm_Empty : PySem.W.mroIn K C_Empty (.type "object") = some true)
   (a_House : PySem.W.nsIn K mainGlobals "House" = some (some (.ref C_House)))
   (pg_House : PySem.W.plainGet K C_House Str.empty = true)
   (hd_House : PySem.W.hasDictIn K C_House = true)
   (po_House : PySem.W.plainOver K C_House = true)
   (sa_House : PySem.W.findIn K (.ref C_House) "__setattr__" = some (some (.builtin "object.__setattr__")))
   (mk_House : PySem.W.makesIn K C_House = true)
   (kc_House : PySem.W.keepIn K (.ref C_House) = true)
   (n_House_jug_sizes : PySem.W.findIn K (.ref C_House) "jug_sizes" = some none)
   (n_House_tap : PySem.W.findIn K (.ref C_House) "tap" = some none)
   (a_Holds : PySem.W.nsIn K mainGlobals "Holds" = some (some (.ref C_Holds)))
   (pg_Holds : PySem.W.plainGet K C_Holds Str.empty = true)
   (hd_Holds : PySem.W.hasDictIn K C_Holds = true)
   (po_Holds : PySem.W.plainOver K C_Holds = true)
   (sa_Holds : PySem.W.findIn K (.ref C_Holds) "__setattr__" = some (some (.builtin "object.__setattr__")))
   (mk_Holds : PySem.W.makesIn K C_Holds = true)
   (kc_Holds : PySem.W.keepIn K (.ref C_Holds) = true)
   (n_Holds_jug : PySem.W.findIn K (.ref C_Holds) "jug" = some none)
   (n_Holds_many : PySem.W.findIn K (.ref C_Holds) "many" = some none)
   (ha_Holds : PySem.W.findIn K (.ref C_Holds) "__class__" = some (some (.builtin "object.__class__")))
   (hm_Holds : PySem.W.mroIn K C_Holds (.type "object") = some true)
   (a_Some : PySem.W.nsIn K mainGlobals "Some" = some (some (.ref C_Some)))
   (pg_Some : PySem.W.plainGet K C_Some Str.empty = true)
   (hd_Some : PySem.W.hasDictIn K C_Some = true)
   (po_Some : PySem.W.plainOver K C_Some = true)
   (sa_Some : PySem.W.findIn K (.ref C_Some) "__setattr__" = some (some (.builtin "object.__setattr__")))
   (mk_Some : PySem.W.makesIn K C_Some = true)
   (kc_Some : PySem.W.keepIn K (.ref C_Some) = true)
   (n_Some_many : PySem.W.findIn K (.ref C_Some) "many" = some none)
   (ha_Some : PySem.W.findIn K (.ref C_Some) "__class__" = some (some (.builtin "object.__class__")))
   (hm_Some : PySem.W.mroIn K C_Some (.type "object") = some true)
   (a_Sum : PySem.W.nsIn K mainGlobals "Sum" = some (some (.ref C_Sum)))
   (pg_Sum : PySem.W.plainGet K C_Sum Str.empty = true)
   (hd_Sum : PySem.W.hasDictIn K C_Sum = true)
   (po_Sum : PySem.W.plainOver K C_Sum = true)
   (sa_Sum : PySem.W.findIn K (.ref C_Sum) "__setattr__" = some (some (.builtin "object.__setattr__")))
   (mk_Sum : PySem.W.makesIn K C_Sum = true)
   (kc_Sum : PySem.W.keepIn K (.ref C_Sum) = true)
   (n_Sum_jugs : PySem.W.findIn K (.ref C_Sum) "jugs" = some none)
   (n_Sum_many : PySem.W.findIn K (.ref C_Sum) "many" = some none)
   (ha_Sum : PySem.W.findIn K (.ref C_Sum) "__class__" = some (some (.builtin "object.__class__")))
   (hm_Sum : PySem.W.mroIn K C_Sum (.type "object") = some true)
   (a_Whole : PySem.W.nsIn K mainGlobals "Whole" = some (some (.ref C_Whole)))
   (pg_Whole : PySem.W.plainGet K C_Whole Str.empty = true)
   (hd_Whole : PySem.W.hasDictIn K C_Whole = true)
   (po_Whole : PySem.W.plainOver K C_Whole = true)
   (sa_Whole : PySem.W.findIn K (.ref C_Whole) "__setattr__" = some (some (.builtin "object.__setattr__")))
   (mk_Whole : PySem.W.makesIn K C_Whole = true)
   (kc_Whole : PySem.W.keepIn K (.ref C_Whole) = true)
   (n_Whole_state : PySem.W.findIn K (.ref C_Whole) "state" = some none)
   (ha_Whole : PySem.W.findIn K (.ref C_Whole) "__class__" = some (some (.builtin "object.__class__")))
   (hm_Whole : PySem.W.mroIn K C_Whole (.type "object") = some true)
   (a_Goal : PySem.W.nsIn K mainGlobals "Goal" = some (some (.ref C_Goal)))
   (pg_Goal : PySem.W.plainGet K C_Goal Str.empty = true)
   (hd_Goal : PySem.W.hasDictIn K C_Goal = true)
   (po_Goal : PySem.W.plainOver K C_Goal = true)
   (sa_Goal : PySem.W.findIn K (.ref C_Goal) "__setattr__" = some (some (.builtin "object.__setattr__")))
   (a_Poured : PySem.W.nsIn K mainGlobals "Poured" = some (some (.ref C_Poured)))
   (pg_Poured : PySem.W.plainGet K C_Poured Str.empty = true)
   (hd_Poured : PySem.W.hasDictIn K C_Poured = true)
   (po_Poured : PySem.W.plainOver K C_Poured = true)
   (sa_Poured : PySem.W.findIn K (.ref C_Poured) "__setattr__" = some (some (.builtin "object.__setattr__")))
   (mk_Poured : PySem.W.makesIn K C_Poured = true)
   (kc_Poured : PySem.W.keepIn K (.ref C_Poured) = true)
   (n_Poured_pours : PySem.W.findIn K (.ref C_Poured) "pours" = some none)
   (n_Poured_heights : PySem.W.findIn K (.ref C_Poured) "heights" = some none)
   (ha_Poured : PySem.W.findIn K (.ref C_Poured) "__class__" = some (some (.builtin "object.__class__")))
   (hm_Poured : PySem.W.mroIn K C_Poured (.type "object") = some true)
   (a_Barred : PySem.W.nsIn K mainGlobals "Barred" = some (some (.ref C_Barred)))
   (pg_Barred : PySem.W.plainGet K C_Barred Str.empty = true)
   (hd_Barred : PySem.W.hasDictIn K C_Barred = true)
   (po_Barred : PySem.W.plainOver K C_Barred = true)
   (sa_Barred : PySem.W.findIn K (.ref C_Barred) "__setattr__" = some (some (.builtin "object.__setattr__")))
   (mk_Barred : PySem.W.makesIn K C_Barred = true)
   (kc_Barred : PySem.W.keepIn K (.ref C_Barred) = true)
   (n_Barred_among : PySem.W.findIn K (.ref C_Barred) "among" = some none)
   (ha_Barred : PySem.W.findIn K (.ref C_Barred) "__class__" = some (some (.builtin "object.__class__")))
   (hm_Barred : PySem.W.mroIn K C_Barred (.type "object") = some true)
   (a_Answer : PySem.W.nsIn K mainGlobals "Answer" = some (some (.ref C_Answer)))
   (pg_Answer : PySem.W.plainGet K C_Answer Str.empty = true)
   (hd_Answer : PySem.W.hasDictIn K C_Answer = true)
   (po_Answer : PySem.W.plainOver K C_Answer = true)
   (sa_Answer : PySem.W.findIn K (.ref C_Answer) "__setattr__" = some (some (.builtin "object.__setattr__")))
   (hn : PySem.W.specialIn K (.builtin "object.__class__") "__get__" = some (some (.builtin "getset_descriptor.__get__")))
   (htk : PySem.W.takesIn K (.builtin "object.__class__") = some true)
   (k_Fill_Pour : PySem.W.kitOne K (.ref C_Fill) (.ref C_Pour) = some false)
   (k_Empty_Pour : PySem.W.kitOne K (.ref C_Empty) (.ref C_Pour) = some false)
   (k_Empty_Fill : PySem.W.kitOne K (.ref C_Empty) (.ref C_Fill) = some false)
   (k_Holds_Some : PySem.W.kitOne K (.ref C_Holds) (.ref C_Some) = some false)
   (k_Holds_Sum : PySem.W.kitOne K (.ref C_Holds) (.ref C_Sum) = some false)
   (k_Holds_Whole : PySem.W.kitOne K (.ref C_Holds) (.ref C_Whole) = some false)
   (k_Some_Holds : PySem.W.kitOne K (.ref C_Some) (.ref C_Holds) = some false)
   (k_Some_Sum : PySem.W.kitOne K (.ref C_Some) (.ref C_Sum) = some false)
   (k_Some_Whole : PySem.W.kitOne K (.ref C_Some) (.ref C_Whole) = some false)
   (k_Sum_Holds : PySem.W.kitOne K (.ref C_Sum) (.ref C_Holds) = some false)
   (k_Sum_Some : PySem.W.kitOne K (.ref C_Sum) (.ref C_Some) = some false)
   (k_Sum_Whole : PySem.W.kitOne K (.ref C_Sum) (.ref C_Whole) = some false)
   (k_Whole_Holds : PySem.W.kitOne K (.ref C_Whole) (.ref C_Holds) = some false)
   (k_Whole_Some : PySem.W.kitOne K (.ref C_Whole) (.ref C_Some) = some false)
   (k_Whole_Sum : PySem.W.kitOne K (.ref C_Whole) (.ref C_Sum) = some false)
   (k_Holds_Goal : PySem.W.kitOne K (.ref C_Holds) (.ref C_Goal) = some true)
   (k_Some_Goal : PySem.W.kitOne K (.ref C_Some) (.ref C_Goal) = some true)
   (k_Sum_Goal : PySem.W.kitOne K (.ref C_Sum) (.ref C_Goal) = some true)
   (k_Whole_Goal : PySem.W.kitOne K (.ref C_Whole) (.ref C_Goal) = some true)
   (k_Poured_Barred : PySem.W.kitOne K (.ref C_Poured) (.ref C_Barred) = some false)
   (k_Barred_Poured : PySem.W.kitOne K (.ref C_Barred) (.ref C_Poured) = some false)
   (k_Poured_Answer : PySem.W.kitOne K (.ref C_Poured) (.ref C_Answer) = some true)
   (k_Barred_Answer : PySem.W.kitOne K (.ref C_Barred) (.ref C_Answer) = some true)
   (a0 : PySem.W.nsIn K mainGlobals "is_number" = some (some (.ref f0)))
   (l0 : K.lookup f0 = some ⟨oc0, od0, .func (PySem.W.fnOf "is_number" "is_number" (dA s_is_number) (dB s_is_number) (dZ s_is_number) .none kV0 dc0 pm0 an0 cd0 ct0), sl0⟩)
   (c0 : PySem.W.codeIn K cd0 "is_number" = true)
   (kp0 : PySem.W.keepIn K (.ref f0) = true)
   (a1 : PySem.W.nsIn K mainGlobals "is_jug" = some (some (.ref f1)))
   (l1 : K.lookup f1 = some ⟨oc1, od1, .func (PySem.W.fnOf "is_jug" "is_jug" (dA s_is_jug) (dB s_is_jug) (dZ s_is_jug) .none kV1 dc1 pm1 an1 cd1 ct1), sl1⟩)
   (c1 : PySem.W.codeIn K cd1 "is_jug" = true)
   (kp1 : PySem.W.keepIn K (.ref f1) = true)
   (a2_House : PySem.W.findIn K (.ref C_House) "sizes" = some (some (.ref f2)))
   (i2 : PySem.W.isFn K (.ref f2) = true)
   (l2 : K.lookup f2 = some ⟨oc2, od2, .func (PySem.W.fnOf "sizes" "House.sizes" (dA s_House_sizes) (dB s_House_sizes) (dZ s_House_sizes) .none kV2 dc2 pm2 an2 cd2 ct2), sl2⟩)
   (c2 : PySem.W.codeIn K cd2 "House.sizes" = true)
   (kp2 : PySem.W.keepIn K (.ref f2) = true)
   (a3 : PySem.W.nsIn K mainGlobals "held_in" = some (some (.ref f3)))
   (l3 : K.lookup f3 = some ⟨oc3, od3, .func (PySem.W.fnOf "held_in" "held_in" (dA s_held_in) (dB s_held_in) (dZ s_held_in) .none kV3 dc3 pm3 an3 cd3 ct3), sl3⟩)
   (c3 : PySem.W.codeIn K cd3 "held_in" = true)
   (kp3 : PySem.W.keepIn K (.ref f3) = true)
   (a4 : PySem.W.nsIn K mainGlobals "with_amount" = some (some (.ref f4)))
   (l4 : K.lookup f4 = some ⟨oc4, od4, .func (PySem.W.fnOf "with_amount" "with_amount" (dA s_with_amount) (dB s_with_amount) (dZ s_with_amount) .none kV4 dc4 pm4 an4 cd4 ct4), sl4⟩)
   (c4 : PySem.W.codeIn K cd4 "with_amount" = true)
   (kp4 : PySem.W.keepIn K (.ref f4) = true)
   (a5 : PySem.W.nsIn K mainGlobals "check_jug_moves" = some (some (.ref f5)))
   (l5 : K.lookup f5 = some ⟨oc5, od5, .func (PySem.W.fnOf "check_jug" "check_jug" (dA s_check_jug') (dB s_check_jug') (dZ s_check_jug') .none kV5 dc5 pm5 an5 cd5 ct5), sl5⟩)
   (c5 : PySem.W.codeIn K cd5 "check_jug" = true)
   (kp5 : PySem.W.keepIn K (.ref f5) = true)
   (a6 : PySem.W.nsIn K mainGlobals "check_house_has_moves" = some (some (.ref f6)))
   (l6 : K.lookup f6 = some ⟨oc6, od6, .func (PySem.W.fnOf "check_house_has" "check_house_has" (dA s_check_house_has') (dB s_check_house_has') (dZ s_check_house_has') .none kV6 dc6 pm6 an6 cd6 ct6), sl6⟩)
   (c6 : PySem.W.codeIn K cd6 "check_house_has" = true)
   (kp6 : PySem.W.keepIn K (.ref f6) = true)
   (a7 : PySem.W.nsIn K mainGlobals "check_house_can_tap" = some (some (.ref f7)))
   (l7 : K.lookup f7 = some ⟨oc7, od7, .func (PySem.W.fnOf "check_house_can_tap" "check_house_can_tap" (dA s_check_house_can_tap) (dB s_check_house_can_tap) (dZ s_check_house_can_tap) .none kV7 dc7 pm7 an7 cd7 ct7), sl7⟩)
   (c7 : PySem.W.codeIn K cd7 "check_house_can_tap" = true)
   (kp7 : PySem.W.keepIn K (.ref f7) = true)
   (a8_Pour : PySem.W.findIn K (.ref C_Pour) "__init__" = some (some (.ref f8)))
   (i8 : PySem.W.isFn K (.ref f8) = true)
   (l8 : K.lookup f8 = some ⟨oc8, od8, .func (PySem.W.fnOf "__init__" "Pour.__init__" (dA s_Pour_init) (dB s_Pour_init) (dZ s_Pour_init) .none kV8 dc8 pm8 an8 cd8 ct8), sl8⟩)
   (c8 : PySem.W.codeIn K cd8 "Pour.__init__" = true)
   (kp8 : PySem.W.keepIn K (.ref f8) = true)
   (a9_Fill : PySem.W.findIn K (.ref C_Fill) "__init__" = some (some (.ref f9)))
   (i9 : PySem.W.isFn K (.ref f9) = true)
   (l9 : K.lookup f9 = some ⟨oc9, od9, .func (PySem.W.fnOf "__init__" "Fill.__init__" (dA s_Fill_init) (dB s_Fill_init) (dZ s_Fill_init) .none kV9 dc9 pm9 an9 cd9 ct9), sl9⟩)
   (c9 : PySem.W.codeIn K cd9 "Fill.__init__" = true)
   (kp9 : PySem.W.keepIn K (.ref f9) = true)
   (a10_Empty : PySem.W.findIn K (.ref C_Empty) "__init__" = some (some (.ref f10)))
   (i10 : PySem.W.isFn K (.ref f10) = true)
   (l10 : K.lookup f10 = some ⟨oc10, od10, .func (PySem.W.fnOf "__init__" "Empty.__init__" (dA s_Empty_init) (dB s_Empty_init) (dZ s_Empty_init) .none kV10 dc10 pm10 an10 cd10 ct10), sl10⟩)
   (c10 : PySem.W.codeIn K cd10 "Empty.__init__" = true)
   (kp10 : PySem.W.keepIn K (.ref f10) = true)
   (a11_Pour : PySem.W.findIn K (.ref C_Pour) "held_behind" = some (some (.ref f11)))
   (i11 : PySem.W.isFn K (.ref f11) = true)
   (l11 : K.lookup f11 = some ⟨oc11, od11, .func (PySem.W.fnOf "held_behind" "Pour.held_behind" (dA s_Pour_held_behind) (dB s_Pour_held_behind) (dZ s_Pour_held_behind) .none kV11 dc11 pm11 an11 cd11 ct11), sl11⟩)
   (c11 : PySem.W.codeIn K cd11 "Pour.held_behind" = true)
   (kp11 : PySem.W.keepIn K (.ref f11) = true)
   (a12_Fill : PySem.W.findIn K (.ref C_Fill) "held_behind" = some (some (.ref f12)))
   (i12 : PySem.W.isFn K (.ref f12) = true)
   (l12 : K.lookup f12 = some ⟨oc12, od12, .func (PySem.W.fnOf "held_behind" "Fill.held_behind" (dA s_Fill_held_behind) (dB s_Fill_held_behind) (dZ s_Fill_held_behind) .none kV12 dc12 pm12 an12 cd12 ct12), sl12⟩)
   (c12 : PySem.W.codeIn K cd12 "Fill.held_behind" = true)
   (kp12 : PySem.W.keepIn K (.ref f12) = true)
   (a13_Empty : PySem.W.findIn K (.ref C_Empty) "held_behind" = some (some (.ref f13)))
   (i13 : PySem.W.isFn K (.ref f13) = true)
   (l13 : K.lookup f13 = some ⟨oc13, od13, .func (PySem.W.fnOf "held_behind" "Empty.held_behind" (dA s_Empty_held_behind) (dB s_Empty_held_behind) (dZ s_Empty_held_behind) .none kV13 dc13 pm13 an13 cd13 ct13), sl13⟩)
   (c13 : PySem.W.codeIn K cd13 "Empty.held_behind" = true)
   (kp13 : PySem.W.keepIn K (.ref f13) = true)
   (a14_Pour : PySem.W.findIn K (.ref C_Pour) "done" = some (some (.ref f14)))
   (a14_Fill : PySem.W.findIn K (.ref C_Fill) "done" = some (some (.ref f14)))
   (a14_Empty : PySem.W.findIn K (.ref C_Empty) "done" = some (some (.ref f14)))
   (i14 : PySem.W.isFn K (.ref f14) = true)
   (l14 : K.lookup f14 = some ⟨oc14, od14, .func (PySem.W.fnOf "done" "Move.done" (dA s_Move_done) (dB s_Move_done) (dZ s_Move_done) .none kV14 dc14 pm14 an14 cd14 ct14), sl14⟩)
   (c14 : PySem.W.codeIn K cd14 "Move.done" = true)
   (kp14 : PySem.W.keepIn K (.ref f14) = true)
   (a15 : PySem.W.nsIn K mainGlobals "moves_in" = some (some (.ref f15)))
   (l15 : K.lookup f15 = some ⟨oc15, od15, .func (PySem.W.fnOf "moves_in" "moves_in" (dA s_moves_in) (dB s_moves_in) (dZ s_moves_in) .none kV15 dc15 pm15 an15 cd15 ct15), sl15⟩)
   (c15 : PySem.W.codeIn K cd15 "moves_in" = true)
   (kp15 : PySem.W.keepIn K (.ref f15) = true)
   (a16 : PySem.W.nsIn K mainGlobals "count_states" = some (some (.ref f16)))
   (l16 : K.lookup f16 = some ⟨oc16, od16, .func (PySem.W.fnOf "count_states" "count_states" (dA s_count_states) (dB s_count_states) (dZ s_count_states) .none kV16 dc16 pm16 an16 cd16 ct16), sl16⟩)
   (c16 : PySem.W.codeIn K cd16 "count_states" = true)
   (kp16 : PySem.W.keepIn K (.ref f16) = true)
   (a17 : PySem.W.nsIn K mainGlobals "sizes_in" = some (some (.ref f17)))
   (l17 : K.lookup f17 = some ⟨oc17, od17, .func (PySem.W.fnOf "sizes_in" "sizes_in" (dA s_sizes_in) (dB s_sizes_in) (dZ s_sizes_in) .none kV17 dc17 pm17 an17 cd17 ct17), sl17⟩)
   (c17 : PySem.W.codeIn K cd17 "sizes_in" = true)
   (kp17 : PySem.W.keepIn K (.ref f17) = true)
   (a18_House : PySem.W.findIn K (.ref C_House) "__init__" = some (some (.ref f18)))
   (i18 : PySem.W.isFn K (.ref f18) = true)
   (l18 : K.lookup f18 = some ⟨oc18, od18, .func (PySem.W.fnOf "__init__" "House.__init__" (dA s_House_init) (dB s_House_init) (dZ s_House_init) .none kV18 dc18 pm18 an18 cd18 ct18), sl18⟩)
   (c18 : PySem.W.codeIn K cd18 "House.__init__" = true)
   (kp18 : PySem.W.keepIn K (.ref f18) = true)
   (a19 : PySem.W.nsIn K mainGlobals "pours_among" = some (some (.ref f19)))
   (l19 : K.lookup f19 = some ⟨oc19, od19, .func (PySem.W.fnOf "pours_among" "pours_among" (dA s_pours_among) (dB s_pours_among) (dZ s_pours_among) .none kV19 dc19 pm19 an19 cd19 ct19), sl19⟩)
   (c19 : PySem.W.codeIn K cd19 "pours_among" = true)
   (kp19 : PySem.W.keepIn K (.ref f19) = true)
   (a20_House : PySem.W.findIn K (.ref C_House) "moves" = some (some (.ref f20)))
   (i20 : PySem.W.isFn K (.ref f20) = true)
   (l20 : K.lookup f20 = some ⟨oc20, od20, .func (PySem.W.fnOf "moves" "House.moves" (dA s_House_moves) (dB s_House_moves) (dZ s_House_moves) .none kV20 dc20 pm20 an20 cd20 ct20), sl20⟩)
   (c20 : PySem.W.codeIn K cd20 "House.moves" = true)
   (kp20 : PySem.W.keepIn K (.ref f20) = true)
   (a21 : PySem.W.nsIn K mainGlobals "ways_from" = some (some (.ref f21)))
   (l21 : K.lookup f21 = some ⟨oc21, od21, .func (PySem.W.fnOf "ways_from" "ways_from" (dA s_ways_from) (dB s_ways_from) (dZ s_ways_from) .none kV21 dc21 pm21 an21 cd21 ct21), sl21⟩)
   (c21 : PySem.W.codeIn K cd21 "ways_from" = true)
   (kp21 : PySem.W.keepIn K (.ref f21) = true)
   (a22 : PySem.W.nsIn K mainGlobals "check_jug_goals" = some (some (.ref f22)))
   (l22 : K.lookup f22 = some ⟨oc22, od22, .func (PySem.W.fnOf "check_jug" "check_jug" (dA s_check_jug) (dB s_check_jug) (dZ s_check_jug) .none kV22 dc22 pm22 an22 cd22 ct22), sl22⟩)
   (c22 : PySem.W.codeIn K cd22 "check_jug" = true)
   (kp22 : PySem.W.keepIn K (.ref f22) = true)
   (a23 : PySem.W.nsIn K mainGlobals "check_house_has_goals" = some (some (.ref f23)))
   (l23 : K.lookup f23 = some ⟨oc23, od23, .func (PySem.W.fnOf "check_house_has" "check_house_has" (dA s_check_house_has) (dB s_check_house_has) (dZ s_check_house_has) .none kV23 dc23 pm23 an23 cd23 ct23), sl23⟩)
   (c23 : PySem.W.codeIn K cd23 "check_house_has" = true)
   (kp23 : PySem.W.keepIn K (.ref f23) = true)
   (a24 : PySem.W.nsIn K mainGlobals "check_amount" = some (some (.ref f24)))
   (l24 : K.lookup f24 = some ⟨oc24, od24, .func (PySem.W.fnOf "check_amount" "check_amount" (dA s_check_amount) (dB s_check_amount) (dZ s_check_amount) .none kV24 dc24 pm24 an24 cd24 ct24), sl24⟩)
   (c24 : PySem.W.codeIn K cd24 "check_amount" = true)
   (kp24 : PySem.W.keepIn K (.ref f24) = true)
   (a25 : PySem.W.nsIn K mainGlobals "check_state_of" = some (some (.ref f25)))
   (l25 : K.lookup f25 = some ⟨oc25, od25, .func (PySem.W.fnOf "check_state_of" "check_state_of" (dA s_check_state_of) (dB s_check_state_of) (dZ s_check_state_of) .none kV25 dc25 pm25 an25 cd25 ct25), sl25⟩)
   (c25 : PySem.W.codeIn K cd25 "check_state_of" = true)
   (kp25 : PySem.W.keepIn K (.ref f25) = true)
   (a26 : PySem.W.nsIn K mainGlobals "jugs_in" = some (some (.ref f26)))
   (l26 : K.lookup f26 = some ⟨oc26, od26, .func (PySem.W.fnOf "jugs_in" "jugs_in" (dA s_jugs_in) (dB s_jugs_in) (dZ s_jugs_in) .none kV26 dc26 pm26 an26 cd26 ct26), sl26⟩)
   (c26 : PySem.W.codeIn K cd26 "jugs_in" = true)
   (kp26 : PySem.W.keepIn K (.ref f26) = true)
   (a27 : PySem.W.nsIn K mainGlobals "amounts_in" = some (some (.ref f27)))
   (l27 : K.lookup f27 = some ⟨oc27, od27, .func (PySem.W.fnOf "amounts_in" "amounts_in" (dA s_amounts_in) (dB s_amounts_in) (dZ s_amounts_in) .none kV27 dc27 pm27 an27 cd27 ct27), sl27⟩)
   (c27 : PySem.W.codeIn K cd27 "amounts_in" = true)
   (kp27 : PySem.W.keepIn K (.ref f27) = true)
   (a28_Holds : PySem.W.findIn K (.ref C_Holds) "__init__" = some (some (.ref f28)))
   (i28 : PySem.W.isFn K (.ref f28) = true)
   (l28 : K.lookup f28 = some ⟨oc28, od28, .func (PySem.W.fnOf "__init__" "Holds.__init__" (dA s_Holds_init) (dB s_Holds_init) (dZ s_Holds_init) .none kV28 dc28 pm28 an28 cd28 ct28), sl28⟩)
   (c28 : PySem.W.codeIn K cd28 "Holds.__init__" = true)
   (kp28 : PySem.W.keepIn K (.ref f28) = true)
   (a29_Sum : PySem.W.findIn K (.ref C_Sum) "__init__" = some (some (.ref f29)))
   (i29 : PySem.W.isFn K (.ref f29) = true)
   (l29 : K.lookup f29 = some ⟨oc29, od29, .func (PySem.W.fnOf "__init__" "Sum.__init__" (dA s_Sum_init) (dB s_Sum_init) (dZ s_Sum_init) .none kV29 dc29 pm29 an29 cd29 ct29), sl29⟩)
   (c29 : PySem.W.codeIn K cd29 "Sum.__init__" = true)
   (kp29 : PySem.W.keepIn K (.ref f29) = true)
   (a30_Whole : PySem.W.findIn K (.ref C_Whole) "__init__" = some (some (.ref f30)))
   (i30 : PySem.W.isFn K (.ref f30) = true)
   (l30 : K.lookup f30 = some ⟨oc30, od30, .func (PySem.W.fnOf "__init__" "Whole.__init__" (dA s_Whole_init) (dB s_Whole_init) (dZ s_Whole_init) .none kV30 dc30 pm30 an30 cd30 ct30), sl30⟩)
   (c30 : PySem.W.codeIn K cd30 "Whole.__init__" = true)
   (kp30 : PySem.W.keepIn K (.ref f30) = true)
   (a31_Some : PySem.W.findIn K (.ref C_Some) "__init__" = some (some (.ref f31)))
   (i31 : PySem.W.isFn K (.ref f31) = true)
   (l31 : K.lookup f31 = some ⟨oc31, od31, .func (PySem.W.fnOf "__init__" "Some.__init__" (dA s_Some_init) (dB s_Some_init) (dZ s_Some_init) .none kV31 dc31 pm31 an31 cd31 ct31), sl31⟩)
   (c31 : PySem.W.codeIn K cd31 "Some.__init__" = true)
   (kp31 : PySem.W.keepIn K (.ref f31) = true)
   (a32_Holds : PySem.W.findIn K (.ref C_Holds) "met_by" = some (some (.ref f32)))
   (i32 : PySem.W.isFn K (.ref f32) = true)
   (l32 : K.lookup f32 = some ⟨oc32, od32, .func (PySem.W.fnOf "met_by" "Holds.met_by" (dA s_Holds_met_by) (dB s_Holds_met_by) (dZ s_Holds_met_by) .none kV32 dc32 pm32 an32 cd32 ct32), sl32⟩)
   (c32 : PySem.W.codeIn K cd32 "Holds.met_by" = true)
   (kp32 : PySem.W.keepIn K (.ref f32) = true)
   (a33_Some : PySem.W.findIn K (.ref C_Some) "met_by" = some (some (.ref f33)))
   (i33 : PySem.W.isFn K (.ref f33) = true)
   (l33 : K.lookup f33 = some ⟨oc33, od33, .func (PySem.W.fnOf "met_by" "Some.met_by" (dA s_Some_met_by) (dB s_Some_met_by) (dZ s_Some_met_by) .none kV33 dc33 pm33 an33 cd33 ct33), sl33⟩)
   (c33 : PySem.W.codeIn K cd33 "Some.met_by" = true)
   (kp33 : PySem.W.keepIn K (.ref f33) = true)
   (a34_Sum : PySem.W.findIn K (.ref C_Sum) "met_by" = some (some (.ref f34)))
   (i34 : PySem.W.isFn K (.ref f34) = true)
   (l34 : K.lookup f34 = some ⟨oc34, od34, .func (PySem.W.fnOf "met_by" "Sum.met_by" (dA s_Sum_met_by) (dB s_Sum_met_by) (dZ s_Sum_met_by) .none kV34 dc34 pm34 an34 cd34 ct34), sl34⟩)
   (c34 : PySem.W.codeIn K cd34 "Sum.met_by" = true)
   (kp34 : PySem.W.keepIn K (.ref f34) = true)
   (a35_Whole : PySem.W.findIn K (.ref C_Whole) "met_by" = some (some (.ref f35)))
   (i35 : PySem.W.isFn K (.ref f35) = true)
   (l35 : K.lookup f35 = some ⟨oc35, od35, .func (PySem.W.fnOf "met_by" "Whole.met_by" (dA s_Whole_met_by) (dB s_Whole_met_by) (dZ s_Whole_met_by) .none kV35 dc35 pm35 an35 cd35 ct35), sl35⟩)
   (c35 : PySem.W.codeIn K cd35 "Whole.met_by" = true)
   (kp35 : PySem.W.keepIn K (.ref f35) = true)
   (a36_Holds : PySem.W.findIn K (.ref C_Holds) "come" = some (some (.ref f36)))
   (a36_Some : PySem.W.findIn K (.ref C_Some) "come" = some (some (.ref f36)))
   (a36_Sum : PySem.W.findIn K (.ref C_Sum) "come" = some (some (.ref f36)))
   (a36_Whole : PySem.W.findIn K (.ref C_Whole) "come" = some (some (.ref f36)))
   (i36 : PySem.W.isFn K (.ref f36) = true)
   (l36 : K.lookup f36 = some ⟨oc36, od36, .func (PySem.W.fnOf "come" "Goal.come" (dA s_Goal_come) (dB s_Goal_come) (dZ s_Goal_come) .none kV36 dc36 pm36 an36 cd36 ct36), sl36⟩)
   (c36 : PySem.W.codeIn K cd36 "Goal.come" = true)
   (kp36 : PySem.W.keepIn K (.ref f36) = true)
   (a37 : PySem.W.nsIn K mainGlobals "check_goal" = some (some (.ref f37)))
   (l37 : K.lookup f37 = some ⟨oc37, od37, .func (PySem.W.fnOf "check_goal" "check_goal" (dA s_check_goal) (dB s_check_goal) (dZ s_check_goal) .none kV37 dc37 pm37 an37 cd37 ct37), sl37⟩)
   (c37 : PySem.W.codeIn K cd37 "check_goal" = true)
   (kp37 : PySem.W.keepIn K (.ref f37) = true)
   (a38 : PySem.W.nsIn K mainGlobals "nearest" = some (some (.ref f38)))
   (l38 : K.lookup f38 = some ⟨oc38, od38, .func (PySem.W.fnOf "nearest" "nearest" (dA s_nearest) (dB s_nearest) (dZ s_nearest) .none kV38 dc38 pm38 an38 cd38 ct38), sl38⟩)
   (c38 : PySem.W.codeIn K cd38 "nearest" = true)
   (kp38 : PySem.W.keepIn K (.ref f38) = true)
   (a39 : PySem.W.nsIn K mainGlobals "moves_to" = some (some (.ref f39)))
   (l39 : K.lookup f39 = some ⟨oc39, od39, .func (PySem.W.fnOf "moves_to" "moves_to" (dA s_moves_to) (dB s_moves_to) (dZ s_moves_to) .none kV39 dc39 pm39 an39 cd39 ct39), sl39⟩)
   (c39 : PySem.W.codeIn K cd39 "moves_to" = true)
   (kp39 : PySem.W.keepIn K (.ref f39) = true)
   (a40 : PySem.W.nsIn K mainGlobals "heights_in" = some (some (.ref f40)))
   (l40 : K.lookup f40 = some ⟨oc40, od40, .func (PySem.W.fnOf "heights_in" "heights_in" (dA s_heights_in) (dB s_heights_in) (dZ s_heights_in) .none kV40 dc40 pm40 an40 cd40 ct40), sl40⟩)
   (c40 : PySem.W.codeIn K cd40 "heights_in" = true)
   (kp40 : PySem.W.keepIn K (.ref f40) = true)
   (a41_Poured : PySem.W.findIn K (.ref C_Poured) "__init__" = some (some (.ref f41)))
   (i41 : PySem.W.isFn K (.ref f41) = true)
   (l41 : K.lookup f41 = some ⟨oc41, od41, .func (PySem.W.fnOf "__init__" "Poured.__init__" (dA s_Poured_init) (dB s_Poured_init) (dZ s_Poured_init) .none kV41 dc41 pm41 an41 cd41 ct41), sl41⟩)
   (c41 : PySem.W.codeIn K cd41 "Poured.__init__" = true)
   (kp41 : PySem.W.keepIn K (.ref f41) = true)
   (a42_Barred : PySem.W.findIn K (.ref C_Barred) "__init__" = some (some (.ref f42)))
   (i42 : PySem.W.isFn K (.ref f42) = true)
   (l42 : K.lookup f42 = some ⟨oc42, od42, .func (PySem.W.fnOf "__init__" "Barred.__init__" (dA s_Barred_init) (dB s_Barred_init) (dZ s_Barred_init) .none kV42 dc42 pm42 an42 cd42 ct42), sl42⟩)
   (c42 : PySem.W.codeIn K cd42 "Barred.__init__" = true)
   (kp42 : PySem.W.keepIn K (.ref f42) = true)
   (a43 : PySem.W.nsIn K mainGlobals "fewest" = some (some (.ref f43)))
   (l43 : K.lookup f43 = some ⟨oc43, od43, .func (PySem.W.fnOf "fewest" "fewest" (dA s_fewest) (dB s_fewest) (dZ s_fewest) .none kV43 dc43 pm43 an43 cd43 ct43), sl43⟩)
   (c43 : PySem.W.codeIn K cd43 "fewest" = true)
   (kp43 : PySem.W.keepIn K (.ref f43) = true)
   (a44 : PySem.W.nsIn K mainGlobals "_law_cell_at" = some (some (.ref f44)))
   (l44 : K.lookup f44 = some ⟨oc44, od44, .func (PySem.W.fnOf "_law_cell_at" "_law_cell_at" (dA s__law_cell_at) (dB s__law_cell_at) (dZ s__law_cell_at) .none kV44 dc44 pm44 an44 cd44 ct44), sl44⟩)
   (c44 : PySem.W.codeIn K cd44 "_law_cell_at" = true)
   (kp44 : PySem.W.keepIn K (.ref f44) = true)
   (a45 : PySem.W.nsIn K mainGlobals "_law_draw" = some (some (.ref f45)))
   (l45 : K.lookup f45 = some ⟨oc45, od45, .func (PySem.W.fnOf "_law_draw" "_law_draw" (dA s__law_draw) (dB s__law_draw) (dZ s__law_draw) .none kV45 dc45 pm45 an45 cd45 ct45), sl45⟩)
   (c45 : PySem.W.codeIn K cd45 "_law_draw" = true)
   (kp45 : PySem.W.keepIn K (.ref f45) = true)
   (a46 : PySem.W.nsIn K mainGlobals "move_text" = some (some (.ref f46)))
   (l46 : K.lookup f46 = some ⟨oc46, od46, .func (PySem.W.fnOf "move_text" "move_text" (dA s_move_text) (dB s_move_text) (dZ s_move_text) .none kV46 dc46 pm46 an46 cd46 ct46), sl46⟩)
   (c46 : PySem.W.codeIn K cd46 "move_text" = true)
   (kp46 : PySem.W.keepIn K (.ref f46) = true)
   (a47 : PySem.W.nsIn K mainGlobals "routine_text" = some (some (.ref f47)))
   (l47 : K.lookup f47 = some ⟨oc47, od47, .func (PySem.W.fnOf "routine_text" "routine_text" (dA s_routine_text) (dB s_routine_text) (dZ s_routine_text) .none kV47 dc47 pm47 an47 cd47 ct47), sl47⟩)
   (c47 : PySem.W.codeIn K cd47 "routine_text" = true)
   (kp47 : PySem.W.keepIn K (.ref f47) = true)
   (a48 : PySem.W.nsIn K mainGlobals "_law_sizes" = some (some (.ref f48)))
   (l48 : K.lookup f48 = some ⟨oc48, od48, .func (PySem.W.fnOf "_law_sizes" "_law_sizes" (dA s__law_sizes) (dB s__law_sizes) (dZ s__law_sizes) .none kV48 dc48 pm48 an48 cd48 ct48), sl48⟩)
   (c48 : PySem.W.codeIn K cd48 "_law_sizes" = true)
   (kp48 : PySem.W.keepIn K (.ref f48) = true)
   (a49 : PySem.W.nsIn K mainGlobals "_law_state" = some (some (.ref f49)))
   (l49 : K.lookup f49 = some ⟨oc49, od49, .func (PySem.W.fnOf "_law_state" "_law_state" (dA s__law_state) (dB s__law_state) (dZ s__law_state) .none kV49 dc49 pm49 an49 cd49 ct49), sl49⟩)
   (c49 : PySem.W.codeIn K cd49 "_law_state" = true)
   (kp49 : PySem.W.keepIn K (.ref f49) = true)
   (a50 : PySem.W.nsIn K mainGlobals "_law_all_moves" = some (some (.ref f50)))
   (l50 : K.lookup f50 = some ⟨oc50, od50, .func (PySem.W.fnOf "_law_all_moves" "_law_all_moves" (dA s__law_all_moves) (dB s__law_all_moves) (dZ s__law_all_moves) .none kV50 dc50 pm50 an50 cd50 ct50), sl50⟩)
   (c50 : PySem.W.codeIn K cd50 "_law_all_moves" = true)
   (kp50 : PySem.W.keepIn K (.ref f50) = true)
   (a51 : PySem.W.nsIn K mainGlobals "_law_behind" = some (some (.ref f51)))
   (l51 : K.lookup f51 = some ⟨oc51, od51, .func (PySem.W.fnOf "_law_behind" "_law_behind" (dA s__law_behind) (dB s__law_behind) (dZ s__law_behind) .none kV51 dc51 pm51 an51 cd51 ct51), sl51⟩)
   (c51 : PySem.W.codeIn K cd51 "_law_behind" = true)
   (kp51 : PySem.W.keepIn K (.ref f51) = true)
   (a52 : PySem.W.nsIn K mainGlobals "_law_told" = some (some (.ref f52)))
   (l52 : K.lookup f52 = some ⟨oc52, od52, .func (PySem.W.fnOf "_law_told" "_law_told" (dA s__law_told) (dB s__law_told) (dZ s__law_told) .none kV52 dc52 pm52 an52 cd52 ct52), sl52⟩)
   (c52 : PySem.W.codeIn K cd52 "_law_told" = true)
   (kp52 : PySem.W.keepIn K (.ref f52) = true)
   (a53 : PySem.W.nsIn K mainGlobals "_law_goal" = some (some (.ref f53)))
   (l53 : K.lookup f53 = some ⟨oc53, od53, .func (PySem.W.fnOf "_law_goal" "_law_goal" (dA s__law_goal) (dB s__law_goal) (dZ s__law_goal) .none kV53 dc53 pm53 an53 cd53 ct53), sl53⟩)
   (c53 : PySem.W.codeIn K cd53 "_law_goal" = true)
   (kp53 : PySem.W.keepIn K (.ref f53) = true)
   (a54 : PySem.W.nsIn K mainGlobals "_law_met" = some (some (.ref f54)))
   (l54 : K.lookup f54 = some ⟨oc54, od54, .func (PySem.W.fnOf "_law_met" "_law_met" (dA s__law_met) (dB s__law_met) (dZ s__law_met) .none kV54 dc54 pm54 an54 cd54 ct54), sl54⟩)
   (c54 : PySem.W.codeIn K cd54 "_law_met" = true)
   (kp54 : PySem.W.keepIn K (.ref f54) = true)
   (a55 : PySem.W.nsIn K mainGlobals "_law_made" = some (some (.ref f55)))
   (l55 : K.lookup f55 = some ⟨oc55, od55, .func (PySem.W.fnOf "_law_made" "_law_made" (dA s__law_made) (dB s__law_made) (dZ s__law_made) .none kV55 dc55 pm55 an55 cd55 ct55), sl55⟩)
   (c55 : PySem.W.codeIn K cd55 "_law_made" = true)
   (kp55 : PySem.W.keepIn K (.ref f55) = true)
   (a56 : PySem.W.nsIn K mainGlobals "_law_is_state" = some (some (.ref f56)))
   (l56 : K.lookup f56 = some ⟨oc56, od56, .func (PySem.W.fnOf "_law_is_state" "_law_is_state" (dA s__law_is_state) (dB s__law_is_state) (dZ s__law_is_state) .none kV56 dc56 pm56 an56 cd56 ct56), sl56⟩)
   (c56 : PySem.W.codeIn K cd56 "_law_is_state" = true)
   (kp56 : PySem.W.keepIn K (.ref f56) = true)
   (a57 : PySem.W.nsIn K mainGlobals "_law_closed" = some (some (.ref f57)))
   (l57 : K.lookup f57 = some ⟨oc57, od57, .func (PySem.W.fnOf "_law_closed" "_law_closed" (dA s__law_closed) (dB s__law_closed) (dZ s__law_closed) .none kV57 dc57 pm57 an57 cd57 ct57), sl57⟩)
   (c57 : PySem.W.codeIn K cd57 "_law_closed" = true)
   (kp57 : PySem.W.keepIn K (.ref f57) = true)
   (a58 : PySem.W.nsIn K mainGlobals "_law_poured" = some (some (.ref f58)))
   (l58 : K.lookup f58 = some ⟨oc58, od58, .func (PySem.W.fnOf "_law_poured" "_law_poured" (dA s__law_poured) (dB s__law_poured) (dZ s__law_poured) .none kV58 dc58 pm58 an58 cd58 ct58), sl58⟩)
   (c58 : PySem.W.codeIn K cd58 "_law_poured" = true)
   (kp58 : PySem.W.keepIn K (.ref f58) = true)
   (a59 : PySem.W.nsIn K mainGlobals "_law_barred" = some (some (.ref f59)))
   (l59 : K.lookup f59 = some ⟨oc59, od59, .func (PySem.W.fnOf "_law_barred" "_law_barred" (dA s__law_barred) (dB s__law_barred) (dZ s__law_barred) .none kV59 dc59 pm59 an59 cd59 ct59), sl59⟩)
   (c59 : PySem.W.codeIn K cd59 "_law_barred" = true)
   (kp59 : PySem.W.keepIn K (.ref f59) = true)
   (a60 : PySem.W.nsIn K mainGlobals "law" = some (some (.ref f60)))
   (l60 : K.lookup f60 = some ⟨oc60, od60, .func (PySem.W.fnOf "law" "law" (dA s_law) (dB s_law) (dZ s_law) .none kV60 dc60 pm60 an60 cd60 ct60), sl60⟩)
   (c60 : PySem.W.codeIn K cd60 "law" = true)
   (kp60 : PySem.W.keepIn K (.ref f60) = true)
   : ∃ fd : FuncData, (∀ (s : Shared) (v : Value), BindsTo s fd ⟨[v], []⟩ [("_law_script", v)]) ∧ ∀ base : Heap, K.In base → base.Ns mainGlobals mg → FnOk l.prog w K mg base CX0 10 fa fd ["_law_script"] (spLaw K) := by
 have e := hfa.symm.trans (PySem.W.mg_of X G a60)
 cases e
 have F0 := fM (st := s_is_number) l0 c0 kp0
 have b0 := F0.binds (ps := ["value", "least", "most"]) fun _ _ _ _ _ _ us hl => by obtain ⟨_, _, _, rfl⟩ := len3 hl; rfl
 have F1 := fM (st := s_is_jug) l1 c1 kp1
 have b1 := F1.binds (ps := ["value"]) fun _ _ _ _ _ _ us hl => by obtain ⟨_, rfl⟩ := len1 hl; rfl
 have F2 := fM (st := s_House_sizes) l2 c2 kp2
 have b2 := F2.binds (ps := ["self"]) fun _ _ _ _ _ _ us hl => by obtain ⟨_, rfl⟩ := len1 hl; rfl
 have F3 := fM (st := s_held_in) l3 c3 kp3
 have b3 := F3.binds (ps := ["house", "state"]) fun _ _ _ _ _ _ us hl => by obtain ⟨_, _, rfl⟩ := len2 hl; rfl
 have F4 := fM (st := s_with_amount) l4 c4 kp4
 have b4 := F4.binds (ps := ["held", "jug", "many"]) fun _ _ _ _ _ _ us hl => by obtain ⟨_, _, _, rfl⟩ := len3 hl; rfl
 have F5 := fM (st := s_check_jug') l5 c5 kp5
 have b5 := F5.binds (ps := ["jug"]) fun _ _ _ _ _ _ us hl => by obtain ⟨_, rfl⟩ := len1 hl; rfl
 have F6 := fM (st := s_check_house_has') l6 c6 kp6
 have b6 := F6.binds (ps := ["house", "jug"]) fun _ _ _ _ _ _ us hl => by obtain ⟨_, _, rfl⟩ := len2 hl; rfl
 have F7 := fM (st := s_check_house_can_tap) l7 c7 kp7
 have b7 := F7.binds (ps := ["house", "jug"]) fun _ _ _ _ _ _ us hl => by obtain ⟨_, _, rfl⟩ := len2 hl; rfl
 have F8 := fM (st := s_Pour_init) l8 c8 kp8
 have b8 := F8.binds (ps := ["self", "one", "other"]) fun _ _ _ _ _ _ us hl => by obtain ⟨_, _, _, rfl⟩ := len3 hl; rfl
 have F9 := fM (st := s_Fill_init) l9 c9 kp9
 have b9 := F9.binds (ps := ["self", "jug"]) fun _ _ _ _ _ _ us hl => by obtain ⟨_, _, rfl⟩ := len2 hl; rfl
 have F10 := fM (st := s_Empty_init) l10 c10 kp10
 have b10 := F10.binds (ps := ["self", "jug"]) fun _ _ _ _ _ _ us hl => by obtain ⟨_, _, rfl⟩ := len2 hl; rfl
 have F11 := fM (st := s_Pour_held_behind) l11 c11 kp11
 have b11 := F11.binds (ps := ["self", "house", "held"]) fun _ _ _ _ _ _ us hl => by obtain ⟨_, _, _, rfl⟩ := len3 hl; rfl
 have F12 := fM (st := s_Fill_held_behind) l12 c12 kp12
 have b12 := F12.binds (ps := ["self", "house", "held"]) fun _ _ _ _ _ _ us hl => by obtain ⟨_, _, _, rfl⟩ := len3 hl; rfl
 have F13 := fM (st := s_Empty_held_behind) l13 c13 kp13
 have b13 := F13.binds (ps := ["self", "house", "held"]) fun _ _ _ _ _ _ us hl => by obtain ⟨_, _, _, rfl⟩ := len3 hl; rfl
 have F14 := fM (st := s_Move_done) l14 c14 kp14
 have b14 := F14.binds (ps := ["self", "house", "state"]) fun _ _ _ _ _ _ us hl => by obtain ⟨_, _, _, rfl⟩ := len3 hl; rfl
 have F15 := fM (st := s_moves_in) l15 c15 kp15
 have b15 := F15.binds (ps := ["moves"]) fun _ _ _ _ _ _ us hl => by obtain ⟨_, rfl⟩ := len1 hl; rfl
 have F16 := fM (st := s_count_states) l16 c16 kp16
 have b16 := F16.binds (ps := ["sizes"]) fun _ _ _ _ _ _ us hl => by obtain ⟨_, rfl⟩ := len1 hl; rfl
 have F17 := fM (st := s_sizes_in) l17 c17 kp17
 have b17 := F17.binds (ps := ["sizes"]) fun _ _ _ _ _ _ us hl => by obtain ⟨_, rfl⟩ := len1 hl; rfl
 have F18 := fM (st := s_House_init) l18 c18 kp18
 have b18 := F18.binds (ps := ["self", "sizes", "tap"]) fun _ _ _ _ _ _ us hl => by obtain ⟨_, _, _, rfl⟩ := len3 hl; rfl
 have F19 := fM (st := s_pours_among) l19 c19 kp19
 have b19 := F19.binds (ps := ["many"]) fun _ _ _ _ _ _ us hl => by obtain ⟨_, rfl⟩ := len1 hl; rfl
 have F20 := fM (st := s_House_moves) l20 c20 kp20
 have b20 := F20.binds (ps := ["self"]) fun _ _ _ _ _ _ us hl => by obtain ⟨_, rfl⟩ := len1 hl; rfl
 have F21 := fM (st := s_ways_from) l21 c21 kp21
 have b21 := F21.binds (ps := ["house", "state"]) fun _ _ _ _ _ _ us hl => by obtain ⟨_, _, rfl⟩ := len2 hl; rfl
 have F22 := fM (st := s_check_jug) l22 c22 kp22
 have b22 := F22.binds (ps := ["jug"]) fun _ _ _ _ _ _ us hl => by obtain ⟨_, rfl⟩ := len1 hl; rfl
 have F23 := fM (st := s_check_house_has) l23 c23 kp23
 have b23 := F23.binds (ps := ["house", "jug"]) fun _ _ _ _ _ _ us hl => by obtain ⟨_, _, rfl⟩ := len2 hl; rfl
 have F24 := fM (st := s_check_amount) l24 c24 kp24
 have b24 := F24.binds (ps := ["many"]) fun _ _ _ _ _ _ us hl => by obtain ⟨_, rfl⟩ := len1 hl; rfl
 have F25 := fM (st := s_check_state_of) l25 c25 kp25
 have b25 := F25.binds (ps := ["house", "state"]) fun _ _ _ _ _ _ us hl => by obtain ⟨_, _, rfl⟩ := len2 hl; rfl
 have F26 := fM (st := s_jugs_in) l26 c26 kp26
 have b26 := F26.binds (ps := ["jugs"]) fun _ _ _ _ _ _ us hl => by obtain ⟨_, rfl⟩ := len1 hl; rfl
 have F27 := fM (st := s_amounts_in) l27 c27 kp27
 have b27 := F27.binds (ps := ["state"]) fun _ _ _ _ _ _ us hl => by obtain ⟨_, rfl⟩ := len1 hl; rfl
 have F28 := fM (st := s_Holds_init) l28 c28 kp28
 have b28 := F28.binds (ps := ["self", "jug", "many"]) fun _ _ _ _ _ _ us hl => by obtain ⟨_, _, _, rfl⟩ := len3 hl; rfl
 have F29 := fM (st := s_Sum_init) l29 c29 kp29
 have b29 := F29.binds (ps := ["self", "jugs", "many"]) fun _ _ _ _ _ _ us hl => by obtain ⟨_, _, _, rfl⟩ := len3 hl; rfl
 have F30 := fM (st := s_Whole_init) l30 c30 kp30
 have b30 := F30.binds (ps := ["self", "state"]) fun _ _ _ _ _ _ us hl => by obtain ⟨_, _, rfl⟩ := len2 hl; rfl
 have F31 := fM (st := s_Some_init) l31 c31 kp31
 have b31 := F31.binds (ps := ["self", "many"]) fun _ _ _ _ _ _ us hl => by obtain ⟨_, _, rfl⟩ := len2 hl; rfl
 have F32 := fM (st := s_Holds_met_by) l32 c32 kp32
 have b32 := F32.binds (ps := ["self", "house", "held"]) fun _ _ _ _ _ _ us hl => by obtain ⟨_, _, _, rfl⟩ := len3 hl; rfl
 have F33 := fM (st := s_Some_met_by) l33 c33 kp33
 have b33 := F33.binds (ps := ["self", "house", "held"]) fun _ _ _ _ _ _ us hl => by obtain ⟨_, _, _, rfl⟩ := len3 hl; rfl
 have F34 := fM (st := s_Sum_met_by) l34 c34 kp34
 have b34 := F34.binds (ps := ["self", "house", "held"]) fun _ _ _ _ _ _ us hl => by obtain ⟨_, _, _, rfl⟩ := len3 hl; rfl
 have F35 := fM (st := s_Whole_met_by) l35 c35 kp35
 have b35 := F35.binds (ps := ["self", "house", "held"]) fun _ _ _ _ _ _ us hl => by obtain ⟨_, _, _, rfl⟩ := len3 hl; rfl
 have F36 := fM (st := s_Goal_come) l36 c36 kp36
 have b36 := F36.binds (ps := ["self", "house", "state"]) fun _ _ _ _ _ _ us hl => by obtain ⟨_, _, _, rfl⟩ := len3 hl; rfl
 have F37 := fM (st := s_check_goal) l37 c37 kp37
 have b37 := F37.binds (ps := ["goal"]) fun _ _ _ _ _ _ us hl => by obtain ⟨_, rfl⟩ := len1 hl; rfl
 have F38 := fM (st := s_nearest) l38 c38 kp38
 have b38 := F38.binds (ps := ["house", "ways", "goal"]) fun _ _ _ _ _ _ us hl => by obtain ⟨_, _, _, rfl⟩ := len3 hl; rfl
 have F39 := fM (st := s_moves_to) l39 c39 kp39
 have b39 := F39.binds (ps := ["ways", "state"]) fun _ _ _ _ _ _ us hl => by obtain ⟨_, _, rfl⟩ := len2 hl; rfl
 have F40 := fM (st := s_heights_in) l40 c40 kp40
 have b40 := F40.binds (ps := ["ways"]) fun _ _ _ _ _ _ us hl => by obtain ⟨_, rfl⟩ := len1 hl; rfl
 have F41 := fM (st := s_Poured_init) l41 c41 kp41
 have b41 := F41.binds (ps := ["self", "pours", "heights"]) fun _ _ _ _ _ _ us hl => by obtain ⟨_, _, _, rfl⟩ := len3 hl; rfl
 have F42 := fM (st := s_Barred_init) l42 c42 kp42
 have b42 := F42.binds (ps := ["self", "among"]) fun _ _ _ _ _ _ us hl => by obtain ⟨_, _, rfl⟩ := len2 hl; rfl
 have F43 := fM (st := s_fewest) l43 c43 kp43
 have b43 := F43.binds (ps := ["house", "state", "goal"]) fun _ _ _ _ _ _ us hl => by obtain ⟨_, _, _, rfl⟩ := len3 hl; rfl
 have F44 := fM (st := s__law_cell_at) l44 c44 kp44
 have b44 := F44.binds (ps := ["_law_script", "_law_k"]) fun _ _ _ _ _ _ us hl => by obtain ⟨_, _, rfl⟩ := len2 hl; rfl
 have F45 := fM (st := s__law_draw) l45 c45 kp45
 have b45 := F45.binds (ps := ["_law_cell", "_law_k", "_law_many"]) fun _ _ _ _ _ _ us hl => by obtain ⟨_, _, _, rfl⟩ := len3 hl; rfl
 have F46 := fM (st := s_move_text) l46 c46 kp46
 have b46 := F46.binds (ps := ["move"]) fun _ _ _ _ _ _ us hl => by obtain ⟨_, rfl⟩ := len1 hl; rfl
 have F47 := fM (st := s_routine_text) l47 c47 kp47
 have b47 := F47.binds (ps := ["moves"]) fun _ _ _ _ _ _ us hl => by obtain ⟨_, rfl⟩ := len1 hl; rfl
 have F48 := fM (st := s__law_sizes) l48 c48 kp48
 have b48 := F48.binds (ps := ["_law_cell"]) fun _ _ _ _ _ _ us hl => by obtain ⟨_, rfl⟩ := len1 hl; rfl
 have F49 := fM (st := s__law_state) l49 c49 kp49
 have b49 := F49.binds (ps := ["_law_cell", "_law_sizes_here"]) fun _ _ _ _ _ _ us hl => by obtain ⟨_, _, rfl⟩ := len2 hl; rfl
 have F50 := fM (st := s__law_all_moves) l50 c50 kp50
 have b50 := F50.binds (ps := ["_law_sizes_here", "_law_tap"]) fun _ _ _ _ _ _ us hl => by obtain ⟨_, _, rfl⟩ := len2 hl; rfl
 have F51 := fM (st := s__law_behind) l51 c51 kp51
 have b51 := F51.binds (ps := ["_law_sizes_here", "_law_state_here", "_law_told_here"]) fun _ _ _ _ _ _ us hl => by obtain ⟨_, _, _, rfl⟩ := len3 hl; rfl
 have F52 := fM (st := s__law_told) l52 c52 kp52
 have b52 := F52.binds (ps := ["_law_move"]) fun _ _ _ _ _ _ us hl => by obtain ⟨_, rfl⟩ := len1 hl; rfl
 have F53 := fM (st := s__law_goal) l53 c53 kp53
 have b53 := F53.binds (ps := ["_law_cell", "_law_sizes_here", "_law_state_here"]) fun _ _ _ _ _ _ us hl => by obtain ⟨_, _, _, rfl⟩ := len3 hl; rfl
 have F54 := fM (st := s__law_met) l54 c54 kp54
 have b54 := F54.binds (ps := ["_law_told_here", "_law_state_here"]) fun _ _ _ _ _ _ us hl => by obtain ⟨_, _, rfl⟩ := len2 hl; rfl
 have F55 := fM (st := s__law_made) l55 c55 kp55
 have b55 := F55.binds (ps := ["_law_told_here"]) fun _ _ _ _ _ _ us hl => by obtain ⟨_, rfl⟩ := len1 hl; rfl
 have F56 := fM (st := s__law_is_state) l56 c56 kp56
 have b56 := F56.binds (ps := ["_law_sizes_here", "_law_state_here"]) fun _ _ _ _ _ _ us hl => by obtain ⟨_, _, rfl⟩ := len2 hl; rfl
 have F57 := fM (st := s__law_closed) l57 c57 kp57
 have b57 := F57.binds (ps := ["_law_sizes_here", "_law_tap", "_law_heights"]) fun _ _ _ _ _ _ us hl => by obtain ⟨_, _, _, rfl⟩ := len3 hl; rfl
 have F58 := fM (st := s__law_poured) l58 c58 kp58
 have b58 := F58.binds (ps := ["_law_found", "_law_sizes_here", "_law_tap", "_law_state_here", "_law_goal_here"]) fun _ _ _ _ _ _ us hl => by obtain ⟨_, _, _, _, _, rfl⟩ := len5 hl; rfl
 have F59 := fM (st := s__law_barred) l59 c59 kp59
 have b59 := F59.binds (ps := ["_law_found", "_law_sizes_here", "_law_tap", "_law_state_here", "_law_goal_here"]) fun _ _ _ _ _ _ us hl => by obtain ⟨_, _, _, _, _, rfl⟩ := len5 hl; rfl
 have F60 := fM (st := s_law) l60 c60 kp60
 have b60 := F60.binds (ps := ["_law_script"]) fun _ _ _ _ _ _ us hl => by obtain ⟨_, rfl⟩ := len1 hl; rfl
 have g := fun {x : Str} {v : Value} (q : PySem.W.nsIn K mainGlobals x = some (some v)) => PySem.W.mg_of X G q
 have g0 := fun {x : Str} (q : PySem.W.nsIn K mainGlobals x = some none) => PySem.W.mg_none_of X G q
 have B : Bt mg := ⟨g0 z_isinstance, g0 z_int, g0 z_bool, g0 z_tuple, g0 z_list, g0 z_len, g0 z_zip, g0 z_range, g0 z_min, g0 z_str, ⟨_, g z_MOST_JUGS⟩, ⟨_, g z_MOST_SIZE⟩⟩
 have cl_Pour : Cls K C_Pour := ⟨pg_Pour, hd_Pour, po_Pour, sa_Pour⟩
 have cl_Fill : Cls K C_Fill := ⟨pg_Fill, hd_Fill, po_Fill, sa_Fill⟩
 have cl_Empty : Cls K C_Empty := ⟨pg_Empty, hd_Empty, po_Empty, sa_Empty⟩
 have cl_House : Cls K C_House := ⟨pg_House, hd_House, po_House, sa_House⟩
 have cl_Holds : Cls K C_Holds := ⟨pg_Holds, hd_Holds, po_Holds, sa_Holds⟩
 have cl_Some : Cls K C_Some := ⟨pg_Some, hd_Some, po_Some, sa_Some⟩
 have cl_Sum : Cls K C_Sum := ⟨pg_Sum, hd_Sum, po_Sum, sa_Sum⟩
 have cl_Whole : Cls K C_Whole := ⟨pg_Whole, hd_Whole, po_Whole, sa_Whole⟩
 have cl_Poured : Cls K C_Poured := ⟨pg_Poured, hd_Poured, po_Poured, sa_Poured⟩
 have cl_Barred : Cls K C_Barred := ⟨pg_Barred, hd_Barred, po_Barred, sa_Barred⟩
 have CHo : CHs K C_House := ⟨cl_House, n_House_jug_sizes, n_House_tap⟩
 let Zz : Cz := ⟨C_Pour, C_Fill, C_Empty⟩
 have M : MvC K mg Zz := ⟨⟨cl_Pour, n_Pour_one, n_Pour_other⟩, ⟨cl_Fill, n_Fill_jug⟩, ⟨cl_Empty, n_Empty_jug⟩, ⟨ha_Pour, hn, htk, hm_Pour⟩, ⟨ha_Fill, hn, htk, hm_Fill⟩, ⟨ha_Empty, hn, htk, hm_Empty⟩, g a_Pour, g a_Fill, g a_Empty, k_Fill_Pour, k_Empty_Pour, k_Empty_Fill⟩
 let Gg : Gz := ⟨C_Holds, C_Some, C_Sum, C_Whole⟩
 have GM : GoC K mg Gg C_Goal := ⟨⟨cl_Holds, n_Holds_jug, n_Holds_many⟩, ⟨cl_Some, n_Some_many⟩, ⟨cl_Sum, n_Sum_jugs, n_Sum_many⟩, ⟨cl_Whole, n_Whole_state⟩, ⟨ha_Holds, hn, htk, hm_Holds⟩, ⟨ha_Some, hn, htk, hm_Some⟩, ⟨ha_Sum, hn, htk, hm_Sum⟩, ⟨ha_Whole, hn, htk, hm_Whole⟩, g a_Goal, g a_Holds, g a_Some, g a_Sum, g a_Whole, k_Holds_Some, k_Holds_Sum, k_Holds_Whole, k_Some_Holds, k_Some_Sum, k_Some_Whole, k_Sum_Holds, k_Sum_Some, k_Sum_Whole, k_Whole_Holds, k_Whole_Some, k_Whole_Sum, k_Holds_Goal, k_Some_Goal, k_Sum_Goal, k_Whole_Goal⟩
 have kP : CPd K C_Poured := ⟨cl_Poured, n_Poured_pours, n_Poured_heights⟩
 have kB : CBa K C_Barred := ⟨cl_Barred, n_Barred_among⟩
 have tP : CTy K C_Poured := ⟨ha_Poured, hn, htk, hm_Poured⟩
 have tB : CTy K C_Barred := ⟨ha_Barred, hn, htk, hm_Barred⟩
 have AN : AnC K mg C_Poured C_Barred C_Answer := ⟨kP, kB, tP, tB, g a_Poured, g a_Barred, g a_Answer, k_Poured_Barred, k_Barred_Poured, k_Poured_Answer, k_Barred_Answer⟩
 refine ⟨PySem.W.fnOf "law" "law" (dA s_law) (dB s_law) (dZ s_law) .none kV60 dc60 pm60 an60 cd60 ct60, fun s v => .of_eq rfl, fun base _ _ => ?_⟩
 have o0 := ok_is_number (P := l.prog) (w := w) (base := base) F0 B
 have q0 : FnB l.prog w K mg base 1 "is_number" ["value", "least", "most"] _ := ⟨_, _, o0, g a0, kp0, b0⟩
 have o1 := ok_is_jug F1 B q0
 have q1 : FnB l.prog w K mg base 2 "is_jug" ["value"] _ := ⟨_, _, o1, g a1, kp1, b1⟩
 have o2 := ok_sizes (P := l.prog) (w := w) (base := base) F2 B CHo
 have q2 : MeB l.prog w K mg base 1 C_House "sizes" ["self"] _ := ⟨_, _, o2, ⟨a2_House, i2, kp2⟩, b2, cl_House⟩
 have o3 := ok_held_in F3 B q0 q2
 have q3 : FnB l.prog w K mg base 2 "held_in" ["house", "state"] _ := ⟨_, _, o3, g a3, kp3, b3⟩
 have o4 := ok_with_amount (P := l.prog) (w := w) (base := base) F4 B
 have q4 : FnB l.prog w K mg base 1 "with_amount" ["held", "jug", "many"] _ := ⟨_, _, o4, g a4, kp4, b4⟩
 have o5 := ok_check_jug F5 q1
 have q5 : FnB l.prog w K mg base 3 "check_jug_moves" ["jug"] _ := ⟨_, _, o5, g a5, kp5, b5⟩
 have o6 := ok_check_house_has F6 B q2
 have q6 : FnB l.prog w K mg base 2 "check_house_has_moves" ["house", "jug"] _ := ⟨_, _, o6, g a6, kp6, b6⟩
 have o7 := ok_check_house_can_tap F7 CHo q6
 have q7 : FnB l.prog w K mg base 3 "check_house_can_tap" ["house", "jug"] _ := ⟨_, _, o7, g a7, kp7, b7⟩
 have o8 := ok_Pour_init (Z := Zz) F8 M.po q5
 have q8 : MkB l.prog w K mg base 4 "Pour" C_Pour ["self", "one", "other"] _ := ⟨_, _, o8, g a_Pour, ⟨mk_Pour, a8_Pour, i8, kc_Pour⟩, b8⟩
 have o9 := ok_Fill_init (Z := Zz) F9 M.fi q5
 have q9 : MkB l.prog w K mg base 4 "Fill" C_Fill ["self", "jug"] _ := ⟨_, _, o9, g a_Fill, ⟨mk_Fill, a9_Fill, i9, kc_Fill⟩, b9⟩
 have o10 := ok_Empty_init (Z := Zz) F10 M.em q5
 have q10 : MkB l.prog w K mg base 4 "Empty" C_Empty ["self", "jug"] _ := ⟨_, _, o10, g a_Empty, ⟨mk_Empty, a10_Empty, i10, kc_Empty⟩, b10⟩
 have o11 := (ok_Pour_hb (Z := Zz) F11 B M.po q6 q2 q4).mono (k := 4) (by decide)
 have q11 : MeB l.prog w K mg base 4 C_Pour "held_behind" ["self", "house", "held"] _ := ⟨_, _, o11, ⟨a11_Pour, i11, kp11⟩, b11, cl_Pour⟩
 have o12 := ok_Fill_hb (Z := Zz) F12 B M.fi q7 q2 q4
 have q12 : MeB l.prog w K mg base 4 C_Fill "held_behind" ["self", "house", "held"] _ := ⟨_, _, o12, ⟨a12_Fill, i12, kp12⟩, b12, cl_Fill⟩
 have o13 := ok_Empty_hb (Z := Zz) F13 B M.em q7 q4
 have q13 : MeB l.prog w K mg base 4 C_Empty "held_behind" ["self", "house", "held"] _ := ⟨_, _, o13, ⟨a13_Empty, i13, kp13⟩, b13, cl_Empty⟩
 have o14 := ok_done (Z := Zz) F14 B q3 q11 q12 q13
 have q14_Pour : MeB l.prog w K mg base 5 C_Pour "done" ["self", "house", "state"] _ := ⟨_, _, o14, ⟨a14_Pour, i14, kp14⟩, b14, cl_Pour⟩
 have q14_Fill : MeB l.prog w K mg base 5 C_Fill "done" ["self", "house", "state"] _ := ⟨_, _, o14, ⟨a14_Fill, i14, kp14⟩, b14, cl_Fill⟩
 have q14_Empty : MeB l.prog w K mg base 5 C_Empty "done" ["self", "house", "state"] _ := ⟨_, _, o14, ⟨a14_Empty, i14, kp14⟩, b14, cl_Empty⟩
 have o15 := ok_moves_in (P := l.prog) (w := w) (base := base) (Z := Zz) F15 B M
 have q15 : FnB l.prog w K mg base 1 "moves_in" ["moves"] _ := ⟨_, _, o15, g a15, kp15, b15⟩
 have o16 := ok_count_states (P := l.prog) (w := w) (mg := mg) (base := base) F16
 have q16 : FnB l.prog w K mg base 1 "count_states" ["sizes"] _ := ⟨_, _, o16, g a16, kp16, b16⟩
 have o17 := ok_sizes_in F17 B ⟨_, g z_MOST_STATES⟩ q0 q16
 have q17 : FnB l.prog w K mg base 2 "sizes_in" ["sizes"] _ := ⟨_, _, o17, g a17, kp17, b17⟩
 have o18 := ok_House_init F18 B CHo q17
 have q18 : MkB l.prog w K mg base 3 "House" C_House ["self", "sizes", "tap"] _ := ⟨_, _, o18, g a_House, ⟨mk_House, a18_House, i18, kc_House⟩, b18⟩
 have o19 := ok_pours_among (Z := Zz) F19 B q8
 have q19 : FnB l.prog w K mg base 6 "pours_among" ["many"] _ := ⟨_, _, o19, g a19, kp19, b19⟩
 have o20 := ok_moves (Z := Zz) F20 B CHo q19 q9 q10
 have q20 : MeB l.prog w K mg base 7 C_House "moves" ["self"] _ := ⟨_, _, o20, ⟨a20_House, i20, kp20⟩, b20, cl_House⟩
 have o21 := ok_ways (Z := Zz) F21 B q3 q20 (anyC q14_Pour q14_Fill q14_Empty)
 have q21 : FnB l.prog w K mg base 8 "ways_from" ["house", "state"] _ := ⟨_, _, o21, g a21, kp21, b21⟩
 have o22 := ok_check_jug_g F22 q1
 have q22 : FnB l.prog w K mg base 3 "check_jug_goals" ["jug"] _ := ⟨_, _, o22, g a22, kp22, b22⟩
 have o23 := ok_check_house_has_g F23 B q2
 have q23 : FnB l.prog w K mg base 2 "check_house_has_goals" ["house", "jug"] _ := ⟨_, _, o23, g a23, kp23, b23⟩
 have o24 := ok_check_amount F24 ⟨_, g z_MOST_AMOUNT⟩ q0
 have q24 : FnB l.prog w K mg base 2 "check_amount" ["many"] _ := ⟨_, _, o24, g a24, kp24, b24⟩
 have o25 := ok_check_state_of F25 q3
 have q25 : FnB l.prog w K mg base 3 "check_state_of" ["house", "state"] _ := ⟨_, _, o25, g a25, kp25, b25⟩
 have o26 := ok_jugs_in F26 B (g0 z_set) q22
 have q26 : FnB l.prog w K mg base 4 "jugs_in" ["jugs"] _ := ⟨_, _, o26, g a26, kp26, b26⟩
 have o27 := ok_amounts_in F27 B q0
 have q27 : FnB l.prog w K mg base 2 "amounts_in" ["state"] _ := ⟨_, _, o27, g a27, kp27, b27⟩
 have o28 := ok_Holds_init (Z := Gg) F28 GM.ho q22 q24
 have q28 : MkB l.prog w K mg base 4 "Holds" C_Holds ["self", "jug", "many"] _ := ⟨_, _, o28, g a_Holds, ⟨mk_Holds, a28_Holds, i28, kc_Holds⟩, b28⟩
 have o29 := ok_Sum_init (Z := Gg) F29 B GM.su q26 q24
 have q29 : MkB l.prog w K mg base 5 "Sum" C_Sum ["self", "jugs", "many"] _ := ⟨_, _, o29, g a_Sum, ⟨mk_Sum, a29_Sum, i29, kc_Sum⟩, b29⟩
 have o30 := ok_Whole_init (Z := Gg) F30 B GM.wh q27
 have q30 : MkB l.prog w K mg base 3 "Whole" C_Whole ["self", "state"] _ := ⟨_, _, o30, g a_Whole, ⟨mk_Whole, a30_Whole, i30, kc_Whole⟩, b30⟩
 have o31 := ok_Some_init (Z := Gg) F31 GM.so q24
 have q31 : MkB l.prog w K mg base 3 "Some" C_Some ["self", "many"] _ := ⟨_, _, o31, g a_Some, ⟨mk_Some, a31_Some, i31, kc_Some⟩, b31⟩
 have o32 := (ok_Holds_met (Z := Gg) F32 GM.ho q23).mono (k := 4) (by decide)
 have q32 : MeB l.prog w K mg base 4 C_Holds "met_by" ["self", "house", "held"] _ := ⟨_, _, o32, ⟨a32_Holds, i32, kp32⟩, b32, cl_Holds⟩
 have o33 := (ok_Some_met (P := l.prog) (w := w) (mg := mg) (base := base) (CH := C_House) (Z := Gg) F33 GM.so).mono (k := 4) (by decide)
 have q33 : MeB l.prog w K mg base 4 C_Some "met_by" ["self", "house", "held"] _ := ⟨_, _, o33, ⟨a33_Some, i33, kp33⟩, b33, cl_Some⟩
 have o34 := (ok_Sum_met (Z := Gg) F34 GM.su (g0 z_sum) q23).mono (k := 4) (by decide)
 have q34 : MeB l.prog w K mg base 4 C_Sum "met_by" ["self", "house", "held"] _ := ⟨_, _, o34, ⟨a34_Sum, i34, kp34⟩, b34, cl_Sum⟩
 have o35 := ok_Whole_met (Z := Gg) F35 B GM.wh q25
 have q35 : MeB l.prog w K mg base 4 C_Whole "met_by" ["self", "house", "held"] _ := ⟨_, _, o35, ⟨a35_Whole, i35, kp35⟩, b35, cl_Whole⟩
 have o36 := ok_come (Z := Gg) F36 q3 q32 q33 q34 q35
 have q36_Holds : MeB l.prog w K mg base 5 C_Holds "come" ["self", "house", "state"] _ := ⟨_, _, o36, ⟨a36_Holds, i36, kp36⟩, b36, cl_Holds⟩
 have q36_Some : MeB l.prog w K mg base 5 C_Some "come" ["self", "house", "state"] _ := ⟨_, _, o36, ⟨a36_Some, i36, kp36⟩, b36, cl_Some⟩
 have q36_Sum : MeB l.prog w K mg base 5 C_Sum "come" ["self", "house", "state"] _ := ⟨_, _, o36, ⟨a36_Sum, i36, kp36⟩, b36, cl_Sum⟩
 have q36_Whole : MeB l.prog w K mg base 5 C_Whole "come" ["self", "house", "state"] _ := ⟨_, _, o36, ⟨a36_Whole, i36, kp36⟩, b36, cl_Whole⟩
 have o37 := ok_check_goal (P := l.prog) (w := w) (base := base) (G := Gg) F37 B GM
 have q37 : FnB l.prog w K mg base 1 "check_goal" ["goal"] _ := ⟨_, _, o37, g a37, kp37, b37⟩
 have o38 := ok_nearest (Z := Zz) (G := Gg) F38 (anyD q36_Holds q36_Some q36_Sum q36_Whole)
 have q38 : FnB l.prog w K mg base 6 "nearest" ["house", "ways", "goal"] _ := ⟨_, _, o38, g a38, kp38, b38⟩
 have o39 := ok_moves_to (P := l.prog) (w := w) (base := base) (Z := Zz) F39 B (g0 z_reversed)
 have q39 : FnB l.prog w K mg base 1 "moves_to" ["ways", "state"] _ := ⟨_, _, o39, g a39, kp39, b39⟩
 have o40 := ok_heights (P := l.prog) (w := w) (base := base) (Z := Zz) F40 B
 have q40 : FnB l.prog w K mg base 1 "heights_in" ["ways"] _ := ⟨_, _, o40, g a40, kp40, b40⟩
 have o41 := ok_Poured_init (P := l.prog) (w := w) (base := base) F41 B kP
 have q41 : MkB l.prog w K mg base 1 "Poured" C_Poured ["self", "pours", "heights"] _ := ⟨_, _, o41, g a_Poured, ⟨mk_Poured, a41_Poured, i41, kc_Poured⟩, b41⟩
 have o42 := ok_Barred_init (P := l.prog) (w := w) (base := base) F42 B kB
 have q42 : MkB l.prog w K mg base 1 "Barred" C_Barred ["self", "among"] _ := ⟨_, _, o42, g a_Barred, ⟨mk_Barred, a42_Barred, i42, kc_Barred⟩, b42⟩
 have o43 := ok_fewest (Z := Zz) (G := Gg) F43 B q3 q37 q21 q38 q39 q40 q41 q42
 have q43 : FnB l.prog w K mg base 9 "fewest" ["house", "state", "goal"] _ := ⟨_, _, o43, g a43, kp43, b43⟩
 have o44 := ok_cell_at (P := l.prog) (w := w) (base := base) F44 B
 have q44 : FnB l.prog w K mg base 1 "_law_cell_at" ["_law_script", "_law_k"] _ := ⟨_, _, o44, g a44, kp44, b44⟩
 have o45 := ok_draw (P := l.prog) (w := w) (mg := mg) (base := base) F45
 have q45 : FnB l.prog w K mg base 1 "_law_draw" ["_law_cell", "_law_k", "_law_many"] _ := ⟨_, _, o45, g a45, kp45, b45⟩
 have o46 := ok_move_text (P := l.prog) (w := w) (base := base) (Z := Zz) F46 B M
 have q46 : FnB l.prog w K mg base 1 "move_text" ["move"] _ := ⟨_, _, o46, g a46, kp46, b46⟩
 have o47 := ok_routine_text (Z := Zz) F47 q15 q46
 have q47 : FnB l.prog w K mg base 2 "routine_text" ["moves"] _ := ⟨_, _, o47, g a47, kp47, b47⟩
 have o48 := ok_law_sizes F48 B q45
 have q48 : FnB l.prog w K mg base 2 "_law_sizes" ["_law_cell"] _ := ⟨_, _, o48, g a48, kp48, b48⟩
 have o49 := ok_law_state F49 B q45
 have q49 : FnB l.prog w K mg base 2 "_law_state" ["_law_cell", "_law_sizes_here"] _ := ⟨_, _, o49, g a49, kp49, b49⟩
 have o50 := ok_all_moves (P := l.prog) (w := w) (base := base) F50 B
 have q50 : FnB l.prog w K mg base 1 "_law_all_moves" ["_law_sizes_here", "_law_tap"] _ := ⟨_, _, o50, g a50, kp50, b50⟩
 have o51 := ok_behind2 (P := l.prog) (w := w) (base := base) F51 B
 have q51 : FnB l.prog w K mg base 1 "_law_behind" ["_law_sizes_here", "_law_state_here", "_law_told_here"] _ := ⟨_, _, o51, g a51, kp51, b51⟩
 have o52 := ok_told (Z := Zz) F52 B q47
 have q52 : FnB l.prog w K mg base 3 "_law_told" ["_law_move"] _ := ⟨_, _, o52, g a52, kp52, b52⟩
 have o53 := ok_goal F53 B (g0 z_max) q45
 have q53 : FnB l.prog w K mg base 2 "_law_goal" ["_law_cell", "_law_sizes_here", "_law_state_here"] _ := ⟨_, _, o53, g a53, kp53, b53⟩
 have o54 := ok_lmet (P := l.prog) (w := w) (base := base) F54 (g0 z_sum)
 have q54 : FnB l.prog w K mg base 1 "_law_met" ["_law_told_here", "_law_state_here"] _ := ⟨_, _, o54, g a54, kp54, b54⟩
 have o55 := ok_lmade (G := Gg) F55 q28 q31 q29 q30
 have q55 : FnB l.prog w K mg base 7 "_law_made" ["_law_told_here"] _ := ⟨_, _, o55, g a55, kp55, b55⟩
 have o56 := ok_is_state (P := l.prog) (w := w) (base := base) F56 B
 have q56 : FnB l.prog w K mg base 1 "_law_is_state" ["_law_sizes_here", "_law_state_here"] _ := ⟨_, _, o56, g a56, kp56, b56⟩
 have o57 := ok_closed F57 (g0 z_all) q50 q51 q56
 have q57 : FnB l.prog w K mg base 2 "_law_closed" ["_law_sizes_here", "_law_tap", "_law_heights"] _ := ⟨_, _, o57, g a57, kp57, b57⟩
 have o58 := ok_poured (Z := Zz) F58 B (g0 z_any) kP q52 q50 q51 q54 q57
 have q58 : FnB l.prog w K mg base 4 "_law_poured" ["_law_found", "_law_sizes_here", "_law_tap", "_law_state_here", "_law_goal_here"] _ := ⟨_, _, o58, g a58, kp58, b58⟩
 have o59 := ok_barred F59 B kB q54 q57
 have q59 : FnB l.prog w K mg base 4 "_law_barred" ["_law_found", "_law_sizes_here", "_law_tap", "_law_state_here", "_law_goal_here"] _ := ⟨_, _, o59, g a59, kp59, b59⟩
 exact ok_law5 (Z := Zz) (G := Gg) F60 B AN q45 q44 q48 q49 q50 q51 q53 q55 q58 q59 q18 q43 q41 q42
theorem walk {l : PySem.W.OpenLaw} {q : Program} {loose : List Str} {XP : (Str → Option Value) → Heap → Prop} {YP : World → Heap → Prop} {d : DefRec} {K : Params → PySem.W.Frag} (hn : l.most = some 63) (hdf : d.params.defaults = [])
   (hY : ∀ (w : World) (h : Heap), YP w h → (K w.params).In h)
   (F : ∀ (w : World) (mg : Str → Option Value) (fa : Addr) (h : Heap), (K w.params).In h → h.Ns mainGlobals mg → mg d.name = some (.ref fa) →
     ∃ fd : FuncData, (∀ (s : Shared) (u : Value), BindsTo s fd ⟨[u], []⟩ [("_law_script", u)]) ∧ ∀ base : Heap, (K w.params).In base → base.Ns mainGlobals mg → FnOk l.prog w (K w.params) mg base CX0 10 fa fd ["_law_script"] (spLaw (K w.params))) :
   PySem.W.WalkO q loose XP YP l.row.toRowW d [] (fun f vs => PySem.call f vs) :=
 L2.walk_of (n := 63) (k := 10) (x := "_law_script") (CX := fun _ => CX0) (sp := fun w => spLaw (K w.params)) hn (by decide) hdf ⟨rfl, by decide, by decide⟩ hY F (fun _ _ a ns hl _ hS => ⟨a, ns, rfl, hS, hl, fun _ => rfl⟩) fun _ _ _ _ _ z => z
end Jug
noncomputable section
namespace Hd
open PySem PySem.W PySem.Calls PyProof.Rows
set_option maxHeartbeats 0
abbrev pg : Program := PySem.Challenge.pw_jughouse_k05_whole_fewest
def st (i : Nat) : Stmt := pg.main.body.getD i (.Pass ⟨0, 0, 0, 0⟩)
def me (i j : Nat) : Stmt := L2.inClass (st i) j
def de (P : Params) (k : Str) (t : Nat) (v : Value) : DictEntry := ⟨PyData.keyHash P k, .str k t, v⟩
def fu (s : Stmt) (n q : Str) (g : Addr) (cl : List (Str × Addr)) (a b c d : Value) (an : Option Addr) (e f : Value) (bu : Addr) : FuncData := ⟨n, q, L2.dA s, .stmts (L2.dB s), L2.dZ s, g, cl, a, b, c, d, an, e, f, bu⟩
def co (n : Str) (a : Nat) (m : Str) (b c : Nat) (L x y z u : Int) (v1 v2 v3 v4 v5 v6 v7 v8 : Value) (p l : Int) (q : Nat) : Obj := (.mk (.type "code") none (.fields #[(.str n a), (.str m b), (.str "/claim/cut.py" c), (.int L 0), (.int x 0), (.int y 0), (.int z 0), (.int u 0), v1, v2, v3, v4, v5, v6, v7, v8, (.int p 0), (.int l 0), (.str "/claim/cut.py" q)]) #[])
def fo (d : FuncData) : Obj := .mk (.type "function") none (.func d) #[]
def tu (a : Array Value) : Obj := .mk (.type "tuple") none (.seq a 0) #[]
def di (a : Array DictEntry) (n : Nat) : Obj := .mk (.type "dict") none (.dict a n) #[]
def o11 (P : Params) : Obj := (co "<module>" 182 "<module>" 183 184 1 0 0 0 0 (.ref 11) (.bool false) (.int 181 0) (.ref 12) .none .none .none .none 185 1 186)
def o12 (P : Params) : Obj := (.mk (.type "frame") none .plain #[(some (.ref 13)), (some (.ref 3)), (some (.ref 3)), none, (some (.str "__main__" 164)), none, (some (.ref 0))])
def o13 (P : Params) : Obj := (di #[(de P "__name__" 165 (.str "law_jughouse_k05_whole_fewest" 975)), (de P "__doc__" 166 .none), (de P "__package__" 167 .none), (de P "__loader__" 168 (.builtin "__main__.__loader__#opaque")), (de P "__spec__" 169 .none), (de P "__annotations__" 170 (.ref 6)), (de P "__builtins__" 171 (.ref 4)), (de P "__file__" 173 (.str "/claim/cut.py" 172)), (de P "__cached__" 174 .none), (de P "_wall" 193 (.ref 21)), (de P "JugError" 213 (.ref 31)), (de P "BadHouse" 229 (.ref 44)), (de P "BadState" 245 (.ref 56)), (de P "BadMove" 261 (.ref 68)), (de P "BadGoal" 277 (.ref 80)), (de P "MOST_JUGS" 281 (.int 4 280)), (de P "MOST_SIZE" 283 (.int 60 282)), (de P "is_number" 292 (.ref 89)), (de P "is_jug" 299 (.ref 96)), (de P "held_in" 311 (.ref 103)), (de P "MOST_AMOUNT" 315 (.int 240 314)), (de P "check_jug" 322 (.ref 374)), (de P "check_jug_goals" 323 (.ref 110)), (de P "check_amount" 330 (.ref 117)), (de P "jugs_in" 339 (.ref 124)), (de P "amounts_in" 348 (.ref 131)), (de P "check_house_has" 356 (.ref 381)), (de P "check_house_has_goals" 357 (.ref 138)), (de P "check_state_of" 365 (.ref 145)), (de P "Goal" 404 (.ref 169)), (de P "Holds" 440 (.ref 197)), (de P "Some" 474 (.ref 223)), (de P "Sum" 507 (.ref 247)), (de P "Whole" 541 (.ref 273)), (de P "check_goal" 548 (.ref 282)), (de P "ways_from" 566 (.ref 289)), (de P "Answer" 588 (.ref 299)), (de P "Poured" 612 (.ref 318)), (de P "Barred" 637 (.ref 337)), (de P "nearest" 647 (.ref 346)), (de P "moves_to" 657 (.ref 353)), (de P "heights_in" 667 (.ref 360)), (de P "fewest" 678 (.ref 367)), (de P "check_jug_moves" 688 (.ref 374)), (de P "check_house_has_moves" 697 (.ref 381)), (de P "check_house_can_tap" 705 (.ref 388)), (de P "with_amount" 715 (.ref 395)), (de P "Move" 754 (.ref 419)), (de P "Pour" 793 (.ref 447)), (de P "Fill" 827 (.ref 473)), (de P "Empty" 861 (.ref 499)), (de P "moves_in" 870 (.ref 508)), (de P "MOST_STATES" 874 (.int 2000 873)), (de P "sizes_in" 883 (.ref 515)), (de P "count_states" 892 (.ref 522)), (de P "pours_among" 902 (.ref 529)), (de P "House" 959 (.ref 570)), (de P "move_text" 968 (.ref 581)), (de P "routine_text" 974 (.ref 586)), (de P "_law_cell_at" 984 (.ref 593)), (de P "_law_draw" 994 (.ref 600)), (de P "_law_sizes" 1000 (.ref 605)), (de P "_law_state" 1011 (.ref 612)), (de P "_law_all_moves" 1017 (.ref 617)), (de P "_law_behind" 1031 (.ref 624)), (de P "_law_told" 1039 (.ref 631)), (de P "_law_goal" 1045 (.ref 636)), (de P "_law_met" 1051 (.ref 641)), (de P "_law_made" 1061 (.ref 648)), (de P "_law_is_state" 1070 (.ref 655)), (de P "_law_closed" 1076 (.ref 660)), (de P "_law_poured" 1082 (.ref 665)), (de P "_law_barred" 1095 (.ref 672)), (de P "law" 1113 (.ref 679))] 74)
def o14 (P : Params) : Obj := (.mk .none none (.fields #[(.int 1 0), (.int 0 0), (.ref 20), (.int 5 0), (.int 0 0), (.ref 27), (.int 7 0), (.int 0 0), (.ref 40), (.int 9 0), (.int 0 0), (.ref 52), (.int 11 0), (.int 0 0), (.ref 64), (.int 13 0), (.int 0 0), (.ref 76), (.int 18 0), (.int 0 0), (.ref 88), (.int 20 0), (.int 0 0), (.ref 95), (.int 22 0), (.int 0 0), (.ref 102), (.int 35 0), (.int 0 0), (.ref 109), (.int 39 0), (.int 0 0), (.ref 116), (.int 42 0), (.int 0 0), (.ref 123), (.int 53 0), (.int 0 0), (.ref 130), (.int 63 0), (.int 0 0), (.ref 137), (.int 67 0), (.int 0 0), (.ref 144), (.int 72 0), (.int 0 0), (.ref 151), (.int 80 0), (.int 0 0), (.ref 179), (.int 91 0), (.int 0 0), (.ref 205), (.int 99 0), (.int 0 0), (.ref 231), (.int 110 0), (.int 0 0), (.ref 255), (.int 118 0), (.int 0 0), (.ref 281), (.int 122 0), (.int 0 0), (.ref 288), (.int 138 0), (.int 0 0), (.ref 295), (.int 140 0), (.int 0 0), (.ref 309), (.int 145 0), (.int 0 0), (.ref 326), (.int 149 0), (.int 0 0), (.ref 345), (.int 154 0), (.int 0 0), (.ref 352), (.int 161 0), (.int 0 0), (.ref 359), (.int 167 0), (.int 0 0), (.ref 366), (.int 176 0), (.int 0 0), (.ref 373), (.int 180 0), (.int 0 0), (.ref 380), (.int 184 0), (.int 0 0), (.ref 387), (.int 188 0), (.int 0 0), (.ref 394), (.int 192 0), (.int 0 0), (.ref 401), (.int 200 0), (.int 0 0), (.ref 429), (.int 217 0), (.int 0 0), (.ref 455), (.int 226 0), (.int 0 0), (.ref 481), (.int 235 0), (.int 0 0), (.ref 507), (.int 245 0), (.int 0 0), (.ref 514), (.int 257 0), (.int 0 0), (.ref 521), (.int 262 0), (.int 0 0), (.ref 528), (.int 269 0), (.int 0 0), (.ref 535), (.int 294 0), (.int 0 0), (.ref 580), (.int 300 0), (.int 0 0), (.ref 585), (.int 303 0), (.int 0 0), (.ref 592), (.int 307 0), (.int 0 0), (.ref 599), (.int 310 0), (.int 0 0), (.ref 604), (.int 314 0), (.int 0 0), (.ref 611), (.int 320 0), (.int 0 0), (.ref 616), (.int 328 0), (.int 0 0), (.ref 623), (.int 339 0), (.int 0 0), (.ref 630), (.int 344 0), (.int 0 0), (.ref 635), (.int 355 0), (.int 0 0), (.ref 640), (.int 362 0), (.int 0 0), (.ref 647), (.int 371 0), (.int 0 0), (.ref 654), (.int 378 0), (.int 0 0), (.ref 659), (.int 388 0), (.int 0 0), (.ref 664), (.int 407 0), (.int 0 0), (.ref 671), (.int 416 0), (.int 0 0), (.ref 678)]) #[])
def o15 (P : Params) : Obj := (tu #[(.str "k" 190)])
def o16 (P : Params) : Obj := (.mk .none none (.func (fu (st 0) "_wall" "_wall" 0 [] .none .none .none .none none .none .none 0)) #[])
def o17 (P : Params) : Obj := (co "_wall" 187 "_wall" 188 189 1 1 0 0 3 (.ref 15) (.bool true) (.int 181 0) (.ref 16) .none (.ref 17) (.ref 18) (.ref 19) 191 1 192)
def o18 (P : Params) : Obj := (fo (fu (st 0) "_wall" "_wall" 3 [] .none .none .none (.str "__main__" 164) none (.ref 20) .none 0))
def o19 (P : Params) : Obj := (tu #[(.type "ValueError")])
def o20 (P : Params) : Obj := (.mk (.type "builtin_function_or_method") none (.fields #[(.builtin "type.__prepare__"), (.type "type")]) #[])
def o21 (P : Params) : Obj := (di #[(de P "__module__" 203 (.str "jughouse.errors" 194)), (de P "__qualname__" 205 (.str "JugError" 204)), (de P "__firstlineno__" 207 (.int 5 206)), (de P "__static_attributes__" 208 (.ref 29))] 4)
def o22 (P : Params) : Obj := (co "JugError" 198 "JugError" 199 200 5 0 0 0 0 (.ref 25) (.bool false) (.int 181 0) (.ref 26) .none .none .none .none 201 5 202)
def o23 (P : Params) : Obj := (.mk (.type "frame") none .plain #[(some (.ref 27)), (some (.ref 3)), (some (.ref 24)), none, (some (.str "jughouse.errors" 194)), none, (some (.ref 0))])
def o24 (P : Params) : Obj := (di #[(de P "__module__" 203 (.str "jughouse.errors" 194)), (de P "__firstlineno__" 207 (.int 5 206)), (de P "__static_attributes__" 208 (.ref 29)), (de P "__weakref__" 210 (.ref 32)), (de P "__doc__" 211 .none)] 3)
def o25 (P : Params) : Obj := (.mk (.type "type") none (.cls (.mk "JugError" [(.type "ValueError")] [(.ref 31), (.type "ValueError"), (.type "Exception"), (.type "BaseException"), (.type "object")] 30 "JugError" true [] [(.ref 44), (.ref 56), (.ref 68), (.ref 80)] false none false)) #[(some (.ref 22)), none, (some (.str "JugError" 196)), (some (.str "JugError" 204)), (some (.builtin "ValueError.__new__")), (some (.bool true))])
def o26 (P : Params) : Obj := (.mk (.type "getset_descriptor") none (.fields #[(.str "__weakref__" 209), (.ref 31), (.builtin "ExceptionGroup.__weakref__"), .none]) #[])
def o27 (P : Params) : Obj := (.mk (.type "super") none (.fields #[(.ref 31), (.ref 31), (.ref 31)]) #[])
def o28 (P : Params) : Obj := (.mk (.type "builtin_function_or_method") none (.fields #[(.builtin "object.__init_subclass__"), (.ref 31)]) #[])
def o29 (P : Params) : Obj := (tu #[(.ref 31)])
def o30 (P : Params) : Obj := (di #[(de P "__module__" 221 (.str "jughouse.errors" 194)), (de P "__qualname__" 223 (.str "BadHouse" 222)), (de P "__firstlineno__" 225 (.int 7 224)), (de P "__static_attributes__" 226 (.ref 42))] 4)
def o31 (P : Params) : Obj := (co "BadHouse" 216 "BadHouse" 217 218 7 0 0 0 0 (.ref 38) (.bool false) (.int 181 0) (.ref 39) .none .none .none .none 219 7 220)
def o32 (P : Params) : Obj := (.mk (.type "frame") none .plain #[(some (.ref 40)), (some (.ref 3)), (some (.ref 37)), none, (some (.str "jughouse.errors" 194)), none, (some (.ref 0))])
def o33 (P : Params) : Obj := (di #[(de P "__module__" 221 (.str "jughouse.errors" 194)), (de P "__firstlineno__" 225 (.int 7 224)), (de P "__static_attributes__" 226 (.ref 42)), (de P "__doc__" 227 .none)] 2)
def o34 (P : Params) : Obj := (.mk (.type "type") none (.cls (.mk "BadHouse" [(.ref 31)] [(.ref 44), (.ref 31), (.type "ValueError"), (.type "Exception"), (.type "BaseException"), (.type "object")] 43 "BadHouse" true [] [] false none false)) #[(some (.ref 35)), none, (some (.str "BadHouse" 214)), (some (.str "BadHouse" 222)), (some (.builtin "ValueError.__new__")), (some (.bool true))])
def o35 (P : Params) : Obj := (.mk (.type "super") none (.fields #[(.ref 44), (.ref 44), (.ref 44)]) #[])
def o36 (P : Params) : Obj := (.mk (.type "builtin_function_or_method") none (.fields #[(.builtin "object.__init_subclass__"), (.ref 44)]) #[])
def o37 (P : Params) : Obj := (di #[(de P "__module__" 237 (.str "jughouse.errors" 194)), (de P "__qualname__" 239 (.str "BadState" 238)), (de P "__firstlineno__" 241 (.int 9 240)), (de P "__static_attributes__" 242 (.ref 54))] 4)
def o38 (P : Params) : Obj := (co "BadState" 232 "BadState" 233 234 9 0 0 0 0 (.ref 50) (.bool false) (.int 181 0) (.ref 51) .none .none .none .none 235 9 236)
def o39 (P : Params) : Obj := (.mk (.type "frame") none .plain #[(some (.ref 52)), (some (.ref 3)), (some (.ref 49)), none, (some (.str "jughouse.errors" 194)), none, (some (.ref 0))])
def o40 (P : Params) : Obj := (di #[(de P "__module__" 237 (.str "jughouse.errors" 194)), (de P "__firstlineno__" 241 (.int 9 240)), (de P "__static_attributes__" 242 (.ref 54)), (de P "__doc__" 243 .none)] 2)
def o41 (P : Params) : Obj := (.mk (.type "type") none (.cls (.mk "BadState" [(.ref 31)] [(.ref 56), (.ref 31), (.type "ValueError"), (.type "Exception"), (.type "BaseException"), (.type "object")] 55 "BadState" true [] [] false none false)) #[(some (.ref 47)), none, (some (.str "BadState" 230)), (some (.str "BadState" 238)), (some (.builtin "ValueError.__new__")), (some (.bool true))])
def o42 (P : Params) : Obj := (.mk (.type "super") none (.fields #[(.ref 56), (.ref 56), (.ref 56)]) #[])
def o43 (P : Params) : Obj := (.mk (.type "builtin_function_or_method") none (.fields #[(.builtin "object.__init_subclass__"), (.ref 56)]) #[])
def o44 (P : Params) : Obj := (di #[(de P "__module__" 253 (.str "jughouse.errors" 194)), (de P "__qualname__" 255 (.str "BadMove" 254)), (de P "__firstlineno__" 257 (.int 11 256)), (de P "__static_attributes__" 258 (.ref 66))] 4)
def o45 (P : Params) : Obj := (co "BadMove" 248 "BadMove" 249 250 11 0 0 0 0 (.ref 62) (.bool false) (.int 181 0) (.ref 63) .none .none .none .none 251 11 252)
def o46 (P : Params) : Obj := (.mk (.type "frame") none .plain #[(some (.ref 64)), (some (.ref 3)), (some (.ref 61)), none, (some (.str "jughouse.errors" 194)), none, (some (.ref 0))])
def o47 (P : Params) : Obj := (di #[(de P "__module__" 253 (.str "jughouse.errors" 194)), (de P "__firstlineno__" 257 (.int 11 256)), (de P "__static_attributes__" 258 (.ref 66)), (de P "__doc__" 259 .none)] 2)
def o48 (P : Params) : Obj := (.mk (.type "type") none (.cls (.mk "BadMove" [(.ref 31)] [(.ref 68), (.ref 31), (.type "ValueError"), (.type "Exception"), (.type "BaseException"), (.type "object")] 67 "BadMove" true [] [] false none false)) #[(some (.ref 59)), none, (some (.str "BadMove" 246)), (some (.str "BadMove" 254)), (some (.builtin "ValueError.__new__")), (some (.bool true))])
def o49 (P : Params) : Obj := (.mk (.type "super") none (.fields #[(.ref 68), (.ref 68), (.ref 68)]) #[])
def o50 (P : Params) : Obj := (.mk (.type "builtin_function_or_method") none (.fields #[(.builtin "object.__init_subclass__"), (.ref 68)]) #[])
def o51 (P : Params) : Obj := (di #[(de P "__module__" 269 (.str "jughouse.errors" 194)), (de P "__qualname__" 271 (.str "BadGoal" 270)), (de P "__firstlineno__" 273 (.int 13 272)), (de P "__static_attributes__" 274 (.ref 78))] 4)
def o52 (P : Params) : Obj := (co "BadGoal" 264 "BadGoal" 265 266 13 0 0 0 0 (.ref 74) (.bool false) (.int 181 0) (.ref 75) .none .none .none .none 267 13 268)
def o53 (P : Params) : Obj := (.mk (.type "frame") none .plain #[(some (.ref 76)), (some (.ref 3)), (some (.ref 73)), none, (some (.str "jughouse.errors" 194)), none, (some (.ref 0))])
def o54 (P : Params) : Obj := (di #[(de P "__module__" 269 (.str "jughouse.errors" 194)), (de P "__firstlineno__" 273 (.int 13 272)), (de P "__static_attributes__" 274 (.ref 78)), (de P "__doc__" 275 .none)] 2)
def o55 (P : Params) : Obj := (.mk (.type "type") none (.cls (.mk "BadGoal" [(.ref 31)] [(.ref 80), (.ref 31), (.type "ValueError"), (.type "Exception"), (.type "BaseException"), (.type "object")] 79 "BadGoal" true [] [] false none false)) #[(some (.ref 71)), none, (some (.str "BadGoal" 262)), (some (.str "BadGoal" 270)), (some (.builtin "ValueError.__new__")), (some (.bool true))])
def o56 (P : Params) : Obj := (.mk (.type "super") none (.fields #[(.ref 80), (.ref 80), (.ref 80)]) #[])
def o57 (P : Params) : Obj := (.mk (.type "builtin_function_or_method") none (.fields #[(.builtin "object.__init_subclass__"), (.ref 80)]) #[])
def o58 (P : Params) : Obj := (tu #[(.str "value" 287), (.str "least" 288), (.str "most" 289)])
def o59 (P : Params) : Obj := (.mk .none none (.func (fu (st 10) "is_number" "is_number" 0 [] .none .none .none .none none .none .none 0)) #[])
def o60 (P : Params) : Obj := (co "is_number" 284 "is_number" 285 286 18 3 0 0 3 (.ref 83) (.bool true) (.int 181 0) (.ref 84) .none (.ref 85) (.ref 86) (.ref 87) 290 18 291)
def o61 (P : Params) : Obj := (fo (fu (st 10) "is_number" "is_number" 3 [] .none .none .none (.str "jughouse.checks" 278) none (.ref 88) .none 0))
def o62 (P : Params) : Obj := (tu #[(.str "value" 296)])
def o63 (P : Params) : Obj := (.mk .none none (.func (fu (st 11) "is_jug" "is_jug" 0 [] .none .none .none .none none .none .none 0)) #[])
def o64 (P : Params) : Obj := (co "is_jug" 293 "is_jug" 294 295 20 1 0 0 3 (.ref 90) (.bool true) (.int 181 0) (.ref 91) .none (.ref 92) (.ref 93) (.ref 94) 297 20 298)
def o65 (P : Params) : Obj := (fo (fu (st 11) "is_jug" "is_jug" 3 [] .none .none .none (.str "jughouse.checks" 278) none (.ref 95) .none 0))
def o66 (P : Params) : Obj := (tu #[(.str "house" 303), (.str "state" 304), (.str "held" 305), (.str "sizes" 306), (.str "many" 307), (.str "size" 308)])
def o67 (P : Params) : Obj := (.mk .none none (.func (fu (st 12) "held_in" "held_in" 0 [] .none .none .none .none none .none .none 0)) #[])
def o68 (P : Params) : Obj := (co "held_in" 300 "held_in" 301 302 22 2 0 0 3 (.ref 97) (.bool true) (.int 181 0) (.ref 98) .none (.ref 99) (.ref 100) (.ref 101) 309 22 310)
def o69 (P : Params) : Obj := (fo (fu (st 12) "held_in" "held_in" 3 [] .none .none .none (.str "jughouse.checks" 278) none (.ref 102) .none 0))
def o70 (P : Params) : Obj := (tu #[(.str "jug" 319)])
def o71 (P : Params) : Obj := (.mk .none none (.func (fu (st 15) "check_jug" "check_jug" 0 [] .none .none .none .none none .none .none 0)) #[])
def o72 (P : Params) : Obj := (co "check_jug" 316 "check_jug" 317 318 35 1 0 0 3 (.ref 104) (.bool true) (.int 181 0) (.ref 105) .none (.ref 106) (.ref 107) (.ref 108) 320 35 321)
def o73 (P : Params) : Obj := (fo (fu (st 15) "check_jug" "check_jug" 3 [] .none .none .none (.str "jughouse.goals" 312) none (.ref 109) .none 0))
def o74 (P : Params) : Obj := (tu #[(.str "many" 327)])
def o75 (P : Params) : Obj := (.mk .none none (.func (fu (st 17) "check_amount" "check_amount" 0 [] .none .none .none .none none .none .none 0)) #[])
def o76 (P : Params) : Obj := (co "check_amount" 324 "check_amount" 325 326 39 1 0 0 3 (.ref 111) (.bool true) (.int 181 0) (.ref 112) .none (.ref 113) (.ref 114) (.ref 115) 328 39 329)
def o77 (P : Params) : Obj := (fo (fu (st 17) "check_amount" "check_amount" 3 [] .none .none .none (.str "jughouse.goals" 312) none (.ref 116) .none 0))
def o78 (P : Params) : Obj := (tu #[(.str "jugs" 334), (.str "told" 335), (.str "jug" 336)])
def o79 (P : Params) : Obj := (.mk .none none (.func (fu (st 18) "jugs_in" "jugs_in" 0 [] .none .none .none .none none .none .none 0)) #[])
def o80 (P : Params) : Obj := (co "jugs_in" 331 "jugs_in" 332 333 42 1 0 0 3 (.ref 118) (.bool true) (.int 181 0) (.ref 119) .none (.ref 120) (.ref 121) (.ref 122) 337 42 338)
def o81 (P : Params) : Obj := (fo (fu (st 18) "jugs_in" "jugs_in" 3 [] .none .none .none (.str "jughouse.goals" 312) none (.ref 123) .none 0))
def o82 (P : Params) : Obj := (tu #[(.str "state" 343), (.str "told" 344), (.str "many" 345)])
def o83 (P : Params) : Obj := (.mk .none none (.func (fu (st 19) "amounts_in" "amounts_in" 0 [] .none .none .none .none none .none .none 0)) #[])
def o84 (P : Params) : Obj := (co "amounts_in" 340 "amounts_in" 341 342 53 1 0 0 3 (.ref 125) (.bool true) (.int 181 0) (.ref 126) .none (.ref 127) (.ref 128) (.ref 129) 346 53 347)
def o85 (P : Params) : Obj := (fo (fu (st 19) "amounts_in" "amounts_in" 3 [] .none .none .none (.str "jughouse.goals" 312) none (.ref 130) .none 0))
def o86 (P : Params) : Obj := (tu #[(.str "house" 352), (.str "jug" 353)])
def o87 (P : Params) : Obj := (.mk .none none (.func (fu (st 20) "check_house_has" "check_house_has" 0 [] .none .none .none .none none .none .none 0)) #[])
def o88 (P : Params) : Obj := (co "check_house_has" 349 "check_house_has" 350 351 63 2 0 0 3 (.ref 132) (.bool true) (.int 181 0) (.ref 133) .none (.ref 134) (.ref 135) (.ref 136) 354 63 355)
def o89 (P : Params) : Obj := (fo (fu (st 20) "check_house_has" "check_house_has" 3 [] .none .none .none (.str "jughouse.goals" 312) none (.ref 137) .none 0))
def o90 (P : Params) : Obj := (tu #[(.str "house" 361), (.str "state" 362)])
def o91 (P : Params) : Obj := (.mk .none none (.func (fu (st 22) "check_state_of" "check_state_of" 0 [] .none .none .none .none none .none .none 0)) #[])
def o92 (P : Params) : Obj := (co "check_state_of" 358 "check_state_of" 359 360 67 2 0 0 3 (.ref 139) (.bool true) (.int 181 0) (.ref 140) .none (.ref 141) (.ref 142) (.ref 143) 363 67 364)
def o93 (P : Params) : Obj := (fo (fu (st 22) "check_state_of" "check_state_of" 3 [] .none .none .none (.str "jughouse.goals" 312) none (.ref 144) .none 0))
def o94 (P : Params) : Obj := (di #[(de P "__module__" 373 (.str "jughouse.goals" 312)), (de P "__qualname__" 375 (.str "Goal" 374)), (de P "__firstlineno__" 377 (.int 72 376)), (de P "come" 387 (.ref 159)), (de P "met_by" 396 (.ref 166)), (de P "__static_attributes__" 397 (.ref 167))] 6)
def o95 (P : Params) : Obj := (.mk .none none (.fields #[(.int 74 0), (.int 4 0), (.ref 158), (.int 78 0), (.int 4 0), (.ref 165)]) #[])
def o96 (P : Params) : Obj := (co "Goal" 368 "Goal" 369 370 72 0 0 0 0 (.ref 149) (.bool false) (.int 181 0) (.ref 150) .none .none .none .none 371 72 372)
def o97 (P : Params) : Obj := (.mk (.type "frame") none .plain #[(some (.ref 151)), (some (.ref 3)), (some (.ref 148)), none, (some (.str "jughouse.goals" 312)), none, (some (.ref 0))])
def o98 (P : Params) : Obj := (tu #[(.str "self" 381), (.str "house" 382), (.str "state" 383), (.str "held" 384)])
def o99 (P : Params) : Obj := (.mk .none none (.func (fu (me 23 0) "come" "Goal.come" 0 [] .none .none .none .none none .none .none 0)) #[])
def o100 (P : Params) : Obj := (co "come" 378 "Goal.come" 379 380 74 3 0 0 3 (.ref 153) (.bool true) (.int 181 0) (.ref 154) .none (.ref 155) (.ref 156) (.ref 157) 385 74 386)
def o101 (P : Params) : Obj := (fo (fu (me 23 0) "come" "Goal.come" 3 [] .none .none .none (.str "jughouse.goals" 312) none (.ref 158) .none 0))
def o102 (P : Params) : Obj := (tu #[(.str "self" 391), (.str "house" 392), (.str "held" 393)])
def o103 (P : Params) : Obj := (.mk .none none (.func (fu (me 23 1) "met_by" "Goal.met_by" 0 [] .none .none .none .none none .none .none 0)) #[])
def o104 (P : Params) : Obj := (co "met_by" 388 "Goal.met_by" 389 390 78 3 0 0 3 (.ref 160) (.bool true) (.int 181 0) (.ref 161) .none (.ref 162) (.ref 163) (.ref 164) 394 78 395)
def o105 (P : Params) : Obj := (fo (fu (me 23 1) "met_by" "Goal.met_by" 3 [] .none .none .none (.str "jughouse.goals" 312) none (.ref 165) .none 0))
def o106 (P : Params) : Obj := (di #[(de P "__module__" 373 (.str "jughouse.goals" 312)), (de P "__firstlineno__" 377 (.int 72 376)), (de P "come" 387 (.ref 159)), (de P "met_by" 396 (.ref 166)), (de P "__static_attributes__" 397 (.ref 167)), (de P "__dict__" 399 (.ref 170)), (de P "__weakref__" 401 (.ref 171)), (de P "__doc__" 402 .none)] 4)
def o107 (P : Params) : Obj := (.mk (.type "type") none (.cls (.mk "Goal" [(.type "object")] [(.ref 169), (.type "object")] 168 "Goal" true [] [(.ref 197), (.ref 223), (.ref 247), (.ref 273)] false none false)) #[none, none, (some (.str "Goal" 366)), (some (.str "Goal" 374)), (some (.builtin "object.__new__")), (some (.bool true))])
def o108 (P : Params) : Obj := (.mk (.type "getset_descriptor") none (.fields #[(.str "__dict__" 398), (.ref 169), (.builtin "function.__dict__"), (.builtin "function.__dict__#set")]) #[])
def o109 (P : Params) : Obj := (.mk (.type "getset_descriptor") none (.fields #[(.str "__weakref__" 400), (.ref 169), (.builtin "ExceptionGroup.__weakref__"), .none]) #[])
def o110 (P : Params) : Obj := (.mk (.type "super") none (.fields #[(.ref 169), (.ref 169), (.ref 169)]) #[])
def o111 (P : Params) : Obj := (.mk (.type "builtin_function_or_method") none (.fields #[(.builtin "object.__init_subclass__"), (.ref 169)]) #[])
def o112 (P : Params) : Obj := (tu #[(.ref 169)])
def o113 (P : Params) : Obj := (di #[(de P "__module__" 412 (.str "jughouse.goals" 312)), (de P "__qualname__" 414 (.str "Holds" 413)), (de P "__firstlineno__" 416 (.int 80 415)), (de P "__init__" 425 (.ref 187)), (de P "met_by" 434 (.ref 194)), (de P "__static_attributes__" 437 (.ref 195))] 6)
def o114 (P : Params) : Obj := (.mk .none none (.fields #[(.int 82 0), (.int 4 0), (.ref 186), (.int 88 0), (.int 4 0), (.ref 193)]) #[])
def o115 (P : Params) : Obj := (co "Holds" 407 "Holds" 408 409 80 0 0 0 0 (.ref 177) (.bool false) (.int 181 0) (.ref 178) .none .none .none .none 410 80 411)
def o116 (P : Params) : Obj := (.mk (.type "frame") none .plain #[(some (.ref 179)), (some (.ref 3)), (some (.ref 176)), none, (some (.str "jughouse.goals" 312)), none, (some (.ref 0))])
def o117 (P : Params) : Obj := (tu #[(.str "self" 420), (.str "jug" 421), (.str "many" 422)])
def o118 (P : Params) : Obj := (.mk .none none (.func (fu (me 24 0) "__init__" "Holds.__init__" 0 [] .none .none .none .none none .none .none 0)) #[])
def o119 (P : Params) : Obj := (co "__init__" 417 "Holds.__init__" 418 419 82 3 0 0 3 (.ref 181) (.bool true) (.int 181 0) (.ref 182) .none (.ref 183) (.ref 184) (.ref 185) 423 82 424)
def o120 (P : Params) : Obj := (fo (fu (me 24 0) "__init__" "Holds.__init__" 3 [] .none .none .none (.str "jughouse.goals" 312) none (.ref 186) .none 0))
def o121 (P : Params) : Obj := (tu #[(.str "self" 429), (.str "house" 430), (.str "held" 431)])
def o122 (P : Params) : Obj := (.mk .none none (.func (fu (me 24 1) "met_by" "Holds.met_by" 0 [] .none .none .none .none none .none .none 0)) #[])
def o123 (P : Params) : Obj := (co "met_by" 426 "Holds.met_by" 427 428 88 3 0 0 3 (.ref 188) (.bool true) (.int 181 0) (.ref 189) .none (.ref 190) (.ref 191) (.ref 192) 432 88 433)
def o124 (P : Params) : Obj := (fo (fu (me 24 1) "met_by" "Holds.met_by" 3 [] .none .none .none (.str "jughouse.goals" 312) none (.ref 193) .none 0))
def o125 (P : Params) : Obj := (tu #[(.str "jug" 435), (.str "many" 436)])
def o126 (P : Params) : Obj := (di #[(de P "__module__" 412 (.str "jughouse.goals" 312)), (de P "__firstlineno__" 416 (.int 80 415)), (de P "__init__" 425 (.ref 187)), (de P "met_by" 434 (.ref 194)), (de P "__static_attributes__" 437 (.ref 195)), (de P "__doc__" 438 .none)] 2)
def o127 (P : Params) : Obj := (.mk (.type "type") none (.cls (.mk "Holds" [(.ref 169)] [(.ref 197), (.ref 169), (.type "object")] 196 "Holds" true [] [] false none false)) #[(some (.ref 174)), none, (some (.str "Holds" 405)), (some (.str "Holds" 413)), (some (.builtin "object.__new__")), (some (.bool true))])
def o128 (P : Params) : Obj := (.mk (.type "super") none (.fields #[(.ref 197), (.ref 197), (.ref 197)]) #[])
def o129 (P : Params) : Obj := (.mk (.type "builtin_function_or_method") none (.fields #[(.builtin "object.__init_subclass__"), (.ref 197)]) #[])
def o130 (P : Params) : Obj := (di #[(de P "__module__" 448 (.str "jughouse.goals" 312)), (de P "__qualname__" 450 (.str "Some" 449)), (de P "__firstlineno__" 452 (.int 91 451)), (de P "__init__" 460 (.ref 213)), (de P "met_by" 469 (.ref 220)), (de P "__static_attributes__" 471 (.ref 221))] 6)
def o131 (P : Params) : Obj := (.mk .none none (.fields #[(.int 93 0), (.int 4 0), (.ref 212), (.int 97 0), (.int 4 0), (.ref 219)]) #[])
def o132 (P : Params) : Obj := (co "Some" 443 "Some" 444 445 91 0 0 0 0 (.ref 203) (.bool false) (.int 181 0) (.ref 204) .none .none .none .none 446 91 447)
def o133 (P : Params) : Obj := (.mk (.type "frame") none .plain #[(some (.ref 205)), (some (.ref 3)), (some (.ref 202)), none, (some (.str "jughouse.goals" 312)), none, (some (.ref 0))])
def o134 (P : Params) : Obj := (tu #[(.str "self" 456), (.str "many" 457)])
def o135 (P : Params) : Obj := (.mk .none none (.func (fu (me 25 0) "__init__" "Some.__init__" 0 [] .none .none .none .none none .none .none 0)) #[])
def o136 (P : Params) : Obj := (co "__init__" 453 "Some.__init__" 454 455 93 2 0 0 3 (.ref 207) (.bool true) (.int 181 0) (.ref 208) .none (.ref 209) (.ref 210) (.ref 211) 458 93 459)
def o137 (P : Params) : Obj := (fo (fu (me 25 0) "__init__" "Some.__init__" 3 [] .none .none .none (.str "jughouse.goals" 312) none (.ref 212) .none 0))
def o138 (P : Params) : Obj := (tu #[(.str "self" 464), (.str "house" 465), (.str "held" 466)])
def o139 (P : Params) : Obj := (.mk .none none (.func (fu (me 25 1) "met_by" "Some.met_by" 0 [] .none .none .none .none none .none .none 0)) #[])
def o140 (P : Params) : Obj := (co "met_by" 461 "Some.met_by" 462 463 97 3 0 0 3 (.ref 214) (.bool true) (.int 181 0) (.ref 215) .none (.ref 216) (.ref 217) (.ref 218) 467 97 468)
def o141 (P : Params) : Obj := (fo (fu (me 25 1) "met_by" "Some.met_by" 3 [] .none .none .none (.str "jughouse.goals" 312) none (.ref 219) .none 0))
def o142 (P : Params) : Obj := (tu #[(.str "many" 470)])
def o143 (P : Params) : Obj := (di #[(de P "__module__" 448 (.str "jughouse.goals" 312)), (de P "__firstlineno__" 452 (.int 91 451)), (de P "__init__" 460 (.ref 213)), (de P "met_by" 469 (.ref 220)), (de P "__static_attributes__" 471 (.ref 221)), (de P "__doc__" 472 .none)] 2)
def o144 (P : Params) : Obj := (.mk (.type "type") none (.cls (.mk "Some" [(.ref 169)] [(.ref 223), (.ref 169), (.type "object")] 222 "Some" true [] [] false none false)) #[(some (.ref 200)), none, (some (.str "Some" 441)), (some (.str "Some" 449)), (some (.builtin "object.__new__")), (some (.bool true))])
def o145 (P : Params) : Obj := (.mk (.type "super") none (.fields #[(.ref 223), (.ref 223), (.ref 223)]) #[])
def o146 (P : Params) : Obj := (.mk (.type "builtin_function_or_method") none (.fields #[(.builtin "object.__init_subclass__"), (.ref 223)]) #[])
def o147 (P : Params) : Obj := (di #[(de P "__module__" 482 (.str "jughouse.goals" 312)), (de P "__qualname__" 484 (.str "Sum" 483)), (de P "__firstlineno__" 486 (.int 99 485)), (de P "__init__" 495 (.ref 239)), (de P "met_by" 501 (.ref 244)), (de P "__static_attributes__" 504 (.ref 245))] 6)
def o148 (P : Params) : Obj := (.mk .none none (.fields #[(.int 101 0), (.int 4 0), (.ref 238), (.int 106 0), (.int 4 0), (.ref 243)]) #[])
def o149 (P : Params) : Obj := (co "Sum" 477 "Sum" 478 479 99 0 0 0 0 (.ref 229) (.bool false) (.int 181 0) (.ref 230) .none .none .none .none 480 99 481)
def o150 (P : Params) : Obj := (.mk (.type "frame") none .plain #[(some (.ref 231)), (some (.ref 3)), (some (.ref 228)), none, (some (.str "jughouse.goals" 312)), none, (some (.ref 0))])
def o151 (P : Params) : Obj := (tu #[(.str "self" 490), (.str "jugs" 491), (.str "many" 492)])
def o152 (P : Params) : Obj := (.mk .none none (.func (fu (me 26 0) "__init__" "Sum.__init__" 0 [] .none .none .none .none none .none .none 0)) #[])
def o153 (P : Params) : Obj := (co "__init__" 487 "Sum.__init__" 488 489 101 3 0 0 3 (.ref 233) (.bool true) (.int 181 0) (.ref 234) .none (.ref 235) (.ref 236) (.ref 237) 493 101 494)
def o154 (P : Params) : Obj := (fo (fu (me 26 0) "__init__" "Sum.__init__" 3 [] .none .none .none (.str "jughouse.goals" 312) none (.ref 238) .none 0))
def o155 (P : Params) : Obj := (.mk .none none (.func (fu (me 26 1) "met_by" "Sum.met_by" 0 [] .none .none .none .none none .none .none 0)) #[])
def o156 (P : Params) : Obj := (co "met_by" 496 "Sum.met_by" 497 498 106 3 0 0 3 (.ref 240) (.bool true) (.int 181 0) (.ref 241) .none .none .none (.ref 242) 499 106 500)
def o157 (P : Params) : Obj := (fo (fu (me 26 1) "met_by" "Sum.met_by" 3 [] .none .none .none (.str "jughouse.goals" 312) none (.ref 243) .none 0))
def o158 (P : Params) : Obj := (tu #[(.str "jugs" 502), (.str "many" 503)])
def o159 (P : Params) : Obj := (di #[(de P "__module__" 482 (.str "jughouse.goals" 312)), (de P "__firstlineno__" 486 (.int 99 485)), (de P "__init__" 495 (.ref 239)), (de P "met_by" 501 (.ref 244)), (de P "__static_attributes__" 504 (.ref 245)), (de P "__doc__" 505 .none)] 2)
def o160 (P : Params) : Obj := (.mk (.type "type") none (.cls (.mk "Sum" [(.ref 169)] [(.ref 247), (.ref 169), (.type "object")] 246 "Sum" true [] [] false none false)) #[(some (.ref 226)), none, (some (.str "Sum" 475)), (some (.str "Sum" 483)), (some (.builtin "object.__new__")), (some (.bool true))])
def o161 (P : Params) : Obj := (.mk (.type "super") none (.fields #[(.ref 247), (.ref 247), (.ref 247)]) #[])
def o162 (P : Params) : Obj := (.mk (.type "builtin_function_or_method") none (.fields #[(.builtin "object.__init_subclass__"), (.ref 247)]) #[])
def o163 (P : Params) : Obj := (di #[(de P "__module__" 515 (.str "jughouse.goals" 312)), (de P "__qualname__" 517 (.str "Whole" 516)), (de P "__firstlineno__" 519 (.int 110 518)), (de P "__init__" 527 (.ref 263)), (de P "met_by" 536 (.ref 270)), (de P "__static_attributes__" 538 (.ref 271))] 6)
def o164 (P : Params) : Obj := (.mk .none none (.fields #[(.int 112 0), (.int 4 0), (.ref 262), (.int 115 0), (.int 4 0), (.ref 269)]) #[])
def o165 (P : Params) : Obj := (co "Whole" 510 "Whole" 511 512 110 0 0 0 0 (.ref 253) (.bool false) (.int 181 0) (.ref 254) .none .none .none .none 513 110 514)
def o166 (P : Params) : Obj := (.mk (.type "frame") none .plain #[(some (.ref 255)), (some (.ref 3)), (some (.ref 252)), none, (some (.str "jughouse.goals" 312)), none, (some (.ref 0))])
def o167 (P : Params) : Obj := (tu #[(.str "self" 523), (.str "state" 524)])
def o168 (P : Params) : Obj := (.mk .none none (.func (fu (me 27 0) "__init__" "Whole.__init__" 0 [] .none .none .none .none none .none .none 0)) #[])
def o169 (P : Params) : Obj := (co "__init__" 520 "Whole.__init__" 521 522 112 2 0 0 3 (.ref 257) (.bool true) (.int 181 0) (.ref 258) .none (.ref 259) (.ref 260) (.ref 261) 525 112 526)
def o170 (P : Params) : Obj := (fo (fu (me 27 0) "__init__" "Whole.__init__" 3 [] .none .none .none (.str "jughouse.goals" 312) none (.ref 262) .none 0))
def o171 (P : Params) : Obj := (tu #[(.str "self" 531), (.str "house" 532), (.str "held" 533)])
def o172 (P : Params) : Obj := (.mk .none none (.func (fu (me 27 1) "met_by" "Whole.met_by" 0 [] .none .none .none .none none .none .none 0)) #[])
def o173 (P : Params) : Obj := (co "met_by" 528 "Whole.met_by" 529 530 115 3 0 0 3 (.ref 264) (.bool true) (.int 181 0) (.ref 265) .none (.ref 266) (.ref 267) (.ref 268) 534 115 535)
def o174 (P : Params) : Obj := (fo (fu (me 27 1) "met_by" "Whole.met_by" 3 [] .none .none .none (.str "jughouse.goals" 312) none (.ref 269) .none 0))
def o175 (P : Params) : Obj := (tu #[(.str "state" 537)])
def o176 (P : Params) : Obj := (di #[(de P "__module__" 515 (.str "jughouse.goals" 312)), (de P "__firstlineno__" 519 (.int 110 518)), (de P "__init__" 527 (.ref 263)), (de P "met_by" 536 (.ref 270)), (de P "__static_attributes__" 538 (.ref 271)), (de P "__doc__" 539 .none)] 2)
def o177 (P : Params) : Obj := (.mk (.type "type") none (.cls (.mk "Whole" [(.ref 169)] [(.ref 273), (.ref 169), (.type "object")] 272 "Whole" true [] [] false none false)) #[(some (.ref 250)), none, (some (.str "Whole" 508)), (some (.str "Whole" 516)), (some (.builtin "object.__new__")), (some (.bool true))])
def o178 (P : Params) : Obj := (.mk (.type "super") none (.fields #[(.ref 273), (.ref 273), (.ref 273)]) #[])
def o179 (P : Params) : Obj := (.mk (.type "builtin_function_or_method") none (.fields #[(.builtin "object.__init_subclass__"), (.ref 273)]) #[])
def o180 (P : Params) : Obj := (tu #[(.str "goal" 545)])
def o181 (P : Params) : Obj := (.mk .none none (.func (fu (st 28) "check_goal" "check_goal" 0 [] .none .none .none .none none .none .none 0)) #[])
def o182 (P : Params) : Obj := (co "check_goal" 542 "check_goal" 543 544 118 1 0 0 3 (.ref 276) (.bool true) (.int 181 0) (.ref 277) .none (.ref 278) (.ref 279) (.ref 280) 546 118 547)
def o183 (P : Params) : Obj := (fo (fu (st 28) "check_goal" "check_goal" 3 [] .none .none .none (.str "jughouse.goals" 312) none (.ref 281) .none 0))
def o184 (P : Params) : Obj := (tu #[(.str "house" 554), (.str "state" 555), (.str "start" 556), (.str "moves" 557), (.str "ways" 558), (.str "row" 559), (.str "place" 560), (.str "here" 561), (.str "move" 562), (.str "behind" 563)])
def o185 (P : Params) : Obj := (.mk .none none (.func (fu (st 30) "ways_from" "ways_from" 0 [] .none .none .none .none none .none .none 0)) #[])
def o186 (P : Params) : Obj := (co "ways_from" 551 "ways_from" 552 553 122 2 0 0 3 (.ref 283) (.bool true) (.int 181 0) (.ref 284) .none (.ref 285) (.ref 286) (.ref 287) 564 122 565)
def o187 (P : Params) : Obj := (fo (fu (st 30) "ways_from" "ways_from" 3 [] .none .none .none (.str "jughouse.reach" 549) none (.ref 288) .none 0))
def o188 (P : Params) : Obj := (di #[(de P "__module__" 576 (.str "jughouse.fewest" 567)), (de P "__qualname__" 578 (.str "Answer" 577)), (de P "__firstlineno__" 580 (.int 138 579)), (de P "__static_attributes__" 581 (.ref 297))] 4)
def o189 (P : Params) : Obj := (co "Answer" 571 "Answer" 572 573 138 0 0 0 0 (.ref 293) (.bool false) (.int 181 0) (.ref 294) .none .none .none .none 574 138 575)
def o190 (P : Params) : Obj := (.mk (.type "frame") none .plain #[(some (.ref 295)), (some (.ref 3)), (some (.ref 292)), none, (some (.str "jughouse.fewest" 567)), none, (some (.ref 0))])
def o191 (P : Params) : Obj := (di #[(de P "__module__" 576 (.str "jughouse.fewest" 567)), (de P "__firstlineno__" 580 (.int 138 579)), (de P "__static_attributes__" 581 (.ref 297)), (de P "__dict__" 583 (.ref 300)), (de P "__weakref__" 585 (.ref 301)), (de P "__doc__" 586 .none)] 4)
def o192 (P : Params) : Obj := (.mk (.type "type") none (.cls (.mk "Answer" [(.type "object")] [(.ref 299), (.type "object")] 298 "Answer" true [] [(.ref 318), (.ref 337)] false none false)) #[none, none, (some (.str "Answer" 569)), (some (.str "Answer" 577)), (some (.builtin "object.__new__")), (some (.bool true))])
def o193 (P : Params) : Obj := (.mk (.type "getset_descriptor") none (.fields #[(.str "__dict__" 582), (.ref 299), (.builtin "function.__dict__"), (.builtin "function.__dict__#set")]) #[])
def o194 (P : Params) : Obj := (.mk (.type "getset_descriptor") none (.fields #[(.str "__weakref__" 584), (.ref 299), (.builtin "ExceptionGroup.__weakref__"), .none]) #[])
def o195 (P : Params) : Obj := (.mk (.type "super") none (.fields #[(.ref 299), (.ref 299), (.ref 299)]) #[])
def o196 (P : Params) : Obj := (.mk (.type "builtin_function_or_method") none (.fields #[(.builtin "object.__init_subclass__"), (.ref 299)]) #[])
def o197 (P : Params) : Obj := (tu #[(.ref 299)])
def o198 (P : Params) : Obj := (di #[(de P "__module__" 596 (.str "jughouse.fewest" 567)), (de P "__qualname__" 598 (.str "Poured" 597)), (de P "__firstlineno__" 600 (.int 140 599)), (de P "__init__" 606 (.ref 315)), (de P "__static_attributes__" 609 (.ref 316))] 5)
def o199 (P : Params) : Obj := (.mk .none none (.fields #[(.int 142 0), (.int 4 0), (.ref 314)]) #[])
def o200 (P : Params) : Obj := (co "Poured" 591 "Poured" 592 593 140 0 0 0 0 (.ref 307) (.bool false) (.int 181 0) (.ref 308) .none .none .none .none 594 140 595)
def o201 (P : Params) : Obj := (.mk (.type "frame") none .plain #[(some (.ref 309)), (some (.ref 3)), (some (.ref 306)), none, (some (.str "jughouse.fewest" 567)), none, (some (.ref 0))])
def o202 (P : Params) : Obj := (.mk .none none (.func (fu (me 33 0) "__init__" "Poured.__init__" 0 [] .none .none .none .none none .none .none 0)) #[])
def o203 (P : Params) : Obj := (co "__init__" 601 "Poured.__init__" 602 603 142 3 0 0 3 (.ref 311) (.bool true) (.int 181 0) (.ref 312) .none .none .none (.ref 313) 604 142 605)
def o204 (P : Params) : Obj := (fo (fu (me 33 0) "__init__" "Poured.__init__" 3 [] .none .none .none (.str "jughouse.fewest" 567) none (.ref 314) .none 0))
def o205 (P : Params) : Obj := (tu #[(.str "heights" 607), (.str "pours" 608)])
def o206 (P : Params) : Obj := (di #[(de P "__module__" 596 (.str "jughouse.fewest" 567)), (de P "__firstlineno__" 600 (.int 140 599)), (de P "__init__" 606 (.ref 315)), (de P "__static_attributes__" 609 (.ref 316)), (de P "__doc__" 610 .none)] 2)
def o207 (P : Params) : Obj := (.mk (.type "type") none (.cls (.mk "Poured" [(.ref 299)] [(.ref 318), (.ref 299), (.type "object")] 317 "Poured" true [] [] false none false)) #[(some (.ref 304)), none, (some (.str "Poured" 589)), (some (.str "Poured" 597)), (some (.builtin "object.__new__")), (some (.bool true))])
def o208 (P : Params) : Obj := (.mk (.type "super") none (.fields #[(.ref 318), (.ref 318), (.ref 318)]) #[])
def o209 (P : Params) : Obj := (.mk (.type "builtin_function_or_method") none (.fields #[(.builtin "object.__init_subclass__"), (.ref 318)]) #[])
def o210 (P : Params) : Obj := (di #[(de P "__module__" 620 (.str "jughouse.fewest" 567)), (de P "__qualname__" 622 (.str "Barred" 621)), (de P "__firstlineno__" 624 (.int 145 623)), (de P "__init__" 632 (.ref 334)), (de P "__static_attributes__" 634 (.ref 335))] 5)
def o211 (P : Params) : Obj := (.mk .none none (.fields #[(.int 147 0), (.int 4 0), (.ref 333)]) #[])
def o212 (P : Params) : Obj := (co "Barred" 615 "Barred" 616 617 145 0 0 0 0 (.ref 324) (.bool false) (.int 181 0) (.ref 325) .none .none .none .none 618 145 619)
def o213 (P : Params) : Obj := (.mk (.type "frame") none .plain #[(some (.ref 326)), (some (.ref 3)), (some (.ref 323)), none, (some (.str "jughouse.fewest" 567)), none, (some (.ref 0))])
def o214 (P : Params) : Obj := (tu #[(.str "self" 628), (.str "among" 629)])
def o215 (P : Params) : Obj := (.mk .none none (.func (fu (me 34 0) "__init__" "Barred.__init__" 0 [] .none .none .none .none none .none .none 0)) #[])
def o216 (P : Params) : Obj := (co "__init__" 625 "Barred.__init__" 626 627 147 2 0 0 3 (.ref 328) (.bool true) (.int 181 0) (.ref 329) .none (.ref 330) (.ref 331) (.ref 332) 630 147 631)
def o217 (P : Params) : Obj := (fo (fu (me 34 0) "__init__" "Barred.__init__" 3 [] .none .none .none (.str "jughouse.fewest" 567) none (.ref 333) .none 0))
def o218 (P : Params) : Obj := (tu #[(.str "among" 633)])
def o219 (P : Params) : Obj := (di #[(de P "__module__" 620 (.str "jughouse.fewest" 567)), (de P "__firstlineno__" 624 (.int 145 623)), (de P "__init__" 632 (.ref 334)), (de P "__static_attributes__" 634 (.ref 335)), (de P "__doc__" 635 .none)] 2)
def o220 (P : Params) : Obj := (.mk (.type "type") none (.cls (.mk "Barred" [(.ref 299)] [(.ref 337), (.ref 299), (.type "object")] 336 "Barred" true [] [] false none false)) #[(some (.ref 321)), none, (some (.str "Barred" 613)), (some (.str "Barred" 621)), (some (.builtin "object.__new__")), (some (.bool true))])
def o221 (P : Params) : Obj := (.mk (.type "super") none (.fields #[(.ref 337), (.ref 337), (.ref 337)]) #[])
def o222 (P : Params) : Obj := (.mk (.type "builtin_function_or_method") none (.fields #[(.builtin "object.__init_subclass__"), (.ref 337)]) #[])
def o223 (P : Params) : Obj := (tu #[(.str "house" 641), (.str "ways" 642), (.str "goal" 643), (.str "state" 644)])
def o224 (P : Params) : Obj := (.mk .none none (.func (fu (st 35) "nearest" "nearest" 0 [] .none .none .none .none none .none .none 0)) #[])
def o225 (P : Params) : Obj := (co "nearest" 638 "nearest" 639 640 149 3 0 0 3 (.ref 340) (.bool true) (.int 181 0) (.ref 341) .none (.ref 342) (.ref 343) (.ref 344) 645 149 646)
def o226 (P : Params) : Obj := (fo (fu (st 35) "nearest" "nearest" 3 [] .none .none .none (.str "jughouse.fewest" 567) none (.ref 345) .none 0))
def o227 (P : Params) : Obj := (tu #[(.str "ways" 651), (.str "state" 652), (.str "back" 653), (.str "way" 654)])
def o228 (P : Params) : Obj := (.mk .none none (.func (fu (st 36) "moves_to" "moves_to" 0 [] .none .none .none .none none .none .none 0)) #[])
def o229 (P : Params) : Obj := (co "moves_to" 648 "moves_to" 649 650 154 2 0 0 3 (.ref 347) (.bool true) (.int 181 0) (.ref 348) .none (.ref 349) (.ref 350) (.ref 351) 655 154 656)
def o230 (P : Params) : Obj := (fo (fu (st 36) "moves_to" "moves_to" 3 [] .none .none .none (.str "jughouse.fewest" 567) none (.ref 352) .none 0))
def o231 (P : Params) : Obj := (tu #[(.str "ways" 661), (.str "heights" 662), (.str "state" 663), (.str "way" 664)])
def o232 (P : Params) : Obj := (.mk .none none (.func (fu (st 37) "heights_in" "heights_in" 0 [] .none .none .none .none none .none .none 0)) #[])
def o233 (P : Params) : Obj := (co "heights_in" 658 "heights_in" 659 660 161 1 0 0 3 (.ref 354) (.bool true) (.int 181 0) (.ref 355) .none (.ref 356) (.ref 357) (.ref 358) 665 161 666)
def o234 (P : Params) : Obj := (fo (fu (st 37) "heights_in" "heights_in" 3 [] .none .none .none (.str "jughouse.fewest" 567) none (.ref 359) .none 0))
def o235 (P : Params) : Obj := (tu #[(.str "house" 671), (.str "state" 672), (.str "goal" 673), (.str "ways" 674), (.str "last" 675)])
def o236 (P : Params) : Obj := (.mk .none none (.func (fu (st 38) "fewest" "fewest" 0 [] .none .none .none .none none .none .none 0)) #[])
def o237 (P : Params) : Obj := (co "fewest" 668 "fewest" 669 670 167 3 0 0 3 (.ref 361) (.bool true) (.int 181 0) (.ref 362) .none (.ref 363) (.ref 364) (.ref 365) 676 167 677)
def o238 (P : Params) : Obj := (fo (fu (st 38) "fewest" "fewest" 3 [] .none .none .none (.str "jughouse.fewest" 567) none (.ref 366) .none 0))
def o239 (P : Params) : Obj := (tu #[(.str "jug" 684)])
def o240 (P : Params) : Obj := (.mk .none none (.func (fu (st 40) "check_jug" "check_jug" 0 [] .none .none .none .none none .none .none 0)) #[])
def o241 (P : Params) : Obj := (co "check_jug" 681 "check_jug" 682 683 176 1 0 0 3 (.ref 368) (.bool true) (.int 181 0) (.ref 369) .none (.ref 370) (.ref 371) (.ref 372) 685 176 686)
def o242 (P : Params) : Obj := (fo (fu (st 40) "check_jug" "check_jug" 3 [] .none .none .none (.str "jughouse.moves" 679) none (.ref 373) .none 0))
def o243 (P : Params) : Obj := (tu #[(.str "house" 692), (.str "jug" 693)])
def o244 (P : Params) : Obj := (.mk .none none (.func (fu (st 42) "check_house_has" "check_house_has" 0 [] .none .none .none .none none .none .none 0)) #[])
def o245 (P : Params) : Obj := (co "check_house_has" 689 "check_house_has" 690 691 180 2 0 0 3 (.ref 375) (.bool true) (.int 181 0) (.ref 376) .none (.ref 377) (.ref 378) (.ref 379) 694 180 695)
def o246 (P : Params) : Obj := (fo (fu (st 42) "check_house_has" "check_house_has" 3 [] .none .none .none (.str "jughouse.moves" 679) none (.ref 380) .none 0))
def o247 (P : Params) : Obj := (tu #[(.str "house" 701), (.str "jug" 702)])
def o248 (P : Params) : Obj := (.mk .none none (.func (fu (st 44) "check_house_can_tap" "check_house_can_tap" 0 [] .none .none .none .none none .none .none 0)) #[])
def o249 (P : Params) : Obj := (co "check_house_can_tap" 698 "check_house_can_tap" 699 700 184 2 0 0 3 (.ref 382) (.bool true) (.int 181 0) (.ref 383) .none (.ref 384) (.ref 385) (.ref 386) 703 184 704)
def o250 (P : Params) : Obj := (fo (fu (st 44) "check_house_can_tap" "check_house_can_tap" 3 [] .none .none .none (.str "jughouse.moves" 679) none (.ref 387) .none 0))
def o251 (P : Params) : Obj := (tu #[(.str "held" 709), (.str "jug" 710), (.str "many" 711), (.str "behind" 712)])
def o252 (P : Params) : Obj := (.mk .none none (.func (fu (st 45) "with_amount" "with_amount" 0 [] .none .none .none .none none .none .none 0)) #[])
def o253 (P : Params) : Obj := (co "with_amount" 706 "with_amount" 707 708 188 3 0 0 3 (.ref 389) (.bool true) (.int 181 0) (.ref 390) .none (.ref 391) (.ref 392) (.ref 393) 713 188 714)
def o254 (P : Params) : Obj := (fo (fu (st 45) "with_amount" "with_amount" 3 [] .none .none .none (.str "jughouse.moves" 679) none (.ref 394) .none 0))
def o255 (P : Params) : Obj := (di #[(de P "__module__" 723 (.str "jughouse.moves" 679)), (de P "__qualname__" 725 (.str "Move" 724)), (de P "__firstlineno__" 727 (.int 192 726)), (de P "done" 737 (.ref 409)), (de P "held_behind" 746 (.ref 416)), (de P "__static_attributes__" 747 (.ref 417))] 6)
def o256 (P : Params) : Obj := (.mk .none none (.fields #[(.int 194 0), (.int 4 0), (.ref 408), (.int 198 0), (.int 4 0), (.ref 415)]) #[])
def o257 (P : Params) : Obj := (co "Move" 718 "Move" 719 720 192 0 0 0 0 (.ref 399) (.bool false) (.int 181 0) (.ref 400) .none .none .none .none 721 192 722)
def o258 (P : Params) : Obj := (.mk (.type "frame") none .plain #[(some (.ref 401)), (some (.ref 3)), (some (.ref 398)), none, (some (.str "jughouse.moves" 679)), none, (some (.ref 0))])
def o259 (P : Params) : Obj := (tu #[(.str "self" 731), (.str "house" 732), (.str "state" 733), (.str "held" 734)])
def o260 (P : Params) : Obj := (.mk .none none (.func (fu (me 46 0) "done" "Move.done" 0 [] .none .none .none .none none .none .none 0)) #[])
def o261 (P : Params) : Obj := (co "done" 728 "Move.done" 729 730 194 3 0 0 3 (.ref 403) (.bool true) (.int 181 0) (.ref 404) .none (.ref 405) (.ref 406) (.ref 407) 735 194 736)
def o262 (P : Params) : Obj := (fo (fu (me 46 0) "done" "Move.done" 3 [] .none .none .none (.str "jughouse.moves" 679) none (.ref 408) .none 0))
def o263 (P : Params) : Obj := (tu #[(.str "self" 741), (.str "house" 742), (.str "held" 743)])
def o264 (P : Params) : Obj := (.mk .none none (.func (fu (me 46 1) "held_behind" "Move.held_behind" 0 [] .none .none .none .none none .none .none 0)) #[])
def o265 (P : Params) : Obj := (co "held_behind" 738 "Move.held_behind" 739 740 198 3 0 0 3 (.ref 410) (.bool true) (.int 181 0) (.ref 411) .none (.ref 412) (.ref 413) (.ref 414) 744 198 745)
def o266 (P : Params) : Obj := (fo (fu (me 46 1) "held_behind" "Move.held_behind" 3 [] .none .none .none (.str "jughouse.moves" 679) none (.ref 415) .none 0))
def o267 (P : Params) : Obj := (di #[(de P "__module__" 723 (.str "jughouse.moves" 679)), (de P "__firstlineno__" 727 (.int 192 726)), (de P "done" 737 (.ref 409)), (de P "held_behind" 746 (.ref 416)), (de P "__static_attributes__" 747 (.ref 417)), (de P "__dict__" 749 (.ref 420)), (de P "__weakref__" 751 (.ref 421)), (de P "__doc__" 752 .none)] 4)
def o268 (P : Params) : Obj := (.mk (.type "type") none (.cls (.mk "Move" [(.type "object")] [(.ref 419), (.type "object")] 418 "Move" true [] [(.ref 447), (.ref 473), (.ref 499)] false none false)) #[none, none, (some (.str "Move" 716)), (some (.str "Move" 724)), (some (.builtin "object.__new__")), (some (.bool true))])
def o269 (P : Params) : Obj := (.mk (.type "getset_descriptor") none (.fields #[(.str "__dict__" 748), (.ref 419), (.builtin "function.__dict__"), (.builtin "function.__dict__#set")]) #[])
def o270 (P : Params) : Obj := (.mk (.type "getset_descriptor") none (.fields #[(.str "__weakref__" 750), (.ref 419), (.builtin "ExceptionGroup.__weakref__"), .none]) #[])
def o271 (P : Params) : Obj := (.mk (.type "super") none (.fields #[(.ref 419), (.ref 419), (.ref 419)]) #[])
def o272 (P : Params) : Obj := (.mk (.type "builtin_function_or_method") none (.fields #[(.builtin "object.__init_subclass__"), (.ref 419)]) #[])
def o273 (P : Params) : Obj := (tu #[(.ref 419)])
def o274 (P : Params) : Obj := (di #[(de P "__module__" 762 (.str "jughouse.moves" 679)), (de P "__qualname__" 764 (.str "Pour" 763)), (de P "__firstlineno__" 766 (.int 200 765)), (de P "__init__" 775 (.ref 437)), (de P "held_behind" 787 (.ref 444)), (de P "__static_attributes__" 790 (.ref 445))] 6)
def o275 (P : Params) : Obj := (.mk .none none (.fields #[(.int 202 0), (.int 4 0), (.ref 436), (.int 210 0), (.int 4 0), (.ref 443)]) #[])
def o276 (P : Params) : Obj := (co "Pour" 757 "Pour" 758 759 200 0 0 0 0 (.ref 427) (.bool false) (.int 181 0) (.ref 428) .none .none .none .none 760 200 761)
def o277 (P : Params) : Obj := (.mk (.type "frame") none .plain #[(some (.ref 429)), (some (.ref 3)), (some (.ref 426)), none, (some (.str "jughouse.moves" 679)), none, (some (.ref 0))])
def o278 (P : Params) : Obj := (tu #[(.str "self" 770), (.str "one" 771), (.str "other" 772)])
def o279 (P : Params) : Obj := (.mk .none none (.func (fu (me 47 0) "__init__" "Pour.__init__" 0 [] .none .none .none .none none .none .none 0)) #[])
def o280 (P : Params) : Obj := (co "__init__" 767 "Pour.__init__" 768 769 202 3 0 0 3 (.ref 431) (.bool true) (.int 181 0) (.ref 432) .none (.ref 433) (.ref 434) (.ref 435) 773 202 774)
def o281 (P : Params) : Obj := (fo (fu (me 47 0) "__init__" "Pour.__init__" 3 [] .none .none .none (.str "jughouse.moves" 679) none (.ref 436) .none 0))
def o282 (P : Params) : Obj := (tu #[(.str "self" 779), (.str "house" 780), (.str "held" 781), (.str "room" 782), (.str "many" 783), (.str "less" 784)])
def o283 (P : Params) : Obj := (.mk .none none (.func (fu (me 47 1) "held_behind" "Pour.held_behind" 0 [] .none .none .none .none none .none .none 0)) #[])
def o284 (P : Params) : Obj := (co "held_behind" 776 "Pour.held_behind" 777 778 210 3 0 0 3 (.ref 438) (.bool true) (.int 181 0) (.ref 439) .none (.ref 440) (.ref 441) (.ref 442) 785 210 786)
def o285 (P : Params) : Obj := (fo (fu (me 47 1) "held_behind" "Pour.held_behind" 3 [] .none .none .none (.str "jughouse.moves" 679) none (.ref 443) .none 0))
def o286 (P : Params) : Obj := (tu #[(.str "one" 788), (.str "other" 789)])
def o287 (P : Params) : Obj := (di #[(de P "__module__" 762 (.str "jughouse.moves" 679)), (de P "__firstlineno__" 766 (.int 200 765)), (de P "__init__" 775 (.ref 437)), (de P "held_behind" 787 (.ref 444)), (de P "__static_attributes__" 790 (.ref 445)), (de P "__doc__" 791 .none)] 2)
def o288 (P : Params) : Obj := (.mk (.type "type") none (.cls (.mk "Pour" [(.ref 419)] [(.ref 447), (.ref 419), (.type "object")] 446 "Pour" true [] [] false none false)) #[(some (.ref 424)), none, (some (.str "Pour" 755)), (some (.str "Pour" 763)), (some (.builtin "object.__new__")), (some (.bool true))])
def o289 (P : Params) : Obj := (.mk (.type "super") none (.fields #[(.ref 447), (.ref 447), (.ref 447)]) #[])
def o290 (P : Params) : Obj := (.mk (.type "builtin_function_or_method") none (.fields #[(.builtin "object.__init_subclass__"), (.ref 447)]) #[])
def o291 (P : Params) : Obj := (di #[(de P "__module__" 801 (.str "jughouse.moves" 679)), (de P "__qualname__" 803 (.str "Fill" 802)), (de P "__firstlineno__" 805 (.int 217 804)), (de P "__init__" 813 (.ref 463)), (de P "held_behind" 822 (.ref 470)), (de P "__static_attributes__" 824 (.ref 471))] 6)
def o292 (P : Params) : Obj := (.mk .none none (.fields #[(.int 219 0), (.int 4 0), (.ref 462), (.int 223 0), (.int 4 0), (.ref 469)]) #[])
def o293 (P : Params) : Obj := (co "Fill" 796 "Fill" 797 798 217 0 0 0 0 (.ref 453) (.bool false) (.int 181 0) (.ref 454) .none .none .none .none 799 217 800)
def o294 (P : Params) : Obj := (.mk (.type "frame") none .plain #[(some (.ref 455)), (some (.ref 3)), (some (.ref 452)), none, (some (.str "jughouse.moves" 679)), none, (some (.ref 0))])
def o295 (P : Params) : Obj := (tu #[(.str "self" 809), (.str "jug" 810)])
def o296 (P : Params) : Obj := (.mk .none none (.func (fu (me 48 0) "__init__" "Fill.__init__" 0 [] .none .none .none .none none .none .none 0)) #[])
def o297 (P : Params) : Obj := (co "__init__" 806 "Fill.__init__" 807 808 219 2 0 0 3 (.ref 457) (.bool true) (.int 181 0) (.ref 458) .none (.ref 459) (.ref 460) (.ref 461) 811 219 812)
def o298 (P : Params) : Obj := (fo (fu (me 48 0) "__init__" "Fill.__init__" 3 [] .none .none .none (.str "jughouse.moves" 679) none (.ref 462) .none 0))
def o299 (P : Params) : Obj := (tu #[(.str "self" 817), (.str "house" 818), (.str "held" 819)])
def o300 (P : Params) : Obj := (.mk .none none (.func (fu (me 48 1) "held_behind" "Fill.held_behind" 0 [] .none .none .none .none none .none .none 0)) #[])
def o301 (P : Params) : Obj := (co "held_behind" 814 "Fill.held_behind" 815 816 223 3 0 0 3 (.ref 464) (.bool true) (.int 181 0) (.ref 465) .none (.ref 466) (.ref 467) (.ref 468) 820 223 821)
def o302 (P : Params) : Obj := (fo (fu (me 48 1) "held_behind" "Fill.held_behind" 3 [] .none .none .none (.str "jughouse.moves" 679) none (.ref 469) .none 0))
def o303 (P : Params) : Obj := (tu #[(.str "jug" 823)])
def o304 (P : Params) : Obj := (di #[(de P "__module__" 801 (.str "jughouse.moves" 679)), (de P "__firstlineno__" 805 (.int 217 804)), (de P "__init__" 813 (.ref 463)), (de P "held_behind" 822 (.ref 470)), (de P "__static_attributes__" 824 (.ref 471)), (de P "__doc__" 825 .none)] 2)
def o305 (P : Params) : Obj := (.mk (.type "type") none (.cls (.mk "Fill" [(.ref 419)] [(.ref 473), (.ref 419), (.type "object")] 472 "Fill" true [] [] false none false)) #[(some (.ref 450)), none, (some (.str "Fill" 794)), (some (.str "Fill" 802)), (some (.builtin "object.__new__")), (some (.bool true))])
def o306 (P : Params) : Obj := (.mk (.type "super") none (.fields #[(.ref 473), (.ref 473), (.ref 473)]) #[])
def o307 (P : Params) : Obj := (.mk (.type "builtin_function_or_method") none (.fields #[(.builtin "object.__init_subclass__"), (.ref 473)]) #[])
def o308 (P : Params) : Obj := (di #[(de P "__module__" 835 (.str "jughouse.moves" 679)), (de P "__qualname__" 837 (.str "Empty" 836)), (de P "__firstlineno__" 839 (.int 226 838)), (de P "__init__" 847 (.ref 489)), (de P "held_behind" 856 (.ref 496)), (de P "__static_attributes__" 858 (.ref 497))] 6)
def o309 (P : Params) : Obj := (.mk .none none (.fields #[(.int 228 0), (.int 4 0), (.ref 488), (.int 232 0), (.int 4 0), (.ref 495)]) #[])
def o310 (P : Params) : Obj := (co "Empty" 830 "Empty" 831 832 226 0 0 0 0 (.ref 479) (.bool false) (.int 181 0) (.ref 480) .none .none .none .none 833 226 834)
def o311 (P : Params) : Obj := (.mk (.type "frame") none .plain #[(some (.ref 481)), (some (.ref 3)), (some (.ref 478)), none, (some (.str "jughouse.moves" 679)), none, (some (.ref 0))])
def o312 (P : Params) : Obj := (tu #[(.str "self" 843), (.str "jug" 844)])
def o313 (P : Params) : Obj := (.mk .none none (.func (fu (me 49 0) "__init__" "Empty.__init__" 0 [] .none .none .none .none none .none .none 0)) #[])
def o314 (P : Params) : Obj := (co "__init__" 840 "Empty.__init__" 841 842 228 2 0 0 3 (.ref 483) (.bool true) (.int 181 0) (.ref 484) .none (.ref 485) (.ref 486) (.ref 487) 845 228 846)
def o315 (P : Params) : Obj := (fo (fu (me 49 0) "__init__" "Empty.__init__" 3 [] .none .none .none (.str "jughouse.moves" 679) none (.ref 488) .none 0))
def o316 (P : Params) : Obj := (tu #[(.str "self" 851), (.str "house" 852), (.str "held" 853)])
def o317 (P : Params) : Obj := (.mk .none none (.func (fu (me 49 1) "held_behind" "Empty.held_behind" 0 [] .none .none .none .none none .none .none 0)) #[])
def o318 (P : Params) : Obj := (co "held_behind" 848 "Empty.held_behind" 849 850 232 3 0 0 3 (.ref 490) (.bool true) (.int 181 0) (.ref 491) .none (.ref 492) (.ref 493) (.ref 494) 854 232 855)
def o319 (P : Params) : Obj := (fo (fu (me 49 1) "held_behind" "Empty.held_behind" 3 [] .none .none .none (.str "jughouse.moves" 679) none (.ref 495) .none 0))
def o320 (P : Params) : Obj := (tu #[(.str "jug" 857)])
def o321 (P : Params) : Obj := (di #[(de P "__module__" 835 (.str "jughouse.moves" 679)), (de P "__firstlineno__" 839 (.int 226 838)), (de P "__init__" 847 (.ref 489)), (de P "held_behind" 856 (.ref 496)), (de P "__static_attributes__" 858 (.ref 497)), (de P "__doc__" 859 .none)] 2)
def o322 (P : Params) : Obj := (.mk (.type "type") none (.cls (.mk "Empty" [(.ref 419)] [(.ref 499), (.ref 419), (.type "object")] 498 "Empty" true [] [] false none false)) #[(some (.ref 476)), none, (some (.str "Empty" 828)), (some (.str "Empty" 836)), (some (.builtin "object.__new__")), (some (.bool true))])
def o323 (P : Params) : Obj := (.mk (.type "super") none (.fields #[(.ref 499), (.ref 499), (.ref 499)]) #[])
def o324 (P : Params) : Obj := (.mk (.type "builtin_function_or_method") none (.fields #[(.builtin "object.__init_subclass__"), (.ref 499)]) #[])
def o325 (P : Params) : Obj := (tu #[(.str "moves" 865), (.str "told" 866), (.str "move" 867)])
def o326 (P : Params) : Obj := (.mk .none none (.func (fu (st 50) "moves_in" "moves_in" 0 [] .none .none .none .none none .none .none 0)) #[])
def o327 (P : Params) : Obj := (co "moves_in" 862 "moves_in" 863 864 235 1 0 0 3 (.ref 502) (.bool true) (.int 181 0) (.ref 503) .none (.ref 504) (.ref 505) (.ref 506) 868 235 869)
def o328 (P : Params) : Obj := (fo (fu (st 50) "moves_in" "moves_in" 3 [] .none .none .none (.str "jughouse.moves" 679) none (.ref 507) .none 0))
def o329 (P : Params) : Obj := (tu #[(.str "sizes" 878), (.str "told" 879), (.str "size" 880)])
def o330 (P : Params) : Obj := (.mk .none none (.func (fu (st 53) "sizes_in" "sizes_in" 0 [] .none .none .none .none none .none .none 0)) #[])
def o331 (P : Params) : Obj := (co "sizes_in" 875 "sizes_in" 876 877 245 1 0 0 3 (.ref 509) (.bool true) (.int 181 0) (.ref 510) .none (.ref 511) (.ref 512) (.ref 513) 881 245 882)
def o332 (P : Params) : Obj := (fo (fu (st 53) "sizes_in" "sizes_in" 3 [] .none .none .none (.str "jughouse.houses" 871) none (.ref 514) .none 0))
def o333 (P : Params) : Obj := (tu #[(.str "sizes" 887), (.str "many" 888), (.str "size" 889)])
def o334 (P : Params) : Obj := (.mk .none none (.func (fu (st 54) "count_states" "count_states" 0 [] .none .none .none .none none .none .none 0)) #[])
def o335 (P : Params) : Obj := (co "count_states" 884 "count_states" 885 886 257 1 0 0 3 (.ref 516) (.bool true) (.int 181 0) (.ref 517) .none (.ref 518) (.ref 519) (.ref 520) 890 257 891)
def o336 (P : Params) : Obj := (fo (fu (st 54) "count_states" "count_states" 3 [] .none .none .none (.str "jughouse.houses" 871) none (.ref 521) .none 0))
def o337 (P : Params) : Obj := (tu #[(.str "many" 896), (.str "pours" 897), (.str "one" 898), (.str "other" 899)])
def o338 (P : Params) : Obj := (.mk .none none (.func (fu (st 55) "pours_among" "pours_among" 0 [] .none .none .none .none none .none .none 0)) #[])
def o339 (P : Params) : Obj := (co "pours_among" 893 "pours_among" 894 895 262 1 0 0 3 (.ref 523) (.bool true) (.int 181 0) (.ref 524) .none (.ref 525) (.ref 526) (.ref 527) 900 262 901)
def o340 (P : Params) : Obj := (fo (fu (st 55) "pours_among" "pours_among" 3 [] .none .none .none (.str "jughouse.houses" 871) none (.ref 528) .none 0))
def o341 (P : Params) : Obj := (di #[(de P "__module__" 910 (.str "jughouse.houses" 871)), (de P "__qualname__" 912 (.str "House" 911)), (de P "__firstlineno__" 914 (.int 269 913)), (de P "__init__" 923 (.ref 543)), (de P "sizes" 930 (.ref 550)), (de P "moves" 936 (.ref 555)), (de P "states" 943 (.ref 562)), (de P "empty" 949 (.ref 567)), (de P "__static_attributes__" 952 (.ref 568))] 9)
def o342 (P : Params) : Obj := (.mk .none none (.fields #[(.int 271 0), (.int 4 0), (.ref 542), (.int 277 0), (.int 4 0), (.ref 549), (.int 280 0), (.int 4 0), (.ref 554), (.int 288 0), (.int 4 0), (.ref 561), (.int 291 0), (.int 4 0), (.ref 566)]) #[])
def o343 (P : Params) : Obj := (co "House" 905 "House" 906 907 269 0 0 0 0 (.ref 533) (.bool false) (.int 181 0) (.ref 534) .none .none .none .none 908 269 909)
def o344 (P : Params) : Obj := (.mk (.type "frame") none .plain #[(some (.ref 535)), (some (.ref 3)), (some (.ref 532)), none, (some (.str "jughouse.houses" 871)), none, (some (.ref 0))])
def o345 (P : Params) : Obj := (tu #[(.str "self" 918), (.str "sizes" 919), (.str "tap" 920)])
def o346 (P : Params) : Obj := (.mk .none none (.func (fu (me 56 0) "__init__" "House.__init__" 0 [] .none .none .none .none none .none .none 0)) #[])
def o347 (P : Params) : Obj := (co "__init__" 915 "House.__init__" 916 917 271 3 0 0 3 (.ref 537) (.bool true) (.int 181 0) (.ref 538) .none (.ref 539) (.ref 540) (.ref 541) 921 271 922)
def o348 (P : Params) : Obj := (fo (fu (me 56 0) "__init__" "House.__init__" 3 [] .none .none .none (.str "jughouse.houses" 871) none (.ref 542) .none 0))
def o349 (P : Params) : Obj := (tu #[(.str "self" 927)])
def o350 (P : Params) : Obj := (.mk .none none (.func (fu (me 56 1) "sizes" "House.sizes" 0 [] .none .none .none .none none .none .none 0)) #[])
def o351 (P : Params) : Obj := (co "sizes" 924 "House.sizes" 925 926 277 1 0 0 3 (.ref 544) (.bool true) (.int 181 0) (.ref 545) .none (.ref 546) (.ref 547) (.ref 548) 928 277 929)
def o352 (P : Params) : Obj := (fo (fu (me 56 1) "sizes" "House.sizes" 3 [] .none .none .none (.str "jughouse.houses" 871) none (.ref 549) .none 0))
def o353 (P : Params) : Obj := (.mk .none none (.func (fu (me 56 2) "moves" "House.moves" 0 [] .none .none .none .none none .none .none 0)) #[])
def o354 (P : Params) : Obj := (co "moves" 931 "House.moves" 932 933 280 1 0 0 3 (.ref 551) (.bool true) (.int 181 0) (.ref 552) .none .none .none (.ref 553) 934 280 935)
def o355 (P : Params) : Obj := (fo (fu (me 56 2) "moves" "House.moves" 3 [] .none .none .none (.str "jughouse.houses" 871) none (.ref 554) .none 0))
def o356 (P : Params) : Obj := (tu #[(.str "self" 940)])
def o357 (P : Params) : Obj := (.mk .none none (.func (fu (me 56 3) "states" "House.states" 0 [] .none .none .none .none none .none .none 0)) #[])
def o358 (P : Params) : Obj := (co "states" 937 "House.states" 938 939 288 1 0 0 3 (.ref 556) (.bool true) (.int 181 0) (.ref 557) .none (.ref 558) (.ref 559) (.ref 560) 941 288 942)
def o359 (P : Params) : Obj := (fo (fu (me 56 3) "states" "House.states" 3 [] .none .none .none (.str "jughouse.houses" 871) none (.ref 561) .none 0))
def o360 (P : Params) : Obj := (.mk .none none (.func (fu (me 56 4) "empty" "House.empty" 0 [] .none .none .none .none none .none .none 0)) #[])
def o361 (P : Params) : Obj := (co "empty" 944 "House.empty" 945 946 291 1 0 0 3 (.ref 563) (.bool true) (.int 181 0) (.ref 564) .none .none .none (.ref 565) 947 291 948)
def o362 (P : Params) : Obj := (fo (fu (me 56 4) "empty" "House.empty" 3 [] .none .none .none (.str "jughouse.houses" 871) none (.ref 566) .none 0))
def o363 (P : Params) : Obj := (tu #[(.str "jug_sizes" 950), (.str "tap" 951)])
def o364 (P : Params) : Obj := (di #[(de P "__module__" 910 (.str "jughouse.houses" 871)), (de P "__firstlineno__" 914 (.int 269 913)), (de P "__init__" 923 (.ref 543)), (de P "sizes" 930 (.ref 550)), (de P "moves" 936 (.ref 555)), (de P "states" 943 (.ref 562)), (de P "empty" 949 (.ref 567)), (de P "__static_attributes__" 952 (.ref 568)), (de P "__dict__" 954 (.ref 571)), (de P "__weakref__" 956 (.ref 572)), (de P "__doc__" 957 .none)] 4)
def o365 (P : Params) : Obj := (.mk (.type "type") none (.cls (.mk "House" [(.type "object")] [(.ref 570), (.type "object")] 569 "House" true [] [] false none false)) #[none, none, (some (.str "House" 903)), (some (.str "House" 911)), (some (.builtin "object.__new__")), (some (.bool true))])
def o366 (P : Params) : Obj := (.mk (.type "getset_descriptor") none (.fields #[(.str "__dict__" 953), (.ref 570), (.builtin "function.__dict__"), (.builtin "function.__dict__#set")]) #[])
def o367 (P : Params) : Obj := (.mk (.type "getset_descriptor") none (.fields #[(.str "__weakref__" 955), (.ref 570), (.builtin "ExceptionGroup.__weakref__"), .none]) #[])
def o368 (P : Params) : Obj := (.mk (.type "super") none (.fields #[(.ref 570), (.ref 570), (.ref 570)]) #[])
def o369 (P : Params) : Obj := (.mk (.type "builtin_function_or_method") none (.fields #[(.builtin "object.__init_subclass__"), (.ref 570)]) #[])
def o370 (P : Params) : Obj := (tu #[(.str "move" 965)])
def o371 (P : Params) : Obj := (.mk .none none (.func (fu (st 58) "move_text" "move_text" 0 [] .none .none .none .none none .none .none 0)) #[])
def o372 (P : Params) : Obj := (co "move_text" 962 "move_text" 963 964 294 1 0 0 3 (.ref 575) (.bool true) (.int 181 0) (.ref 576) .none (.ref 577) (.ref 578) (.ref 579) 966 294 967)
def o373 (P : Params) : Obj := (fo (fu (st 58) "move_text" "move_text" 3 [] .none .none .none (.str "jughouse.texts" 960) none (.ref 580) .none 0))
def o374 (P : Params) : Obj := (.mk .none none (.func (fu (st 59) "routine_text" "routine_text" 0 [] .none .none .none .none none .none .none 0)) #[])
def o375 (P : Params) : Obj := (co "routine_text" 969 "routine_text" 970 971 300 1 0 0 3 (.ref 582) (.bool true) (.int 181 0) (.ref 583) .none .none .none (.ref 584) 972 300 973)
def o376 (P : Params) : Obj := (fo (fu (st 59) "routine_text" "routine_text" 3 [] .none .none .none (.str "jughouse.texts" 960) none (.ref 585) .none 0))
def o377 (P : Params) : Obj := (tu #[(.str "_law_script" 980), (.str "_law_k" 981)])
def o378 (P : Params) : Obj := (.mk .none none (.func (fu (st 61) "_law_cell_at" "_law_cell_at" 0 [] .none .none .none .none none .none .none 0)) #[])
def o379 (P : Params) : Obj := (co "_law_cell_at" 977 "_law_cell_at" 978 979 303 2 0 0 3 (.ref 587) (.bool true) (.int 181 0) (.ref 588) .none (.ref 589) (.ref 590) (.ref 591) 982 303 983)
def o380 (P : Params) : Obj := (fo (fu (st 61) "_law_cell_at" "_law_cell_at" 3 [] .none .none .none (.str "law_jughouse_k05_whole_fewest" 975) none (.ref 592) .none 0))
def o381 (P : Params) : Obj := (tu #[(.str "_law_cell" 988), (.str "_law_k" 989), (.str "_law_many" 990), (.str "_law_primes" 991)])
def o382 (P : Params) : Obj := (.mk .none none (.func (fu (st 62) "_law_draw" "_law_draw" 0 [] .none .none .none .none none .none .none 0)) #[])
def o383 (P : Params) : Obj := (co "_law_draw" 985 "_law_draw" 986 987 307 3 0 0 3 (.ref 594) (.bool true) (.int 181 0) (.ref 595) .none (.ref 596) (.ref 597) (.ref 598) 992 307 993)
def o384 (P : Params) : Obj := (fo (fu (st 62) "_law_draw" "_law_draw" 3 [] .none .none .none (.str "law_jughouse_k05_whole_fewest" 975) none (.ref 599) .none 0))
def o385 (P : Params) : Obj := (.mk .none none (.func (fu (st 63) "_law_sizes" "_law_sizes" 0 [] .none .none .none .none none .none .none 0)) #[])
def o386 (P : Params) : Obj := (co "_law_sizes" 995 "_law_sizes" 996 997 310 1 0 0 3 (.ref 601) (.bool true) (.int 181 0) (.ref 602) .none .none .none (.ref 603) 998 310 999)
def o387 (P : Params) : Obj := (fo (fu (st 63) "_law_sizes" "_law_sizes" 3 [] .none .none .none (.str "law_jughouse_k05_whole_fewest" 975) none (.ref 604) .none 0))
def o388 (P : Params) : Obj := (tu #[(.str "_law_cell" 1004), (.str "_law_sizes_here" 1005), (.str "_law_state_here" 1006), (.str "_law_k" 1007), (.str "_law_kind" 1008)])
def o389 (P : Params) : Obj := (.mk .none none (.func (fu (st 64) "_law_state" "_law_state" 0 [] .none .none .none .none none .none .none 0)) #[])
def o390 (P : Params) : Obj := (co "_law_state" 1001 "_law_state" 1002 1003 314 2 0 0 3 (.ref 606) (.bool true) (.int 181 0) (.ref 607) .none (.ref 608) (.ref 609) (.ref 610) 1009 314 1010)
def o391 (P : Params) : Obj := (fo (fu (st 64) "_law_state" "_law_state" 3 [] .none .none .none (.str "law_jughouse_k05_whole_fewest" 975) none (.ref 611) .none 0))
def o392 (P : Params) : Obj := (.mk .none none (.func (fu (st 65) "_law_all_moves" "_law_all_moves" 0 [] .none .none .none .none none .none .none 0)) #[])
def o393 (P : Params) : Obj := (co "_law_all_moves" 1012 "_law_all_moves" 1013 1014 320 2 0 0 3 (.ref 613) (.bool true) (.int 181 0) (.ref 614) .none .none .none (.ref 615) 1015 320 1016)
def o394 (P : Params) : Obj := (fo (fu (st 65) "_law_all_moves" "_law_all_moves" 3 [] .none .none .none (.str "law_jughouse_k05_whole_fewest" 975) none (.ref 616) .none 0))
def o395 (P : Params) : Obj := (tu #[(.str "_law_sizes_here" 1021), (.str "_law_state_here" 1022), (.str "_law_told_here" 1023), (.str "_law_sort" 1024), (.str "_law_one" 1025), (.str "_law_other" 1026), (.str "_law_made_here" 1027), (.str "_law_much" 1028)])
def o396 (P : Params) : Obj := (.mk .none none (.func (fu (st 66) "_law_behind" "_law_behind" 0 [] .none .none .none .none none .none .none 0)) #[])
def o397 (P : Params) : Obj := (co "_law_behind" 1018 "_law_behind" 1019 1020 328 3 0 0 3 (.ref 618) (.bool true) (.int 181 0) (.ref 619) .none (.ref 620) (.ref 621) (.ref 622) 1029 328 1030)
def o398 (P : Params) : Obj := (fo (fu (st 66) "_law_behind" "_law_behind" 3 [] .none .none .none (.str "law_jughouse_k05_whole_fewest" 975) none (.ref 623) .none 0))
def o399 (P : Params) : Obj := (tu #[(.str "_law_move" 1035), (.str "_law_words" 1036)])
def o400 (P : Params) : Obj := (.mk .none none (.func (fu (st 67) "_law_told" "_law_told" 0 [] .none .none .none .none none .none .none 0)) #[])
def o401 (P : Params) : Obj := (co "_law_told" 1032 "_law_told" 1033 1034 339 1 0 0 3 (.ref 625) (.bool true) (.int 181 0) (.ref 626) .none (.ref 627) (.ref 628) (.ref 629) 1037 339 1038)
def o402 (P : Params) : Obj := (fo (fu (st 67) "_law_told" "_law_told" 3 [] .none .none .none (.str "law_jughouse_k05_whole_fewest" 975) none (.ref 630) .none 0))
def o403 (P : Params) : Obj := (.mk .none none (.func (fu (st 68) "_law_goal" "_law_goal" 0 [] .none .none .none .none none .none .none 0)) #[])
def o404 (P : Params) : Obj := (co "_law_goal" 1040 "_law_goal" 1041 1042 344 3 0 0 3 (.ref 632) (.bool true) (.int 181 0) (.ref 633) .none .none .none (.ref 634) 1043 344 1044)
def o405 (P : Params) : Obj := (fo (fu (st 68) "_law_goal" "_law_goal" 3 [] .none .none .none (.str "law_jughouse_k05_whole_fewest" 975) none (.ref 635) .none 0))
def o406 (P : Params) : Obj := (.mk .none none (.func (fu (st 69) "_law_met" "_law_met" 0 [] .none .none .none .none none .none .none 0)) #[])
def o407 (P : Params) : Obj := (co "_law_met" 1046 "_law_met" 1047 1048 355 2 0 0 3 (.ref 637) (.bool true) (.int 181 0) (.ref 638) .none .none .none (.ref 639) 1049 355 1050)
def o408 (P : Params) : Obj := (fo (fu (st 69) "_law_met" "_law_met" 3 [] .none .none .none (.str "law_jughouse_k05_whole_fewest" 975) none (.ref 640) .none 0))
def o409 (P : Params) : Obj := (tu #[(.str "_law_told_here" 1055), (.str "_law_sort" 1056), (.str "_law_jugs" 1057), (.str "_law_thing" 1058)])
def o410 (P : Params) : Obj := (.mk .none none (.func (fu (st 70) "_law_made" "_law_made" 0 [] .none .none .none .none none .none .none 0)) #[])
def o411 (P : Params) : Obj := (co "_law_made" 1052 "_law_made" 1053 1054 362 1 0 0 3 (.ref 642) (.bool true) (.int 181 0) (.ref 643) .none (.ref 644) (.ref 645) (.ref 646) 1059 362 1060)
def o412 (P : Params) : Obj := (fo (fu (st 70) "_law_made" "_law_made" 3 [] .none .none .none (.str "law_jughouse_k05_whole_fewest" 975) none (.ref 647) .none 0))
def o413 (P : Params) : Obj := (tu #[(.str "_law_sizes_here" 1065), (.str "_law_state_here" 1066), (.str "_law_k" 1067)])
def o414 (P : Params) : Obj := (.mk .none none (.func (fu (st 71) "_law_is_state" "_law_is_state" 0 [] .none .none .none .none none .none .none 0)) #[])
def o415 (P : Params) : Obj := (co "_law_is_state" 1062 "_law_is_state" 1063 1064 371 2 0 0 3 (.ref 649) (.bool true) (.int 181 0) (.ref 650) .none (.ref 651) (.ref 652) (.ref 653) 1068 371 1069)
def o416 (P : Params) : Obj := (fo (fu (st 71) "_law_is_state" "_law_is_state" 3 [] .none .none .none (.str "law_jughouse_k05_whole_fewest" 975) none (.ref 654) .none 0))
def o417 (P : Params) : Obj := (.mk .none none (.func (fu (st 72) "_law_closed" "_law_closed" 0 [] .none .none .none .none none .none .none 0)) #[])
def o418 (P : Params) : Obj := (co "_law_closed" 1071 "_law_closed" 1072 1073 378 3 0 0 3 (.ref 656) (.bool true) (.int 181 0) (.ref 657) .none .none .none (.ref 658) 1074 378 1075)
def o419 (P : Params) : Obj := (fo (fu (st 72) "_law_closed" "_law_closed" 3 [] .none .none .none (.str "law_jughouse_k05_whole_fewest" 975) none (.ref 659) .none 0))
def o420 (P : Params) : Obj := (.mk .none none (.func (fu (st 73) "_law_poured" "_law_poured" 0 [] .none .none .none .none none .none .none 0)) #[])
def o421 (P : Params) : Obj := (co "_law_poured" 1077 "_law_poured" 1078 1079 388 5 0 0 3 (.ref 661) (.bool true) (.int 181 0) (.ref 662) .none .none .none (.ref 663) 1080 388 1081)
def o422 (P : Params) : Obj := (fo (fu (st 73) "_law_poured" "_law_poured" 3 [] .none .none .none (.str "law_jughouse_k05_whole_fewest" 975) none (.ref 664) .none 0))
def o423 (P : Params) : Obj := (tu #[(.str "_law_found" 1086), (.str "_law_sizes_here" 1087), (.str "_law_tap" 1088), (.str "_law_state_here" 1089), (.str "_law_goal_here" 1090), (.str "_law_heights" 1091), (.str "_law_one" 1092)])
def o424 (P : Params) : Obj := (.mk .none none (.func (fu (st 74) "_law_barred" "_law_barred" 0 [] .none .none .none .none none .none .none 0)) #[])
def o425 (P : Params) : Obj := (co "_law_barred" 1083 "_law_barred" 1084 1085 407 5 0 0 3 (.ref 666) (.bool true) (.int 181 0) (.ref 667) .none (.ref 668) (.ref 669) (.ref 670) 1093 407 1094)
def o426 (P : Params) : Obj := (fo (fu (st 74) "_law_barred" "_law_barred" 3 [] .none .none .none (.str "law_jughouse_k05_whole_fewest" 975) none (.ref 671) .none 0))
def o427 (P : Params) : Obj := (tu #[(.str "_law_script" 1099), (.str "_law_sizes_here" 1100), (.str "_law_tap" 1101), (.str "_law_house" 1102), (.str "_law_state_here" 1103), (.str "_law_other" 1104), (.str "_law_k" 1105), (.str "_law_moves" 1106), (.str "_law_goal_here" 1107), (.str "_law_found" 1108), (.str "_law_told_here" 1109), (.str "_law_copied" 1110)])
def o428 (P : Params) : Obj := (.mk .none none (.func (fu (st 75) "law" "law" 0 [] .none .none .none .none none .none .none 0)) #[])
def o429 (P : Params) : Obj := (co "law" 1096 "law" 1097 1098 416 1 0 0 3 (.ref 673) (.bool true) (.int 181 0) (.ref 674) .none (.ref 675) (.ref 676) (.ref 677) 1111 416 1112)
def o430 (P : Params) : Obj := (fo (fu (st 75) "law" "law" 3 [] .none .none .none (.str "law_jughouse_k05_whole_fewest" 975) none (.ref 678) .none 0))
abbrev N := BT.node
abbrev L := BT.nil
def lifeF : Life := (.mk [] [] [] 0 [] [] false #[] [] 0 false false false 0 [2000, 10, 10] false 0 true [] [] 0 false)
def drawnF : Drawn := (.mk 0 0 0 0)
def hA (P : Params) : Heap := ⟨Array.mk (boot_o_0 P :: boot_o_1 P :: boot_o_2 P :: boot_o_3 P :: boot_o_4 P :: boot_o_5 P :: boot_o_6 P :: boot_o_7 P :: boot_o_8 P :: boot_o_9 P :: boot_o_10 P :: boot_o_7 P ::
 boot_o_8 P :: o11 P :: o12 P :: []), lifeF⟩
def sA (w : World) (os : OsState) : Shared := ⟨hA w.params, Array.mk [], drawnF, 187, os⟩
def tB (P : Params) : BT := (N (boot_o_0 P) (N (boot_o_1 P) (N (boot_o_3 P) (N (boot_o_7 P) L L) (N (boot_o_7 P) L L)) (N (boot_o_5 P) (N (boot_o_9 P) L L) (N (o11 P) L L))) (N (boot_o_2 P) (N (boot_o_4 P) (N (boot_o_8 P) L L) (N (boot_o_8 P) L L)) (N (boot_o_6 P) (N (boot_o_10 P) L L) (N (o12 P) L L))))
def sB (w : World) (os : OsState) : SharedT := ⟨tB w.params, 15, lifeF, Array.mk [], drawnF, 187, os⟩
def tC0 (P : Params) : BT := (N (boot_o_0 P) (N (boot_o_1 P) (N (o13 P) (N (boot_o_7 P) (N (boot_o_7 P) (N (o25 P) (N (boot_o_8 P) (N (o82 P) (N (o165 P) (N (o329 P) L L) L) (N (boot_o_8 P) (N (o406 P) L L) L)) (N (boot_o_7 P) (N (o208 P) (N (boot_o_7 P) L L) L) (N (o288 P) L L))) (N (o64 P) (N (o101 P) (N (o185 P) (N (o348 P) L L) L) (N (o265 P) (N (o425 P) L L) L)) (N (o144 P) (N (o228 P) (N (boot_o_8 P) L L) L) (N (boot_o_7 P) L L)))) (N (o29 P) (N (o54 P) (N (o91 P) (N (o175 P) (N (o338 P) L L) L) (N (boot_o_7 P) (N (o416 P) L L) L)) (N (boot_o_7 P) (N (o218 P) (N (o378 P) L L) L) (N (o298 P) L L))) (N (boot_o_7 P) (N (o20 P) (N (o196 P) (N (boot_o_7 P) L L) L) (N (boot_o_7 P) L L)) (N (o154 P) (N (o238 P) (N (o397 P) L L) L) (N (o318 P) L L))))) (N (o20 P) (N (boot_o_8 P) (N (o29 P) (N (boot_o_7 P) (N (o170 P) (N (boot_o_7 P) L L) L) (N (o251 P) (N (o411 P) L L) L)) (N (o129 P) (N (o213 P) (N (boot_o_8 P) L L) L) (N (o293 P) L L))) (N (o69 P) (N (boot_o_7 P) (N (o189 P) (N (boot_o_7 P) L L) L) (N (o272 P) (N (o430 P) L L) L)) (N (o149 P) (N (o233 P) (N (o392 P) L L) L) (N (o313 P) L L)))) (N (o40 P) (N (o59 P) (N (o96 P) (N (boot_o_7 P) (N (o343 P) L L) L) (N (o260 P) (N (o420 P) L L) L)) (N (boot_o_8 P) (N (boot_o_7 P) (N (o383 P) L L) L) (N (o303 P) L L))) (N (boot_o_8 P) (N (o117 P) (N (boot_o_7 P) (N (o362 P) L L) L) (N (boot_o_8 P) L L)) (N (o160 P) (N (boot_o_7 P) (N (o402 P) L L) L) (N (boot_o_8 P) L L)))))) (N (boot_o_7 P) (N (o16 P) (N (o29 P) (N (o47 P) (N (o85 P) (N (o167 P) (N (o332 P) L L) L) (N (o249 P) (N (boot_o_8 P) L L) L)) (N (o125 P) (N (o210 P) (N (o371 P) L L) L) (N (o20 P) L L))) (N (o66 P) (N (boot_o_7 P) (N (o20 P) (N (boot_o_7 P) L L) L) (N (o268 P) (N (o427 P) L L) L)) (N (o20 P) (N (boot_o_8 P) (N (o390 P) L L) L) (N (boot_o_7 P) L L)))) (N (boot_o_8 P) (N (boot_o_7 P) (N (o20 P) (N (o179 P) (N (o20 P) L L) L) (N (boot_o_7 P) (N (o418 P) L L) L)) (N (o135 P) (N (o222 P) (N (boot_o_8 P) L L) L) (N (boot_o_7 P) L L))) (N (o75 P) (N (o115 P) (N (boot_o_7 P) (N (boot_o_7 P) L L) L) (N (o279 P) L L)) (N (o156 P) (N (boot_o_7 P) (N (o399 P) L L) L) (N (o322 P) L L))))) (N (o22 P) (N (o33 P) (N (boot_o_8 P) (N (boot_o_7 P) (N (boot_o_7 P) (N (boot_o_7 P) L L) L) (N (o254 P) (N (o413 P) L L) L)) (N (boot_o_7 P) (N (boot_o_7 P) (N (boot_o_7 P) L L) L) (N (o295 P) L L))) (N (boot_o_7 P) (N (o109 P) (N (o192 P) (N (o355 P) L L) L) (N (boot_o_7 P) L L)) (N (o151 P) (N (o235 P) (N (boot_o_8 P) L L) L) (N (boot_o_8 P) L L)))) (N (o29 P) (N (boot_o_8 P) (N (o98 P) (N (boot_o_7 P) (N (o345 P) L L) L) (N (boot_o_8 P) (N (boot_o_8 P) L L) L)) (N (o140 P) (N (boot_o_7 P) (N (o385 P) L L) L) (N (o307 P) L L))) (N (o80 P) (N (o120 P) (N (o204 P) (N (o366 P) L L) L) (N (o284 P) L L)) (N (o20 P) (N (o244 P) (N (o404 P) L L) L) (N (o327 P) L L))))))) (N (boot_o_5 P) (N (boot_o_9 P) (N (o15 P) (N (o27 P) (N (o46 P) (N (o83 P) (N (boot_o_7 P) (N (o330 P) L L) L) (N (boot_o_7 P) (N (o408 P) L L) L)) (N (o123 P) (N (o197 P) (N (o370 P) L L) L) (N (o290 P) L L))) (N (boot_o_7 P) (N (boot_o_8 P) (N (o187 P) (N (boot_o_8 P) L L) L) (N (boot_o_7 P) (N (boot_o_7 P) L L) L)) (N (o146 P) (N (o230 P) (N (boot_o_7 P) L L) L) (N (o310 P) L L)))) (N (o37 P) (N (o56 P) (N (o93 P) (N (o177 P) (N (o340 P) L L) L) (N (o257 P) (N (boot_o_8 P) L L) L)) (N (o134 P) (N (o220 P) (N (o380 P) L L) L) (N (boot_o_8 P) L L))) (N (o74 P) (N (boot_o_7 P) (N (o20 P) (N (o358 P) L L) L) (N (o278 P) L L)) (N (boot_o_8 P) (N (boot_o_8 P) (N (boot_o_7 P) L L) L) (N (o320 P) L L))))) (N (boot_o_7 P) (N (o32 P) (N (o51 P) (N (o88 P) (N (boot_o_8 P) (N (o335 P) L L) L) (N (o252 P) (N (boot_o_7 P) L L) L)) (N (o20 P) (N (boot_o_8 P) (N (o375 P) L L) L) (N (boot_o_7 P) L L))) (N (boot_o_8 P) (N (o107 P) (N (boot_o_7 P) (N (o353 P) L L) L) (N (o20 P) L L)) (N (boot_o_7 P) (N (boot_o_7 P) (N (o394 P) L L) L) (N (o315 P) L L)))) (N (o42 P) (N (o61 P) (N (boot_o_7 P) (N (o182 P) (N (boot_o_7 P) L L) L) (N (o262 P) (N (o422 P) L L) L)) (N (boot_o_7 P) (N (o225 P) (N (boot_o_7 P) L L) L) (N (o305 P) L L))) (N (boot_o_7 P) (N (o118 P) (N (o202 P) (N (o364 P) L L) L) (N (boot_o_7 P) L L)) (N (o162 P) (N (o243 P) (N (boot_o_8 P) L L) L) (N (boot_o_7 P) L L)))))) (N (o11 P) (N (o18 P) (N (o30 P) (N (o49 P) (N (boot_o_8 P) (N (o168 P) (N (boot_o_8 P) L L) L) (N (boot_o_7 P) (N (boot_o_7 P) L L) L)) (N (o127 P) (N (o211 P) (N (o373 P) L L) L) (N (boot_o_7 P) L L))) (N (o67 P) (N (o104 P) (N (boot_o_7 P) (N (o351 P) L L) L) (N (o270 P) (N (o428 P) L L) L)) (N (boot_o_7 P) (N (boot_o_7 P) (N (boot_o_7 P) L L) L) (N (o312 P) L L)))) (N (o39 P) (N (o58 P) (N (boot_o_7 P) (N (boot_o_8 P) (N (boot_o_7 P) L L) L) (N (o259 P) (N (boot_o_7 P) L L) L)) (N (o137 P) (N (boot_o_8 P) (N (boot_o_7 P) L L) L) (N (o301 P) L L))) (N (o77 P) (N (boot_o_7 P) (N (o200 P) (N (o360 P) L L) L) (N (o281 P) L L)) (N (o158 P) (N (o241 P) (N (o400 P) L L) L) (N (o324 P) L L))))) (N (boot_o_7 P) (N (o35 P) (N (o53 P) (N (o90 P) (N (o173 P) (N (o337 P) L L) L) (N (o20 P) (N (o414 P) L L) L)) (N (o132 P) (N (o216 P) (N (o377 P) L L) L) (N (o296 P) L L))) (N (o72 P) (N (o111 P) (N (o194 P) (N (boot_o_8 P) L L) L) (N (o276 P) L L)) (N (o152 P) (N (o236 P) (N (boot_o_7 P) L L) L) (N (boot_o_7 P) L L)))) (N (o44 P) (N (boot_o_7 P) (N (o99 P) (N (o184 P) (N (o346 P) L L) L) (N (boot_o_7 P) (N (boot_o_7 P) L L) L)) (N (o142 P) (N (o227 P) (N (o387 P) L L) L) (N (o20 P) L L))) (N (boot_o_7 P) (N (boot_o_8 P) (N (o206 P) (N (o368 P) L L) L) (N (o286 P) L L)) (N (boot_o_7 P) (N (o246 P) (N (boot_o_7 P) L L) L) (N (boot_o_7 P) L L)))))))) (N (boot_o_2 P) (N (boot_o_4 P) (N (boot_o_8 P) (N (boot_o_8 P) (N (o26 P) (N (o45 P) (N (boot_o_7 P) (N (o166 P) (N (boot_o_7 P) L L) L) (N (o247 P) (N (o407 P) L L) L)) (N (o122 P) (N (o209 P) (N (boot_o_8 P) L L) L) (N (o289 P) L L))) (N (o65 P) (N (boot_o_7 P) (N (o186 P) (N (boot_o_7 P) L L) L) (N (o266 P) (N (o426 P) L L) L)) (N (o145 P) (N (o229 P) (N (o388 P) L L) L) (N (o309 P) L L)))) (N (o20 P) (N (o55 P) (N (o92 P) (N (o176 P) (N (o339 P) L L) L) (N (o256 P) (N (boot_o_7 P) L L) L)) (N (boot_o_8 P) (N (o219 P) (N (o379 P) L L) L) (N (boot_o_7 P) L L))) (N (boot_o_8 P) (N (o113 P) (N (o197 P) (N (o357 P) L L) L) (N (boot_o_8 P) L L)) (N (boot_o_7 P) (N (boot_o_7 P) (N (o398 P) L L) L) (N (o319 P) L L))))) (N (o21 P) (N (o31 P) (N (o20 P) (N (o87 P) (N (boot_o_7 P) (N (o334 P) L L) L) (N (boot_o_7 P) (N (o412 P) L L) L)) (N (o112 P) (N (boot_o_7 P) (N (o374 P) L L) L) (N (o294 P) L L))) (N (boot_o_7 P) (N (o106 P) (N (o190 P) (N (boot_o_8 P) L L) L) (N (o273 P) L L)) (N (o150 P) (N (o234 P) (N (o393 P) L L) L) (N (o314 P) L L)))) (N (o41 P) (N (o60 P) (N (o97 P) (N (o181 P) (N (o344 P) L L) L) (N (o261 P) (N (o421 P) L L) L)) (N (o138 P) (N (o224 P) (N (o384 P) L L) L) (N (o304 P) L L))) (N (o78 P) (N (boot_o_7 P) (N (boot_o_8 P) (N (o363 P) L L) L) (N (o282 P) L L)) (N (o161 P) (N (boot_o_8 P) (N (boot_o_7 P) L L) L) (N (o325 P) L L)))))) (N (o14 P) (N (o17 P) (N (o20 P) (N (o48 P) (N (boot_o_7 P) (N (boot_o_7 P) (N (boot_o_7 P) L L) L) (N (o250 P) (N (o409 P) L L) L)) (N (o126 P) (N (boot_o_7 P) (N (o372 P) L L) L) (N (o291 P) L L))) (N (boot_o_7 P) (N (o103 P) (N (o188 P) (N (o350 P) L L) L) (N (o269 P) (N (boot_o_7 P) L L) L)) (N (o147 P) (N (o231 P) (N (o391 P) L L) L) (N (boot_o_8 P) L L)))) (N (o38 P) (N (boot_o_8 P) (N (o94 P) (N (boot_o_7 P) (N (o341 P) L L) L) (N (boot_o_8 P) (N (o419 P) L L) L)) (N (o136 P) (N (boot_o_7 P) (N (o381 P) L L) L) (N (o300 P) L L))) (N (o76 P) (N (o116 P) (N (o199 P) (N (boot_o_8 P) L L) L) (N (o280 P) L L)) (N (o157 P) (N (o240 P) (N (boot_o_7 P) L L) L) (N (o323 P) L L))))) (N (o23 P) (N (o34 P) (N (o52 P) (N (boot_o_8 P) (N (o172 P) (N (boot_o_8 P) L L) L) (N (boot_o_7 P) (N (boot_o_7 P) L L) L)) (N (o131 P) (N (o215 P) (N (boot_o_8 P) L L) L) (N (boot_o_7 P) L L))) (N (o71 P) (N (o110 P) (N (o193 P) (N (boot_o_7 P) L L) L) (N (o275 P) L L)) (N (boot_o_7 P) (N (boot_o_7 P) (N (o395 P) L L) L) (N (o316 P) L L)))) (N (o20 P) (N (o62 P) (N (boot_o_7 P) (N (boot_o_8 P) (N (boot_o_7 P) L L) L) (N (o263 P) (N (o423 P) L L) L)) (N (o141 P) (N (boot_o_8 P) (N (o386 P) L L) L) (N (o273 P) L L))) (N (o81 P) (N (boot_o_7 P) (N (o205 P) (N (o367 P) L L) L) (N (o285 P) L L)) (N (o163 P) (N (o245 P) (N (o405 P) L L) L) (N (o328 P) L L))))))) (N (boot_o_6 P) (N (boot_o_10 P) (N (boot_o_7 P) (N (o28 P) (N (boot_o_7 P) (N (o84 P) (N (boot_o_8 P) (N (o331 P) L L) L) (N (o248 P) (N (boot_o_7 P) L L) L)) (N (o124 P) (N (o20 P) (N (boot_o_7 P) L L) L) (N (o273 P) L L))) (N (boot_o_8 P) (N (o102 P) (N (boot_o_7 P) (N (o349 P) L L) L) (N (o267 P) (N (boot_o_8 P) L L) L)) (N (o112 P) (N (boot_o_7 P) (N (o389 P) L L) L) (N (o311 P) L L)))) (N (boot_o_7 P) (N (o57 P) (N (boot_o_7 P) (N (o178 P) (N (boot_o_7 P) L L) L) (N (o258 P) (N (o417 P) L L) L)) (N (boot_o_7 P) (N (o221 P) (N (boot_o_7 P) L L) L) (N (o299 P) L L))) (N (boot_o_7 P) (N (o114 P) (N (o198 P) (N (o359 P) L L) L) (N (boot_o_7 P) L L)) (N (o155 P) (N (o239 P) (N (boot_o_8 P) L L) L) (N (o321 P) L L))))) (N (boot_o_8 P) (N (boot_o_7 P) (N (boot_o_7 P) (N (o89 P) (N (o171 P) (N (o336 P) L L) L) (N (o253 P) (N (boot_o_8 P) L L) L)) (N (o130 P) (N (o214 P) (N (o376 P) L L) L) (N (boot_o_8 P) L L))) (N (o70 P) (N (o108 P) (N (o191 P) (N (o354 P) L L) L) (N (o274 P) L L)) (N (boot_o_8 P) (N (boot_o_8 P) (N (boot_o_7 P) L L) L) (N (boot_o_7 P) L L)))) (N (o43 P) (N (boot_o_7 P) (N (boot_o_8 P) (N (o183 P) (N (boot_o_8 P) L L) L) (N (boot_o_7 P) (N (boot_o_7 P) L L) L)) (N (o139 P) (N (o226 P) (N (boot_o_8 P) L L) L) (N (o306 P) L L))) (N (o79 P) (N (o119 P) (N (o203 P) (N (o365 P) L L) L) (N (o283 P) L L)) (N (o112 P) (N (boot_o_7 P) (N (o403 P) L L) L) (N (o326 P) L L)))))) (N (o12 P) (N (o19 P) (N (boot_o_7 P) (N (o50 P) (N (o86 P) (N (o169 P) (N (o333 P) L L) L) (N (boot_o_8 P) (N (o410 P) L L) L)) (N (o128 P) (N (o212 P) (N (boot_o_7 P) L L) L) (N (o292 P) L L))) (N (o68 P) (N (o105 P) (N (boot_o_8 P) (N (o352 P) L L) L) (N (o271 P) (N (o429 P) L L) L)) (N (o148 P) (N (o232 P) (N (boot_o_8 P) L L) L) (N (boot_o_7 P) L L)))) (N (boot_o_7 P) (N (boot_o_7 P) (N (o95 P) (N (o180 P) (N (o342 P) L L) L) (N (boot_o_7 P) (N (boot_o_8 P) L L) L)) (N (boot_o_7 P) (N (o223 P) (N (o382 P) L L) L) (N (o302 P) L L))) (N (boot_o_7 P) (N (boot_o_8 P) (N (o201 P) (N (o361 P) L L) L) (N (boot_o_7 P) L L)) (N (o159 P) (N (o242 P) (N (o401 P) L L) L) (N (boot_o_7 P) L L))))) (N (o24 P) (N (o36 P) (N (boot_o_7 P) (N (boot_o_7 P) (N (o174 P) (N (boot_o_7 P) L L) L) (N (o255 P) (N (o415 P) L L) L)) (N (o133 P) (N (o217 P) (N (boot_o_7 P) L L) L) (N (o297 P) L L))) (N (o73 P) (N (o112 P) (N (o195 P) (N (o356 P) L L) L) (N (o277 P) L L)) (N (o153 P) (N (o237 P) (N (o396 P) L L) L) (N (o317 P) L L)))) (N (boot_o_7 P) (N (o63 P) (N (o100 P) (N (boot_o_7 P) (N (o347 P) L L) L) (N (o264 P) (N (o424 P) L L) L)) (N (o143 P) (N (boot_o_7 P) (N (boot_o_7 P) L L) L) (N (o308 P) L L))) (N (boot_o_8 P) (N (o121 P) (N (o207 P) (N (o369 P) L L) L) (N (o287 P) L L)) (N (o164 P) (N (boot_o_7 P) (N (boot_o_8 P) L L) L) (N (boot_o_8 P) L L)))))))))
def sC0 (w : World) (os : OsState) : SharedT := ⟨tC0 w.params, 680, lifeF, Array.mk [], drawnF, 1114, os⟩
def hF (P : Params) : Heap := ⟨Array.mk (boot_o_0 P :: boot_o_1 P :: boot_o_2 P :: o13 P :: boot_o_4 P :: boot_o_5 P :: boot_o_6 P :: boot_o_7 P :: boot_o_8 P :: boot_o_9 P :: boot_o_10 P :: boot_o_7 P ::
 o14 P :: o11 P :: o12 P :: boot_o_7 P :: boot_o_8 P :: o15 P :: boot_o_7 P :: o16 P :: o17 P :: o18 P :: o19 P :: o20 P ::
 o21 P :: boot_o_7 P :: boot_o_8 P :: o22 P :: o23 P :: boot_o_7 P :: o24 P :: o25 P :: o26 P :: o27 P :: o28 P :: o29 P ::
 o20 P :: o30 P :: boot_o_7 P :: boot_o_8 P :: o31 P :: o32 P :: boot_o_7 P :: o33 P :: o34 P :: o35 P :: o36 P :: o29 P ::
 o20 P :: o37 P :: boot_o_7 P :: boot_o_8 P :: o38 P :: o39 P :: boot_o_7 P :: o40 P :: o41 P :: o42 P :: o43 P :: o29 P ::
 o20 P :: o44 P :: boot_o_7 P :: boot_o_8 P :: o45 P :: o46 P :: boot_o_7 P :: o47 P :: o48 P :: o49 P :: o50 P :: o29 P ::
 o20 P :: o51 P :: boot_o_7 P :: boot_o_8 P :: o52 P :: o53 P :: boot_o_7 P :: o54 P :: o55 P :: o56 P :: o57 P :: boot_o_7 P ::
 boot_o_8 P :: o58 P :: boot_o_7 P :: o59 P :: o60 P :: o61 P :: boot_o_7 P :: boot_o_8 P :: o62 P :: boot_o_7 P :: o63 P :: o64 P ::
 o65 P :: boot_o_7 P :: boot_o_8 P :: o66 P :: boot_o_7 P :: o67 P :: o68 P :: o69 P :: boot_o_7 P :: boot_o_8 P :: o70 P :: boot_o_7 P ::
 o71 P :: o72 P :: o73 P :: boot_o_7 P :: boot_o_8 P :: o74 P :: boot_o_7 P :: o75 P :: o76 P :: o77 P :: boot_o_7 P :: boot_o_8 P ::
 o78 P :: boot_o_7 P :: o79 P :: o80 P :: o81 P :: boot_o_7 P :: boot_o_8 P :: o82 P :: boot_o_7 P :: o83 P :: o84 P :: o85 P ::
 boot_o_7 P :: boot_o_8 P :: o86 P :: boot_o_7 P :: o87 P :: o88 P :: o89 P :: boot_o_7 P :: boot_o_8 P :: o90 P :: boot_o_7 P :: o91 P ::
 o92 P :: o93 P :: boot_o_7 P :: o20 P :: o94 P :: boot_o_7 P :: o95 P :: o96 P :: o97 P :: boot_o_7 P :: boot_o_8 P :: o98 P ::
 boot_o_7 P :: o99 P :: o100 P :: o101 P :: boot_o_7 P :: boot_o_8 P :: o102 P :: boot_o_7 P :: o103 P :: o104 P :: o105 P :: boot_o_7 P ::
 o106 P :: o107 P :: o108 P :: o109 P :: o110 P :: o111 P :: o112 P :: o20 P :: o113 P :: boot_o_7 P :: o114 P :: o115 P ::
 o116 P :: boot_o_7 P :: boot_o_8 P :: o117 P :: boot_o_7 P :: o118 P :: o119 P :: o120 P :: boot_o_7 P :: boot_o_8 P :: o121 P :: boot_o_7 P ::
 o122 P :: o123 P :: o124 P :: o125 P :: o126 P :: o127 P :: o128 P :: o129 P :: o112 P :: o20 P :: o130 P :: boot_o_7 P ::
 o131 P :: o132 P :: o133 P :: boot_o_7 P :: boot_o_8 P :: o134 P :: boot_o_7 P :: o135 P :: o136 P :: o137 P :: boot_o_7 P :: boot_o_8 P ::
 o138 P :: boot_o_7 P :: o139 P :: o140 P :: o141 P :: o142 P :: o143 P :: o144 P :: o145 P :: o146 P :: o112 P :: o20 P ::
 o147 P :: boot_o_7 P :: o148 P :: o149 P :: o150 P :: boot_o_7 P :: boot_o_8 P :: o151 P :: boot_o_7 P :: o152 P :: o153 P :: o154 P ::
 boot_o_7 P :: boot_o_8 P :: o155 P :: o156 P :: o157 P :: o158 P :: o159 P :: o160 P :: o161 P :: o162 P :: o112 P :: o20 P ::
 o163 P :: boot_o_7 P :: o164 P :: o165 P :: o166 P :: boot_o_7 P :: boot_o_8 P :: o167 P :: boot_o_7 P :: o168 P :: o169 P :: o170 P ::
 boot_o_7 P :: boot_o_8 P :: o171 P :: boot_o_7 P :: o172 P :: o173 P :: o174 P :: o175 P :: o176 P :: o177 P :: o178 P :: o179 P ::
 boot_o_7 P :: boot_o_8 P :: o180 P :: boot_o_7 P :: o181 P :: o182 P :: o183 P :: boot_o_7 P :: boot_o_8 P :: o184 P :: boot_o_7 P :: o185 P ::
 o186 P :: o187 P :: boot_o_7 P :: o20 P :: o188 P :: boot_o_7 P :: boot_o_8 P :: o189 P :: o190 P :: boot_o_7 P :: o191 P :: o192 P ::
 o193 P :: o194 P :: o195 P :: o196 P :: o197 P :: o20 P :: o198 P :: boot_o_7 P :: o199 P :: o200 P :: o201 P :: boot_o_7 P ::
 boot_o_8 P :: o202 P :: o203 P :: o204 P :: o205 P :: o206 P :: o207 P :: o208 P :: o209 P :: o197 P :: o20 P :: o210 P ::
 boot_o_7 P :: o211 P :: o212 P :: o213 P :: boot_o_7 P :: boot_o_8 P :: o214 P :: boot_o_7 P :: o215 P :: o216 P :: o217 P :: o218 P ::
 o219 P :: o220 P :: o221 P :: o222 P :: boot_o_7 P :: boot_o_8 P :: o223 P :: boot_o_7 P :: o224 P :: o225 P :: o226 P :: boot_o_7 P ::
 boot_o_8 P :: o227 P :: boot_o_7 P :: o228 P :: o229 P :: o230 P :: boot_o_7 P :: boot_o_8 P :: o231 P :: boot_o_7 P :: o232 P :: o233 P ::
 o234 P :: boot_o_7 P :: boot_o_8 P :: o235 P :: boot_o_7 P :: o236 P :: o237 P :: o238 P :: boot_o_7 P :: boot_o_8 P :: o239 P :: boot_o_7 P ::
 o240 P :: o241 P :: o242 P :: boot_o_7 P :: boot_o_8 P :: o243 P :: boot_o_7 P :: o244 P :: o245 P :: o246 P :: boot_o_7 P :: boot_o_8 P ::
 o247 P :: boot_o_7 P :: o248 P :: o249 P :: o250 P :: boot_o_7 P :: boot_o_8 P :: o251 P :: boot_o_7 P :: o252 P :: o253 P :: o254 P ::
 boot_o_7 P :: o20 P :: o255 P :: boot_o_7 P :: o256 P :: o257 P :: o258 P :: boot_o_7 P :: boot_o_8 P :: o259 P :: boot_o_7 P :: o260 P ::
 o261 P :: o262 P :: boot_o_7 P :: boot_o_8 P :: o263 P :: boot_o_7 P :: o264 P :: o265 P :: o266 P :: boot_o_7 P :: o267 P :: o268 P ::
 o269 P :: o270 P :: o271 P :: o272 P :: o273 P :: o20 P :: o274 P :: boot_o_7 P :: o275 P :: o276 P :: o277 P :: boot_o_7 P ::
 boot_o_8 P :: o278 P :: boot_o_7 P :: o279 P :: o280 P :: o281 P :: boot_o_7 P :: boot_o_8 P :: o282 P :: boot_o_7 P :: o283 P :: o284 P ::
 o285 P :: o286 P :: o287 P :: o288 P :: o289 P :: o290 P :: o273 P :: o20 P :: o291 P :: boot_o_7 P :: o292 P :: o293 P ::
 o294 P :: boot_o_7 P :: boot_o_8 P :: o295 P :: boot_o_7 P :: o296 P :: o297 P :: o298 P :: boot_o_7 P :: boot_o_8 P :: o299 P :: boot_o_7 P ::
 o300 P :: o301 P :: o302 P :: o303 P :: o304 P :: o305 P :: o306 P :: o307 P :: o273 P :: o20 P :: o308 P :: boot_o_7 P ::
 o309 P :: o310 P :: o311 P :: boot_o_7 P :: boot_o_8 P :: o312 P :: boot_o_7 P :: o313 P :: o314 P :: o315 P :: boot_o_7 P :: boot_o_8 P ::
 o316 P :: boot_o_7 P :: o317 P :: o318 P :: o319 P :: o320 P :: o321 P :: o322 P :: o323 P :: o324 P :: boot_o_7 P :: boot_o_8 P ::
 o325 P :: boot_o_7 P :: o326 P :: o327 P :: o328 P :: boot_o_7 P :: boot_o_8 P :: o329 P :: boot_o_7 P :: o330 P :: o331 P :: o332 P ::
 boot_o_7 P :: boot_o_8 P :: o333 P :: boot_o_7 P :: o334 P :: o335 P :: o336 P :: boot_o_7 P :: boot_o_8 P :: o337 P :: boot_o_7 P :: o338 P ::
 o339 P :: o340 P :: boot_o_7 P :: o20 P :: o341 P :: boot_o_7 P :: o342 P :: o343 P :: o344 P :: boot_o_7 P :: boot_o_8 P :: o345 P ::
 boot_o_7 P :: o346 P :: o347 P :: o348 P :: boot_o_7 P :: boot_o_8 P :: o349 P :: boot_o_7 P :: o350 P :: o351 P :: o352 P :: boot_o_7 P ::
 boot_o_8 P :: o353 P :: o354 P :: o355 P :: boot_o_7 P :: boot_o_8 P :: o356 P :: boot_o_7 P :: o357 P :: o358 P :: o359 P :: boot_o_7 P ::
 boot_o_8 P :: o360 P :: o361 P :: o362 P :: o363 P :: o364 P :: o365 P :: o366 P :: o367 P :: o368 P :: o369 P :: boot_o_7 P ::
 boot_o_8 P :: o370 P :: boot_o_7 P :: o371 P :: o372 P :: o373 P :: boot_o_7 P :: boot_o_8 P :: o374 P :: o375 P :: o376 P :: boot_o_7 P ::
 boot_o_8 P :: o377 P :: boot_o_7 P :: o378 P :: o379 P :: o380 P :: boot_o_7 P :: boot_o_8 P :: o381 P :: boot_o_7 P :: o382 P :: o383 P ::
 o384 P :: boot_o_7 P :: boot_o_8 P :: o385 P :: o386 P :: o387 P :: boot_o_7 P :: boot_o_8 P :: o388 P :: boot_o_7 P :: o389 P :: o390 P ::
 o391 P :: boot_o_7 P :: boot_o_8 P :: o392 P :: o393 P :: o394 P :: boot_o_7 P :: boot_o_8 P :: o395 P :: boot_o_7 P :: o396 P :: o397 P ::
 o398 P :: boot_o_7 P :: boot_o_8 P :: o399 P :: boot_o_7 P :: o400 P :: o401 P :: o402 P :: boot_o_7 P :: boot_o_8 P :: o403 P :: o404 P ::
 o405 P :: boot_o_7 P :: boot_o_8 P :: o406 P :: o407 P :: o408 P :: boot_o_7 P :: boot_o_8 P :: o409 P :: boot_o_7 P :: o410 P :: o411 P ::
 o412 P :: boot_o_7 P :: boot_o_8 P :: o413 P :: boot_o_7 P :: o414 P :: o415 P :: o416 P :: boot_o_7 P :: boot_o_8 P :: o417 P :: o418 P ::
 o419 P :: boot_o_7 P :: boot_o_8 P :: o420 P :: o421 P :: o422 P :: boot_o_7 P :: boot_o_8 P :: o423 P :: boot_o_7 P :: o424 P :: o425 P ::
 o426 P :: boot_o_7 P :: boot_o_8 P :: o427 P :: boot_o_7 P :: o428 P :: o429 P :: o430 P :: []), lifeF⟩
def sF (w : World) (os : OsState) : Shared := ⟨hF w.params, Array.mk [], drawnF, 1114, os⟩
def KK (P : Params) : Frag := (nat_lit 2, boot_o_2 P) :: (nat_lit 3, o13 P) :: (nat_lit 15, boot_o_7 P) :: (nat_lit 17, o15 P) :: (nat_lit 18, boot_o_7 P) :: (nat_lit 20, o17 P) :: (nat_lit 21, o18 P) :: (nat_lit 22, o19 P) ::
 (nat_lit 29, boot_o_7 P) :: (nat_lit 30, o24 P) :: (nat_lit 31, o25 P) :: (nat_lit 32, o26 P) :: (nat_lit 35, o29 P) :: (nat_lit 42, boot_o_7 P) :: (nat_lit 43, o33 P) :: (nat_lit 44, o34 P) ::
 (nat_lit 47, o29 P) :: (nat_lit 54, boot_o_7 P) :: (nat_lit 55, o40 P) :: (nat_lit 56, o41 P) :: (nat_lit 59, o29 P) :: (nat_lit 66, boot_o_7 P) :: (nat_lit 67, o47 P) :: (nat_lit 68, o48 P) ::
 (nat_lit 71, o29 P) :: (nat_lit 78, boot_o_7 P) :: (nat_lit 79, o54 P) :: (nat_lit 80, o55 P) :: (nat_lit 83, boot_o_7 P) :: (nat_lit 85, o58 P) :: (nat_lit 86, boot_o_7 P) :: (nat_lit 88, o60 P) ::
 (nat_lit 89, o61 P) :: (nat_lit 90, boot_o_7 P) :: (nat_lit 92, o62 P) :: (nat_lit 93, boot_o_7 P) :: (nat_lit 95, o64 P) :: (nat_lit 96, o65 P) :: (nat_lit 97, boot_o_7 P) :: (nat_lit 99, o66 P) ::
 (nat_lit 100, boot_o_7 P) :: (nat_lit 102, o68 P) :: (nat_lit 103, o69 P) :: (nat_lit 104, boot_o_7 P) :: (nat_lit 106, o70 P) :: (nat_lit 107, boot_o_7 P) :: (nat_lit 109, o72 P) :: (nat_lit 110, o73 P) ::
 (nat_lit 111, boot_o_7 P) :: (nat_lit 113, o74 P) :: (nat_lit 114, boot_o_7 P) :: (nat_lit 116, o76 P) :: (nat_lit 117, o77 P) :: (nat_lit 118, boot_o_7 P) :: (nat_lit 120, o78 P) :: (nat_lit 121, boot_o_7 P) ::
 (nat_lit 123, o80 P) :: (nat_lit 124, o81 P) :: (nat_lit 125, boot_o_7 P) :: (nat_lit 127, o82 P) :: (nat_lit 128, boot_o_7 P) :: (nat_lit 130, o84 P) :: (nat_lit 131, o85 P) :: (nat_lit 132, boot_o_7 P) ::
 (nat_lit 134, o86 P) :: (nat_lit 135, boot_o_7 P) :: (nat_lit 137, o88 P) :: (nat_lit 138, o89 P) :: (nat_lit 139, boot_o_7 P) :: (nat_lit 141, o90 P) :: (nat_lit 142, boot_o_7 P) :: (nat_lit 144, o92 P) ::
 (nat_lit 145, o93 P) :: (nat_lit 153, boot_o_7 P) :: (nat_lit 155, o98 P) :: (nat_lit 156, boot_o_7 P) :: (nat_lit 158, o100 P) :: (nat_lit 159, o101 P) :: (nat_lit 160, boot_o_7 P) :: (nat_lit 162, o102 P) ::
 (nat_lit 163, boot_o_7 P) :: (nat_lit 165, o104 P) :: (nat_lit 166, o105 P) :: (nat_lit 167, boot_o_7 P) :: (nat_lit 168, o106 P) :: (nat_lit 169, o107 P) :: (nat_lit 170, o108 P) :: (nat_lit 171, o109 P) ::
 (nat_lit 174, o112 P) :: (nat_lit 181, boot_o_7 P) :: (nat_lit 183, o117 P) :: (nat_lit 184, boot_o_7 P) :: (nat_lit 186, o119 P) :: (nat_lit 187, o120 P) :: (nat_lit 188, boot_o_7 P) :: (nat_lit 190, o121 P) ::
 (nat_lit 191, boot_o_7 P) :: (nat_lit 193, o123 P) :: (nat_lit 194, o124 P) :: (nat_lit 195, o125 P) :: (nat_lit 196, o126 P) :: (nat_lit 197, o127 P) :: (nat_lit 200, o112 P) :: (nat_lit 207, boot_o_7 P) ::
 (nat_lit 209, o134 P) :: (nat_lit 210, boot_o_7 P) :: (nat_lit 212, o136 P) :: (nat_lit 213, o137 P) :: (nat_lit 214, boot_o_7 P) :: (nat_lit 216, o138 P) :: (nat_lit 217, boot_o_7 P) :: (nat_lit 219, o140 P) ::
 (nat_lit 220, o141 P) :: (nat_lit 221, o142 P) :: (nat_lit 222, o143 P) :: (nat_lit 223, o144 P) :: (nat_lit 226, o112 P) :: (nat_lit 233, boot_o_7 P) :: (nat_lit 235, o151 P) :: (nat_lit 236, boot_o_7 P) ::
 (nat_lit 238, o153 P) :: (nat_lit 239, o154 P) :: (nat_lit 240, boot_o_7 P) :: (nat_lit 243, o156 P) :: (nat_lit 244, o157 P) :: (nat_lit 245, o158 P) :: (nat_lit 246, o159 P) :: (nat_lit 247, o160 P) ::
 (nat_lit 250, o112 P) :: (nat_lit 257, boot_o_7 P) :: (nat_lit 259, o167 P) :: (nat_lit 260, boot_o_7 P) :: (nat_lit 262, o169 P) :: (nat_lit 263, o170 P) :: (nat_lit 264, boot_o_7 P) :: (nat_lit 266, o171 P) ::
 (nat_lit 267, boot_o_7 P) :: (nat_lit 269, o173 P) :: (nat_lit 270, o174 P) :: (nat_lit 271, o175 P) :: (nat_lit 272, o176 P) :: (nat_lit 273, o177 P) :: (nat_lit 276, boot_o_7 P) :: (nat_lit 278, o180 P) ::
 (nat_lit 279, boot_o_7 P) :: (nat_lit 281, o182 P) :: (nat_lit 282, o183 P) :: (nat_lit 283, boot_o_7 P) :: (nat_lit 285, o184 P) :: (nat_lit 286, boot_o_7 P) :: (nat_lit 288, o186 P) :: (nat_lit 289, o187 P) ::
 (nat_lit 297, boot_o_7 P) :: (nat_lit 298, o191 P) :: (nat_lit 299, o192 P) :: (nat_lit 300, o193 P) :: (nat_lit 301, o194 P) :: (nat_lit 304, o197 P) :: (nat_lit 311, boot_o_7 P) :: (nat_lit 314, o203 P) ::
 (nat_lit 315, o204 P) :: (nat_lit 316, o205 P) :: (nat_lit 317, o206 P) :: (nat_lit 318, o207 P) :: (nat_lit 321, o197 P) :: (nat_lit 328, boot_o_7 P) :: (nat_lit 330, o214 P) :: (nat_lit 331, boot_o_7 P) ::
 (nat_lit 333, o216 P) :: (nat_lit 334, o217 P) :: (nat_lit 335, o218 P) :: (nat_lit 336, o219 P) :: (nat_lit 337, o220 P) :: (nat_lit 340, boot_o_7 P) :: (nat_lit 342, o223 P) :: (nat_lit 343, boot_o_7 P) ::
 (nat_lit 345, o225 P) :: (nat_lit 346, o226 P) :: (nat_lit 347, boot_o_7 P) :: (nat_lit 349, o227 P) :: (nat_lit 350, boot_o_7 P) :: (nat_lit 352, o229 P) :: (nat_lit 353, o230 P) :: (nat_lit 354, boot_o_7 P) ::
 (nat_lit 356, o231 P) :: (nat_lit 357, boot_o_7 P) :: (nat_lit 359, o233 P) :: (nat_lit 360, o234 P) :: (nat_lit 361, boot_o_7 P) :: (nat_lit 363, o235 P) :: (nat_lit 364, boot_o_7 P) :: (nat_lit 366, o237 P) ::
 (nat_lit 367, o238 P) :: (nat_lit 368, boot_o_7 P) :: (nat_lit 370, o239 P) :: (nat_lit 371, boot_o_7 P) :: (nat_lit 373, o241 P) :: (nat_lit 374, o242 P) :: (nat_lit 375, boot_o_7 P) :: (nat_lit 377, o243 P) ::
 (nat_lit 378, boot_o_7 P) :: (nat_lit 380, o245 P) :: (nat_lit 381, o246 P) :: (nat_lit 382, boot_o_7 P) :: (nat_lit 384, o247 P) :: (nat_lit 385, boot_o_7 P) :: (nat_lit 387, o249 P) :: (nat_lit 388, o250 P) ::
 (nat_lit 389, boot_o_7 P) :: (nat_lit 391, o251 P) :: (nat_lit 392, boot_o_7 P) :: (nat_lit 394, o253 P) :: (nat_lit 395, o254 P) :: (nat_lit 403, boot_o_7 P) :: (nat_lit 405, o259 P) :: (nat_lit 406, boot_o_7 P) ::
 (nat_lit 408, o261 P) :: (nat_lit 409, o262 P) :: (nat_lit 410, boot_o_7 P) :: (nat_lit 412, o263 P) :: (nat_lit 413, boot_o_7 P) :: (nat_lit 415, o265 P) :: (nat_lit 416, o266 P) :: (nat_lit 417, boot_o_7 P) ::
 (nat_lit 418, o267 P) :: (nat_lit 419, o268 P) :: (nat_lit 420, o269 P) :: (nat_lit 421, o270 P) :: (nat_lit 424, o273 P) :: (nat_lit 431, boot_o_7 P) :: (nat_lit 433, o278 P) :: (nat_lit 434, boot_o_7 P) ::
 (nat_lit 436, o280 P) :: (nat_lit 437, o281 P) :: (nat_lit 438, boot_o_7 P) :: (nat_lit 440, o282 P) :: (nat_lit 441, boot_o_7 P) :: (nat_lit 443, o284 P) :: (nat_lit 444, o285 P) :: (nat_lit 445, o286 P) ::
 (nat_lit 446, o287 P) :: (nat_lit 447, o288 P) :: (nat_lit 450, o273 P) :: (nat_lit 457, boot_o_7 P) :: (nat_lit 459, o295 P) :: (nat_lit 460, boot_o_7 P) :: (nat_lit 462, o297 P) :: (nat_lit 463, o298 P) ::
 (nat_lit 464, boot_o_7 P) :: (nat_lit 466, o299 P) :: (nat_lit 467, boot_o_7 P) :: (nat_lit 469, o301 P) :: (nat_lit 470, o302 P) :: (nat_lit 471, o303 P) :: (nat_lit 472, o304 P) :: (nat_lit 473, o305 P) ::
 (nat_lit 476, o273 P) :: (nat_lit 483, boot_o_7 P) :: (nat_lit 485, o312 P) :: (nat_lit 486, boot_o_7 P) :: (nat_lit 488, o314 P) :: (nat_lit 489, o315 P) :: (nat_lit 490, boot_o_7 P) :: (nat_lit 492, o316 P) ::
 (nat_lit 493, boot_o_7 P) :: (nat_lit 495, o318 P) :: (nat_lit 496, o319 P) :: (nat_lit 497, o320 P) :: (nat_lit 498, o321 P) :: (nat_lit 499, o322 P) :: (nat_lit 502, boot_o_7 P) :: (nat_lit 504, o325 P) ::
 (nat_lit 505, boot_o_7 P) :: (nat_lit 507, o327 P) :: (nat_lit 508, o328 P) :: (nat_lit 509, boot_o_7 P) :: (nat_lit 511, o329 P) :: (nat_lit 512, boot_o_7 P) :: (nat_lit 514, o331 P) :: (nat_lit 515, o332 P) ::
 (nat_lit 516, boot_o_7 P) :: (nat_lit 518, o333 P) :: (nat_lit 519, boot_o_7 P) :: (nat_lit 521, o335 P) :: (nat_lit 522, o336 P) :: (nat_lit 523, boot_o_7 P) :: (nat_lit 525, o337 P) :: (nat_lit 526, boot_o_7 P) ::
 (nat_lit 528, o339 P) :: (nat_lit 529, o340 P) :: (nat_lit 537, boot_o_7 P) :: (nat_lit 539, o345 P) :: (nat_lit 540, boot_o_7 P) :: (nat_lit 542, o347 P) :: (nat_lit 543, o348 P) :: (nat_lit 544, boot_o_7 P) ::
 (nat_lit 546, o349 P) :: (nat_lit 547, boot_o_7 P) :: (nat_lit 549, o351 P) :: (nat_lit 550, o352 P) :: (nat_lit 551, boot_o_7 P) :: (nat_lit 554, o354 P) :: (nat_lit 555, o355 P) :: (nat_lit 556, boot_o_7 P) ::
 (nat_lit 558, o356 P) :: (nat_lit 559, boot_o_7 P) :: (nat_lit 561, o358 P) :: (nat_lit 562, o359 P) :: (nat_lit 563, boot_o_7 P) :: (nat_lit 566, o361 P) :: (nat_lit 567, o362 P) :: (nat_lit 568, o363 P) ::
 (nat_lit 569, o364 P) :: (nat_lit 570, o365 P) :: (nat_lit 571, o366 P) :: (nat_lit 572, o367 P) :: (nat_lit 575, boot_o_7 P) :: (nat_lit 577, o370 P) :: (nat_lit 578, boot_o_7 P) :: (nat_lit 580, o372 P) ::
 (nat_lit 581, o373 P) :: (nat_lit 582, boot_o_7 P) :: (nat_lit 585, o375 P) :: (nat_lit 586, o376 P) :: (nat_lit 587, boot_o_7 P) :: (nat_lit 589, o377 P) :: (nat_lit 590, boot_o_7 P) :: (nat_lit 592, o379 P) ::
 (nat_lit 593, o380 P) :: (nat_lit 594, boot_o_7 P) :: (nat_lit 596, o381 P) :: (nat_lit 597, boot_o_7 P) :: (nat_lit 599, o383 P) :: (nat_lit 600, o384 P) :: (nat_lit 601, boot_o_7 P) :: (nat_lit 604, o386 P) ::
 (nat_lit 605, o387 P) :: (nat_lit 606, boot_o_7 P) :: (nat_lit 608, o388 P) :: (nat_lit 609, boot_o_7 P) :: (nat_lit 611, o390 P) :: (nat_lit 612, o391 P) :: (nat_lit 613, boot_o_7 P) :: (nat_lit 616, o393 P) ::
 (nat_lit 617, o394 P) :: (nat_lit 618, boot_o_7 P) :: (nat_lit 620, o395 P) :: (nat_lit 621, boot_o_7 P) :: (nat_lit 623, o397 P) :: (nat_lit 624, o398 P) :: (nat_lit 625, boot_o_7 P) :: (nat_lit 627, o399 P) ::
 (nat_lit 628, boot_o_7 P) :: (nat_lit 630, o401 P) :: (nat_lit 631, o402 P) :: (nat_lit 632, boot_o_7 P) :: (nat_lit 635, o404 P) :: (nat_lit 636, o405 P) :: (nat_lit 637, boot_o_7 P) :: (nat_lit 640, o407 P) ::
 (nat_lit 641, o408 P) :: (nat_lit 642, boot_o_7 P) :: (nat_lit 644, o409 P) :: (nat_lit 645, boot_o_7 P) :: (nat_lit 647, o411 P) :: (nat_lit 648, o412 P) :: (nat_lit 649, boot_o_7 P) :: (nat_lit 651, o413 P) ::
 (nat_lit 652, boot_o_7 P) :: (nat_lit 654, o415 P) :: (nat_lit 655, o416 P) :: (nat_lit 656, boot_o_7 P) :: (nat_lit 659, o418 P) :: (nat_lit 660, o419 P) :: (nat_lit 661, boot_o_7 P) :: (nat_lit 664, o421 P) ::
 (nat_lit 665, o422 P) :: (nat_lit 666, boot_o_7 P) :: (nat_lit 668, o423 P) :: (nat_lit 669, boot_o_7 P) :: (nat_lit 671, o425 P) :: (nat_lit 672, o426 P) :: (nat_lit 673, boot_o_7 P) :: (nat_lit 675, o427 P) ::
 (nat_lit 676, boot_o_7 P) :: (nat_lit 678, o429 P) :: (nat_lit 679, o430 P) :: []
def keysK : List Addr := 2 :: 3 :: 15 :: 17 :: 18 :: 20 :: 21 :: 22 :: 29 :: 30 :: 31 :: 32 :: 35 :: 42 :: 43 :: 44 :: 47 :: 54 :: 55 :: 56 :: 59 :: 66 :: 67 :: 68 ::
 71 :: 78 :: 79 :: 80 :: 83 :: 85 :: 86 :: 88 :: 89 :: 90 :: 92 :: 93 :: 95 :: 96 :: 97 :: 99 :: 100 :: 102 :: 103 :: 104 :: 106 :: 107 :: 109 :: 110 ::
 111 :: 113 :: 114 :: 116 :: 117 :: 118 :: 120 :: 121 :: 123 :: 124 :: 125 :: 127 :: 128 :: 130 :: 131 :: 132 :: 134 :: 135 :: 137 :: 138 :: 139 :: 141 :: 142 :: 144 ::
 145 :: 153 :: 155 :: 156 :: 158 :: 159 :: 160 :: 162 :: 163 :: 165 :: 166 :: 167 :: 168 :: 169 :: 170 :: 171 :: 174 :: 181 :: 183 :: 184 :: 186 :: 187 :: 188 :: 190 ::
 191 :: 193 :: 194 :: 195 :: 196 :: 197 :: 200 :: 207 :: 209 :: 210 :: 212 :: 213 :: 214 :: 216 :: 217 :: 219 :: 220 :: 221 :: 222 :: 223 :: 226 :: 233 :: 235 :: 236 ::
 238 :: 239 :: 240 :: 243 :: 244 :: 245 :: 246 :: 247 :: 250 :: 257 :: 259 :: 260 :: 262 :: 263 :: 264 :: 266 :: 267 :: 269 :: 270 :: 271 :: 272 :: 273 :: 276 :: 278 ::
 279 :: 281 :: 282 :: 283 :: 285 :: 286 :: 288 :: 289 :: 297 :: 298 :: 299 :: 300 :: 301 :: 304 :: 311 :: 314 :: 315 :: 316 :: 317 :: 318 :: 321 :: 328 :: 330 :: 331 ::
 333 :: 334 :: 335 :: 336 :: 337 :: 340 :: 342 :: 343 :: 345 :: 346 :: 347 :: 349 :: 350 :: 352 :: 353 :: 354 :: 356 :: 357 :: 359 :: 360 :: 361 :: 363 :: 364 :: 366 ::
 367 :: 368 :: 370 :: 371 :: 373 :: 374 :: 375 :: 377 :: 378 :: 380 :: 381 :: 382 :: 384 :: 385 :: 387 :: 388 :: 389 :: 391 :: 392 :: 394 :: 395 :: 403 :: 405 :: 406 ::
 408 :: 409 :: 410 :: 412 :: 413 :: 415 :: 416 :: 417 :: 418 :: 419 :: 420 :: 421 :: 424 :: 431 :: 433 :: 434 :: 436 :: 437 :: 438 :: 440 :: 441 :: 443 :: 444 :: 445 ::
 446 :: 447 :: 450 :: 457 :: 459 :: 460 :: 462 :: 463 :: 464 :: 466 :: 467 :: 469 :: 470 :: 471 :: 472 :: 473 :: 476 :: 483 :: 485 :: 486 :: 488 :: 489 :: 490 :: 492 ::
 493 :: 495 :: 496 :: 497 :: 498 :: 499 :: 502 :: 504 :: 505 :: 507 :: 508 :: 509 :: 511 :: 512 :: 514 :: 515 :: 516 :: 518 :: 519 :: 521 :: 522 :: 523 :: 525 :: 526 ::
 528 :: 529 :: 537 :: 539 :: 540 :: 542 :: 543 :: 544 :: 546 :: 547 :: 549 :: 550 :: 551 :: 554 :: 555 :: 556 :: 558 :: 559 :: 561 :: 562 :: 563 :: 566 :: 567 :: 568 ::
 569 :: 570 :: 571 :: 572 :: 575 :: 577 :: 578 :: 580 :: 581 :: 582 :: 585 :: 586 :: 587 :: 589 :: 590 :: 592 :: 593 :: 594 :: 596 :: 597 :: 599 :: 600 :: 601 :: 604 ::
 605 :: 606 :: 608 :: 609 :: 611 :: 612 :: 613 :: 616 :: 617 :: 618 :: 620 :: 621 :: 623 :: 624 :: 625 :: 627 :: 628 :: 630 :: 631 :: 632 :: 635 :: 636 :: 637 :: 640 ::
 641 :: 642 :: 644 :: 645 :: 647 :: 648 :: 649 :: 651 :: 652 :: 654 :: 655 :: 656 :: 659 :: 660 :: 661 :: 664 :: 665 :: 666 :: 668 :: 669 :: 671 :: 672 :: 673 :: 675 ::
 676 :: 678 :: 679 :: []
def loose : List Str := Str.ofString "_wall" :: Str.ofString "JugError" :: Str.ofString "BadHouse" :: Str.ofString "BadState" :: Str.ofString "BadMove" :: Str.ofString "BadGoal" :: Str.ofString "MOST_JUGS" :: Str.ofString "MOST_SIZE" ::
 Str.ofString "is_number" :: Str.ofString "is_jug" :: Str.ofString "held_in" :: Str.ofString "MOST_AMOUNT" :: Str.ofString "check_jug" :: Str.ofString "check_jug_goals" :: Str.ofString "check_amount" :: Str.ofString "jugs_in" ::
 Str.ofString "amounts_in" :: Str.ofString "check_house_has" :: Str.ofString "check_house_has_goals" :: Str.ofString "check_state_of" :: Str.ofString "Goal" :: Str.ofString "Holds" :: Str.ofString "Some" :: Str.ofString "Sum" ::
 Str.ofString "Whole" :: Str.ofString "check_goal" :: Str.ofString "ways_from" :: Str.ofString "Answer" :: Str.ofString "Poured" :: Str.ofString "Barred" :: Str.ofString "nearest" :: Str.ofString "moves_to" ::
 Str.ofString "heights_in" :: Str.ofString "fewest" :: Str.ofString "check_jug_moves" :: Str.ofString "check_house_has_moves" :: Str.ofString "check_house_can_tap" :: Str.ofString "with_amount" :: Str.ofString "Move" :: Str.ofString "Pour" ::
 Str.ofString "Fill" :: Str.ofString "Empty" :: Str.ofString "moves_in" :: Str.ofString "MOST_STATES" :: Str.ofString "sizes_in" :: Str.ofString "count_states" :: Str.ofString "pours_among" :: Str.ofString "House" ::
 Str.ofString "move_text" :: Str.ofString "routine_text" :: Str.ofString "_law_cell_at" :: Str.ofString "_law_draw" :: Str.ofString "_law_sizes" :: Str.ofString "_law_state" :: Str.ofString "_law_all_moves" :: Str.ofString "_law_behind" ::
 Str.ofString "_law_told" :: Str.ofString "_law_goal" :: Str.ofString "_law_met" :: Str.ofString "_law_made" :: Str.ofString "_law_is_state" :: Str.ofString "_law_closed" :: Str.ofString "_law_poured" :: Str.ofString "_law_barred" :: []
def env : Env := { scope := pg.main.scope, locals := mainNs, globals := mainNs, cells := [], code := (.ref 13), frame := some 14 }
abbrev cE : Code := .body (behindTheImports pg) env
abbrev pos0 : Pos := (.mk 0 0 0 0)
abbrev posB : Pos := (.mk 0 0 0 0)
abbrev posQ : Pos := (.mk 0 0 0 0)
abbrev ann : Option Value := (some (.ref 6))
abbrev s0 (w : World) (os : OsState) : Shared := ⟨boot_heap w.params, Array.mk [], boot_drawn, boot_toks, os⟩
theorem pre_ (w : World) (os : OsState) : topGo treeTable pg w 11 ann 12 (s0 w os) (topStub pg) = some (sA w os, ⟨denote treeTable cE, cE, pos0, [topFrame posQ]⟩) := by
 rewrite [Fast.te15667345088766844465, Fast.te14364793385576792824, Fast.te11892475500146522536]
 kernel_rfl
theorem block_ (w : World) (os : OsState) : segRun treeTable pg w 11 ann 1 1 (sA w os) (blockOf (behindTheImports pg) env cE pos0 [topFrame posQ]) = some (.next, (sB w os).abs, cE, posB) := by
 rewrite [Fast.te14374325043358763698, Fast.te14364793385576792824]
 kernel_rfl
abbrev pos_0 : Pos := (.mk 416 0 450 94)
theorem run_0 (w : World) (os : OsState) : segRunT treeTable pg w 11 ann 1 5932 (sB w os) (piecesOf (behindTheImports pg) env cE posB [topFrame posQ]) = some (.next, sC0 w os, cE, pos_0) := by
 rewrite [Fast.te10110043849684766642, Fast.te14364793385576792824]
 kernel_rfl
theorem fin_ (w : World) (os : OsState) : topRun treeTable pg w 11 ann 2 (sC0 w os).abs ⟨doneF .next, cE, pos_0, [topFrame posQ]⟩ = some (sF w os) := by
 rewrite [Fast.te14082659384304107361, Fast.te14364793385576792824]
 kernel_rfl
theorem top_ (w : World) (os : OsState) : topRun treeTable pg w 11 ann (12 + (1 + (5932 + 2))) (s0 w os) (topStub pg) = some (sF w os) := by
 refine go_top (pre_ w os) (piece_block (block_ w os) ?_)
 have h := piece_app (segRun_of (run_0 w os)) (piece_nil (fin_ w os))
 rwa [List.append_nil] at h
def qq : Program := { pg with main := { pg.main with body := [st 75] } }
theorem keys_ (P : Params) : keysK = (KK P).map (·.1) := by kernel_rfl
theorem open_ : ∀ w : World, (fencedOpening treeTable pg w 11988).map (fun s => (s.heap, s.gens, s.drawn, s.toks)) = some (boot_heap w.params, Array.mk [], boot_drawn, boot_toks) :=
 boot_open (by kernel_rfl) (by decide) (fun s => by kernel_rfl)
theorem size_ (w : World) : ((boot_heap w.params).isNs mainGlobals && (Array.mk [] : Array GenState).size == 0, (boot_heap w.params).objs.size, (boot_heap w.params).nsMap mainGlobals "__annotations__") = (true, 11, ann) := by kernel_rfl
abbrev rr : RowW := OpenRow.toRowW (OpenLaw.row PySem.Challenge.rw_jughouse_k05_whole_fewest)
def Xt (s : Shared) : Bool := xlAt qq [] s && recOk (RowW.records rr) s
theorem look1 (w : World) (os : OsState) : (staticsOk (importedModules pg.main.body) (boot_heap w.params) (hF w.params) && namesBound pg (hF w.params) && gensDone (sF w os) && laidKept (boot_heap w.params) (hF w.params)) = true := by kernel_rfl
theorem look2 (w : World) (os : OsState) : openSeen qq loose (importedModules pg.main.body) Xt true (sF w os) = openGood qq loose := by
 rewrite [Fast.te4187177175401517315]
 kernel_rfl
theorem look3 (w : World) (os : OsState) : Hook.obs (kHook KK keysK keys_) (sF w os) = Hook.val (kHook KK keysK keys_) w := by kernel_rfl
theorem left_ : LeftO pg qq loose Xt (Hook.obs (kHook KK keysK keys_)) (Hook.val (kHook KK keysK keys_)) 11988 :=
 LeftO.of_pieces open_ size_ top_ (by decide) (fun w => funext fun os => looks_pair (look1 w os) (looks_pair (look2 w os) (look3 w os)))
end Hd
end
open PySem PySem.W PyProof.Rows
set_option maxRecDepth 100000 in
set_option maxHeartbeats 0 in
theorem PySem.Challenge.cw_jughouse_k05_whole_fewest_holds : PySem.Challenge.rw_jughouse_k05_whole_fewest.Holds := by
 w_on; o_law
 refine holds_open (N := 11988)
   (q := Hd.qq) (loose := Hd.loose) (Xt := Hd.Xt)
   (XP := XL Hd.qq []) (YP := Hook.says (kHook Hd.KK Hd.keysK Hd.keys_))
   Hd.left_ (Hook.of (kHook Hd.KK Hd.keysK Hd.keys_)) (Hook.keeps (kHook Hd.KK Hd.keysK Hd.keys_))
   (fun s e => xl_of s (Bool.and_eq_true_iff.mp e).1)
   XL.keeps (by rfl) (by rfl) (by rfl)
   (fun s e => recFacts_of (Bool.and_eq_true_iff.mp e).2)
   (by rfl) (by assumption) (by decide +kernel)
   ⟨rfl, rfl, rfl, rfl, rfl, by decide +kernel⟩ ?hw ?hc
 (case hw => w_witness2)
 k_fill
 refine Jug.walk (l := PySem.Challenge.rw_jughouse_k05_whole_fewest) rfl rfl (fun w h Y => PySem.W.kIn_of Y) ?F
 case F =>
   intro w mg fa h KX G hmg
   refine' Jug.all_mk KX G hmg ?_ ?_ ?_ ?_ ?_ ?_ ?_ ?_ ?_ ?_ ?_ ?_ ?_ ?_ ?_ ?_ ?_ ?_ ?_ ?_ ?_ ?_ ?_ ?_ ?_ ?_ ?_ ?_ ?_ ?_ ?_ ?_ ?_ ?_ ?_ ?_ ?_ ?_ ?_ ?_ ?_ ?_ ?_ ?_ ?_ ?_ ?_ ?_ ?_ ?_ ?_ ?_ ?_ ?_ ?_ ?_ ?_ ?_ ?_ ?_ ?_ ?_ ?_ ?_ ?_ ?_ ?_ ?_ ?_ ?_ ?_ ?_ ?_ ?_ ?_ ?_ ?_ ?_ ?_ ?_ ?_ ?_ ?_ ?_ ?_ ?_ ?_ ?_ ?_ ?_ ?_ ?_ ?_ ?_ ?_ ?_ ?_ ?_ ?_ ?_ ?_ ?_ ?_ ?_ ?_ ?_ ?_ ?_ ?_ ?_ ?_ ?_ ?_ ?_ ?_ ?_ ?_ ?_ ?_ ?_ ?_ ?_ ?_ ?_ ?_ ?_ ?_ ?_ ?_ ?_ ?_ ?_ ?_ ?_ ?_ ?_ ?_ ?_ ?_ ?_ ?_ ?_ ?_ ?_ ?_ ?_ ?_ ?_ ?_ ?_ ?_ ?_ ?_ ?_ ?_ ?_ ?_ ?_ ?_ ?_ ?_ ?_ ?_ ?_ ?_ ?_ ?_ ?_ ?_ ?_ ?_ ?_ ?_ ?_ ?_ ?_ ?_ ?_ ?_ ?_ ?_ ?_ ?_ ?_ ?_ ?_ ?_ ?_ ?_ ?_ ?_ ?_ ?_ ?_ ?_ ?_ ?_ ?_ ?_ ?_ ?_ ?_ ?_ ?_ ?_ ?_ ?_ ?_ ?_ ?_ ?_ ?_ ?_ ?_ ?_ ?_ ?_ ?_ ?_ ?_ ?_ ?_ ?_ ?_ ?_ ?_ ?_ ?_ ?_ ?_ ?_ ?_ ?_ ?_ ?_ ?_ ?_ ?_ ?_ ?_ ?_ ?_ ?_ ?_ ?_ ?_ ?_ ?_ ?_ ?_ ?_ ?_ ?_ ?_ ?_ ?_ ?_ ?_ ?_ ?_ ?_ ?_ ?_ ?_ ?_ ?_ ?_ ?_ ?_ ?_ ?_ ?_ ?_ ?_ ?_ ?_ ?_ ?_ ?_ ?_ ?_ ?_ ?_ ?_ ?_ ?_ ?_ ?_ ?_ ?_ ?_ ?_ ?_ ?_ ?_ ?_ ?_ ?_ ?_ ?_ ?_ ?_ ?_ ?_ ?_ ?_ ?_ ?_ ?_ ?_ ?_ ?_ ?_ ?_ ?_ ?_ ?_ ?_ ?_ ?_ ?_ ?_ ?_ ?_ ?_ ?_ ?_ ?_ ?_ ?_ ?_ ?_ ?_ ?_ ?_ ?_ ?_ ?_ ?_ ?_ ?_ ?_ ?_ ?_ ?_ ?_ ?_ ?_ ?_ ?_ ?_ ?_ ?_ ?_ ?_ ?_ ?_ ?_ ?_ ?_ ?_ ?_ ?_ ?_ ?_ ?_ ?_ ?_ ?_ ?_ ?_ ?_ ?_ ?_ ?_ ?_ ?_ ?_ ?_ ?_ ?_ ?_ ?_ ?_ ?_ ?_ ?_ ?_ ?_ ?_ ?_ ?_ ?_ ?_ ?_ ?_ ?_ ?_ ?_ ?_ ?_ ?_ ?_ ?_ ?_ ?_ ?_ ?_ ?_ ?_ ?_ ?_ ?_ ?_ ?_ ?_ ?_ ?_ ?_ ?_ ?_ ?_ ?_ ?_ ?_ ?_ ?_ ?_ ?_
   all_goals (try first | k_is | kit_is)
