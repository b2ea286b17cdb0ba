import PyProof.Rows.All
import Wide.All
import OpenK.AllK
import Wide.FinOn
import Lean
import PyProof.EqAt
import PyProof.EqKinds
import PyProof.TupleCall
import PyProof.NeKinds
import PyProof.Rows.ZipGen
import KE.KIntText
import PyProof.ListRange
import KE.LcSums
import PyProof.Rows.SetFrom
import PyProof.SetRoads
import OpenK.KOwn
import KE.KIsAll
import PyProof.ExcAttrAll.ValueError
import KE.KNest
import KE.KLam
import KE.KNestM
import KE.KDictList
import KE.KDictSum
import KE.KRevIter
import KE.KRangeStep
import KE.KSorted
import KE.KItemsList
import PyProof.Rows.MinMaxN
import PyProof.Rows.Range3
import KE.KSortAsk
import KE.KSortTup
import PySem.Challenge.RW_jughouse_k08_refused
set_option Elab.async false
set_option linter.all false
set_option maxRecDepth 100000
namespace L2
open PySem PySem.Spec PyProof.Rows
abbrev Key := Sum Int Str
def keyIs : Key → Value → Bool
 | .inl k, v => Value.isInt k v
 | .inr x, v => Value.isStrOf x v
def keyH (w : World) : Key → Int
 | .inl k => hashInt k
 | .inr x => hashStr w x
theorem keyIs_shape : ∀ {k : Key} {v : Value}, keyIs k v = true → (∃ i t, k = Sum.inl i ∧ v = Value.int i t) ∨ (∃ x t, k = Sum.inr x ∧ v = Value.str x t)
 | .inl i, v, h => by
   obtain ⟨t, e⟩ := Value.isInt_shape (k := i) (v := v) h
   exact .inl ⟨i, t, rfl, e⟩
 | .inr x, v, h => by
   obtain ⟨t, e⟩ := Value.isStrOf_shape (x := x) (v := v) h
   exact .inr ⟨x, t, rfl, e⟩
theorem keyIs_int (i : Int) (t : Tok) : keyIs (.inl i) (.int i t) = true := by simp [keyIs, Value.isInt]
theorem keyIs_str (x : Str) (t : Tok) : keyIs (.inr x) (.str x t) = true := by simp [keyIs, Value.isStrOf]
theorem key_ll (a b : Int) : decide ((Sum.inl a : Key) = Sum.inl b) = (a == b) := by
 by_cases e : a = b
 · subst e; simp
 · have h : ¬ (Sum.inl a : Key) = Sum.inl b := fun q => e (Sum.inl.inj q)
   rw [decide_eq_false h]
   exact (beq_eq_false_iff_ne.mpr e).symm
theorem key_rr (a b : Str) : decide ((Sum.inr a : Key) = Sum.inr b) = decide (a = b) := by
 by_cases e : a = b
 · subst e; simp
 · have h : ¬ (Sum.inr a : Key) = Sum.inr b := fun q => e (Sum.inr.inj q)
   rw [decide_eq_false h, decide_eq_false e]
theorem key_lr (a : Int) (b : Str) : decide ((Sum.inl a : Key) = Sum.inr b) = false := decide_eq_false (fun q => nomatch q)
theorem key_rl (a : Str) (b : Int) : decide ((Sum.inr a : Key) = Sum.inl b) = false := decide_eq_false (fun q => nomatch q)
def mixKind (prog : Program) (w : World) : PySem.KeyKind prog w Key where
 is := keyIs
 hash := keyH w
 inj := fun v a b ha hb => by
   rcases keyIs_shape ha with ⟨i, t, rfl, rfl⟩ | ⟨x, t, rfl, rfl⟩
   · rcases keyIs_shape hb with ⟨j, u, rfl, e⟩ | ⟨y, u, rfl, e⟩
     · injection e with e1 _; rw [e1]
     · exact nomatch e
   · rcases keyIs_shape hb with ⟨j, u, rfl, e⟩ | ⟨y, u, rfl, e⟩
     · exact nomatch e
     · injection e with e1 _; rw [e1]
 byValue := fun k v h => by
   rcases keyIs_shape h with ⟨i, t, rfl, rfl⟩ | ⟨x, t, rfl, rfl⟩ <;> rfl
 pyHash := fun hv h => by
   rcases keyIs_shape hv with ⟨i, t, rfl, rfl⟩ | ⟨x, t, rfl, rfl⟩
   · exact wpAny_pyHash_int h
   · exact wpAny_pyHash_str h
 eqBool := fun hu hv h => by
   rcases keyIs_shape hu with ⟨i, t, rfl, rfl⟩ | ⟨x, t, rfl, rfl⟩
   · rcases keyIs_shape hv with ⟨j, u, rfl, rfl⟩ | ⟨y, u, rfl, rfl⟩
     · rw [key_ll] at h; exact wpAny_eqBool_int h
     · rw [key_lr] at h; exact SeqAt.EqAt.int_str i t y u _ _ _ _ h
   · rcases keyIs_shape hv with ⟨j, u, rfl, rfl⟩ | ⟨y, u, rfl, rfl⟩
     · rw [key_rl] at h; exact SeqAt.EqAt.str_int x t j u _ _ _ _ h
     · rw [key_rr] at h; exact wpAny_eqBool_str h
 «strs» := fun k x t v h => by
   rcases keyIs_shape h with ⟨i, u, rfl, e⟩ | ⟨y, u, rfl, e⟩
   · exact nomatch e
   · injection e with e1 _
     subst e1
     cases v <;> rfl
theorem mixKind_int (prog : Program) (w : World) (i : Int) (t : Tok) : (mixKind prog w).is (.inl i) (.int i t) = true := keyIs_int i t
theorem mixKind_str (prog : Program) (w : World) (x : Str) (t : Tok) : (mixKind prog w).is (.inr x) (.str x t) = true := keyIs_str x t
end L2
namespace L2
open PySem PySem.Spec PyProof.Rows
inductive V where
 | non | bl (b : Bool) | int (i : Int) | str (x : Str) | byt (b : Array UInt8) | flt (b : UInt64) | ref (a : Addr) | ty (n : String)
 deriving DecidableEq
def RelV : V → Value → Prop
 | .non, u => u = Value.none
 | .bl b, u => u = Value.bool b
 | .int i, u => ∃ t, u = Value.int i t
 | .str x, u => ∃ t, u = Value.str x t
 | .byt b, u => ∃ t, u = Value.bytes b t
 | .flt b, u => ∃ t, u = Value.float b t
 | .ref a, u => u = Value.ref a
 | .ty n, u => u = Value.type n
abbrev Vals : List V → List Value → Prop := Paired RelV
theorem Vals.length {xs : List V} {us : List Value} (r : Vals xs us) : xs.length = us.length := Paired.length r
theorem Vals.get : ∀ {xs : List V} {us : List Value} {i : Nat} {x : V}, Vals xs us → xs[i]? = some x → ∃ u, us[i]? = some u ∧ RelV x u
 | _, _, _, _, .nil, e => by simp at e
 | _, _, 0, _, .cons r _, e => by simp at e; subst e; exact ⟨_, rfl, r⟩
 | _, _, i + 1, x, .cons _ t, e => by
   obtain ⟨u, h1, h2⟩ := Vals.get (i := i) (x := x) t (by simpa using e)
   exact ⟨u, by simpa using h1, h2⟩
theorem Vals.set {x : V} {u : Value} (r : RelV x u) : ∀ {xs : List V} {us : List Value} (i : Nat), Vals xs us → Vals (xs.set i x) (us.set i u)
 | _, _, _, .nil => .nil
 | _, _, 0, .cons _ t => .cons r t
 | _, _, i + 1, .cons q t => .cons q (Vals.set r i t)
theorem Vals.append : ∀ {xs ys : List V} {us ws : List Value}, Vals xs us → Vals ys ws → Vals (xs ++ ys) (us ++ ws)
 | _, _, _, _, .nil, s => s
 | _, _, _, _, .cons r t, s => .cons r (Vals.append t s)
def RelO : Option V → Option Value → Prop
 | some v, some u => RelV v u
 | none, none => True
 | _, _ => False
def KV {κ : Type} : List (κ × V) → List (κ × Value) → Prop := Paired fun (p : κ × V) (q : κ × Value) => p.1 = q.1 ∧ RelV p.2 q.2
def kV : Key → V
 | .inl i => .int i
 | .inr x => .str x
inductive HO where
 | lst (xs : List V)
 | tup (xs : List V)
 | dK (kvs : List (Key × V)) | dT (kvs : List (List Key × V))
 | set (S : Int → Bool) (n : Nat)
 | ins (C dx : Addr) (fs : List (Str × V))
 | own (x : Addr)
 | xd (fs : List (Str × V))
 | met (f x : Addr)
 | rng (lo hi : Int)
 | frz (o : Obj) (u : HO)
 | tbl (ps : Array Value)
 | ext (φ : Heap → Prop)
abbrev Hp := Addr → Option HO
def upd (H : Hp) (a : Addr) (o : HO) : Hp := fun b => if b = a then some o else H b
theorem uS {H : Hp} {a : Addr} {o : HO} : upd H a o a = some o := by unfold upd; rw [if_pos rfl]
theorem uN {H : Hp} {a b : Addr} {o : HO} (h : b ≠ a) : upd H a o b = H b := by unfold upd; rw [if_neg h]
theorem upd_upd {H : Hp} {a : Addr} {o u : HO} : upd (upd H a o) a u = upd H a u := by
 funext b; unfold upd; split <;> rfl
theorem ne_of {H : Hp} {a b : Addr} {o u : HO} (h : H a = some o) (h' : H b = some u) (d : o ≠ u) : a ≠ b := by
 intro e; subst e; rw [h] at h'; exact d (Option.some.inj h')
theorem nN {H : Hp} {a b : Addr} {o : HO} (h : H a = some o) (h' : H b = none) : a ≠ b := by
 intro e; subst e; rw [h] at h'; cases h'
section
variable (P : Program) (w : World)
def ObjOk (H : Hp) (h : Heap) (a : Addr) : HO → Prop
 | .lst xs => xs.length ≤ sizeLine ∧ ∃ (its : List Value) (n : Nat), Vals xs its ∧ h.get? a = some { cls := .type "list", data := .seq its.toArray n }
 | .tup xs => xs.length ≤ sizeLine ∧ ∃ its : List Value, Vals xs its ∧ IsTup h a its.toArray
 | .dK kvs => kvs.length ≤ sizeLine ∧ (a == sysModules) = false ∧ ∃ vs, KV kvs vs ∧ h.DictOf (mixKind P w) a vs
 | .dT kvs => kvs.length ≤ sizeLine ∧ (a == sysModules) = false ∧ ∃ xs : List (List Key × Addr × Value),
     Paired (fun (p : List Key × V) (q : List Key × Addr × Value) => p.1 = q.1 ∧ H q.2.1 = some (.tup (p.1.map kV)) ∧ RelV p.2 q.2.2) kvs xs ∧
     ∃ o es ep, h.get? a = some o ∧ o.ExactDict ∧ o.data = .dict es ep ∧ es.toList = xs.map (entryOfKey (tupleKind (mixKind P w))) ∧ (xs.map (·.1)).Nodup
 | .set S n => h.SetOf (intKind P w) a S n
 | .ins C dx fs => H dx = some (.own a) ∧ fs.length ≤ 1000 ∧ dx ≠ a ∧ h.get? a = some (W.instObj C dx) ∧
     ∃ mA, h.Ns1 dx mA ∧ (∀ f, RelO (fs.lookup f) (mA f)) ∧ PySem.Within mA (fs.map (·.1))
 | .own _ => ∃ o, h.get? a = some o
 | .xd fs => ∃ mA, h.Ns1 a mA ∧ ∀ f, RelO (fs.lookup f) (mA f)
 | .rng lo hi => ∃ t u v, h.get? a = some { cls := .type "range", data := .fields #[.int lo t, .int hi u, .int 1 v] }
 | .frz o u => h.get? a = some o ∧ ObjOk H h a u
 | .tbl ps => h.get? a = some { cls := .none, data := .fields ps }
 | .met f x => h.get? a = some (W.methodObj (.ref f) (.ref x))
 | .ext φ => φ h ∧ (∃ o, h.get? a = some o) ∧ ∀ h1 h2 : Heap, φ h1 → (∀ o, h1.get? a = some o → h2.get? a = some o) → φ h2
def HOk (H : Hp) (h : Heap) : Prop := ∀ a o, H a = some o → ObjOk P w H h a o
end
section
variable {P : Program} {w : World} {H H' : Hp} {h h' : Heap} {a : Addr} {o : HO}
theorem ObjOk.lt (x : ObjOk P w H h a o) : a < h.objs.size := by
 cases o with
 | lst xs => obtain ⟨_, _, _, _, e⟩ := x; exact Heap.lt_size e
 | tup xs => obtain ⟨_, _, _, p⟩ := x; exact p.lt
 | dK kvs => obtain ⟨_, _, _, _, o, _, _, e, _⟩ := x; exact Heap.lt_size e
 | dT kvs => obtain ⟨_, _, _, _, o, _, _, e, _⟩ := x; exact Heap.lt_size e
 | set S n => obtain ⟨o, _, _, _, e, _⟩ := x; exact Heap.lt_size e
 | ins C dx fs => obtain ⟨_, _, _, e, _⟩ := x; exact Heap.lt_size e
 | own y => obtain ⟨_, e⟩ := x; exact Heap.lt_size e
 | xd fs => obtain ⟨_, ⟨_, _, _, e, _⟩, _⟩ := x; exact Heap.lt_size e
 | rng lo hi => obtain ⟨_, _, _, e⟩ := x; exact Heap.lt_size e
 | frz ob u => obtain ⟨e, _⟩ := x; exact Heap.lt_size e
 | tbl ps => exact Heap.lt_size (show h.get? a = some _ from x)
 | met f y => exact Heap.lt_size (show h.get? a = some _ from x)
 | ext φ => obtain ⟨_, ⟨_, e⟩, _⟩ := x; exact Heap.lt_size e
theorem Paired.mapP {α β : Type} {F G : α → β → Prop} : ∀ {l₁ : List α} {l₂ : List β}, Paired F l₁ l₂ → (∀ a b, F a b → G a b) → Paired G l₁ l₂
 | _, _, .nil, _ => .nil
 | _, _, .cons r t, f => .cons (f _ _ r) (Paired.mapP t f)
theorem ObjOk.stay (x : ObjOk P w H h a o) (k : ∀ b u, (b = a ∨ H b = some (.own a)) → h.get? b = some u → h'.get? b = some u)
   (ho : ∀ b, H b = some (.own a) → H' b = some (.own a)) (ht : ∀ b xs, H b = some (.tup xs) → H' b = some (.tup xs)) : ObjOk P w H' h' a o := by
 induction o with
 | lst xs => obtain ⟨z, its, n, r, e⟩ := x; exact ⟨z, its, n, r, k _ _ (.inl rfl) e⟩
 | tup xs => obtain ⟨z, its, r, ob, e, c⟩ := x; exact ⟨z, its, r, ob, k _ _ (.inl rfl) e, c⟩
 | dK kvs => obtain ⟨z, y, vs, r, ob, es, ep, e, c⟩ := x; exact ⟨z, y, vs, r, ob, es, ep, k _ _ (.inl rfl) e, c⟩
 | dT kvs =>
   obtain ⟨z, y, xs, r, ob, es, ep, e, c⟩ := x
   exact ⟨z, y, xs, Paired.mapP r fun p q z => ⟨z.1, ht _ _ z.2.1, z.2.2⟩, ob, es, ep, k _ _ (.inl rfl) e, c⟩
 | set S n => obtain ⟨ob, es, ep, t, e, c⟩ := x; exact ⟨ob, es, ep, t, k _ _ (.inl rfl) e, c⟩
 | ins C dx fs =>
   obtain ⟨d, z, ne, e, mA, ⟨od, es, ep, e2, c⟩, r⟩ := x
   exact ⟨ho _ d, z, ne, k _ _ (.inl rfl) e, mA, ⟨od, es, ep, k _ _ (.inr d) e2, c⟩, r⟩
 | own y => obtain ⟨ob, e⟩ := x; exact ⟨ob, k _ _ (.inl rfl) e⟩
 | xd fs => obtain ⟨mA, ⟨od, es, ep, e, c⟩, r⟩ := x; exact ⟨mA, ⟨od, es, ep, k _ _ (.inl rfl) e, c⟩, r⟩
 | rng lo hi => obtain ⟨t, u, v, e⟩ := x; exact ⟨t, u, v, k _ _ (.inl rfl) e⟩
 | frz ob u ih => obtain ⟨e, q⟩ := x; exact ⟨k _ _ (.inl rfl) e, ih q⟩
 | tbl ps =>
   have e : h.get? a = some { cls := .none, data := .fields ps } := x
   show h'.get? a = some { cls := .none, data := .fields ps }
   exact k a _ (.inl rfl) e
 | met f y =>
   have e : h.get? a = some (W.methodObj (.ref f) (.ref y)) := x
   show h'.get? a = some (W.methodObj (.ref f) (.ref y))
   exact k a _ (.inl rfl) e
 | ext φ => obtain ⟨p, ⟨o, e⟩, st⟩ := x; exact ⟨st _ _ p fun o q => k _ _ (.inl rfl) q, ⟨o, k _ _ (.inl rfl) e⟩, st⟩
theorem HOk.lt (x : HOk P w H h) (e : H a = some o) : a < h.objs.size := (x a o e).lt
theorem HOk.fresh (x : HOk P w H h) (e : h.objs.size ≤ a) : H a = none := by
 cases q : H a with
 | none => rfl
 | some u => exact absurd (Nat.lt_of_lt_of_le (x.lt q) e) (Nat.lt_irrefl _)
theorem HOk.kept (x : HOk P w H h) (k : ∀ b u, h.get? b = some u → h'.get? b = some u) : HOk P w H h' := fun a o e =>
 (x a o e).stay (fun b u _ q => k b u q) (fun _ q => q) fun _ _ q => q
theorem HOk.laid (x : HOk P w H h) (k : ∀ b u, h.get? b = some u → h'.get? b = some u) (hp : h.objs.size ≤ a) (new : ObjOk P w (upd H a o) h' a o) : HOk P w (upd H a o) h' := fun b u e => by
 have hn := x.fresh hp
 by_cases hb : b = a
 · subst hb; rw [uS] at e; cases e; exact new
 · rw [uN hb] at e
   exact (x b u e).stay (fun c v _ q => k c v q) (fun c q => by rw [uN (nN q hn)]; exact q) fun c xs q => by rw [uN (nN q hn)]; exact q
end
def Rd (H : Hp) (a : Addr) (u : HO) : Prop := H a = some u ∨ ∃ o, H a = some (.frz o u)
theorem Rd.ok {P : Program} {w : World} {H : Hp} {h : Heap} {a : Addr} {u : HO} (r : Rd H a u) (x : HOk P w H h) : ObjOk P w H h a u := by
 rcases r with r | ⟨o, r⟩
 · exact x a u r
 · obtain ⟨_, q⟩ := x a _ r
   exact q
def Mut : Option HO → Prop
 | some (.lst _) => True
 | some (.dK _) => True
 | some (.dT _) => True
 | some (.set _ _) => True
 | some (.ins _ _ _) => True
 | some (.ext _) => True
 | _ => False
section
variable {P : Program} {w : World} {H : Hp} {h h' : Heap} {x e : Addr} {o' : HO}
theorem HOk.write (ok : HOk P w H h) (mu : Mut (H x)) (he : e = x ∨ H e = some (.own x)) (k : ∀ b u, b ≠ e → h.get? b = some u → h'.get? b = some u) (heo : ∃ u, h'.get? e = some u)
   (new : ObjOk P w (upd H x o') h' x o') : HOk P w (upd H x o') h' := fun b u q => by
 have nown : ∀ c y, H c = some (.own y) → c ≠ x := fun c y r z => by subst z; rw [r] at mu; exact mu
 have ntup : ∀ c xs, H c = some (.tup xs) → c ≠ x := fun c xs r z => by subst z; rw [r] at mu; exact mu
 by_cases hb : b = x
 · subst hb; rw [uS] at q; cases q; exact new
 · rw [uN hb] at q
   by_cases hbe : b = e
   · have q' : H b = some (.own x) := by
       rcases he with z | z
       · exact absurd (hbe.trans z) hb
       · rw [hbe]; exact z
     rw [q] at q'; cases q'
     obtain ⟨v, hv⟩ := heo
     exact ⟨v, by rw [hbe]; exact hv⟩
   · refine (ok b u q).stay (fun c v hc r => k c v ?_ r) (fun c r => by rw [uN (nown c b r)]; exact r) fun c xs r => by rw [uN (ntup c xs r)]; exact r
     rcases hc with rfl | hc
     · exact hbe
     · rintro rfl
       rcases he with z | z
       · exact nown c b hc z
       · rw [hc] at z; cases z; exact hb rfl
end
structure Un (fs ex : List Addr) (H H' : Hp) (h h' : Heap) : Prop where
 keep : ∀ b o, h.get? b = some o → H b = none → b ∉ fs → b ∉ ex → h'.get? b = some o
 slot : ∀ b o, h.get? b = some o → H b = none → b ∈ fs → b ∉ ex → ∃ sl, h'.get? b = some { o with slots := sl }
 free : ∀ b o, h.get? b = some o → H b = none → b ∉ ex → H' b = none
 there : ∀ b o, h.get? b = some o → b ∉ ex → ∃ o', h'.get? b = some o'
 tups : ∀ b xs, H b = some (.tup xs) → H' b = some (.tup xs)
 frzs : ∀ b o u, H b = some (.frz o u) → H' b = some (.frz o u)
 tbls : ∀ b ps, H b = some (.tbl ps) → ∃ more, H' b = some (.tbl (ps ++ more))
section
variable {fs fs' ex ex' : List Addr} {H H1 H2 : Hp} {h h1 h2 h' : Heap} {a x e : Addr} {o : HO}
theorem Un.any (u : Un fs ex H H1 h h1) {b : Addr} {ob : Obj} (q : h.get? b = some ob) (n : H b = none) (hx : b ∉ ex) : ∃ sl, h1.get? b = some { ob with slots := sl } := by
 by_cases hb : b ∈ fs
 · exact u.slot b ob q n hb hx
 · exact ⟨ob.slots, u.keep b ob q n hb hx⟩
theorem Un.kept (k : ∀ b u, h.get? b = some u → h'.get? b = some u) : Un fs ex H H h h' :=
 ⟨fun b ob q _ _ _ => k b ob q, fun b ob q _ _ _ => ⟨ob.slots, k b ob q⟩, fun _ _ _ n _ => n, fun b ob q _ => ⟨ob, k b ob q⟩, fun _ _ q => q, fun _ _ _ q => q, fun _ ps q => ⟨#[], by rw [q]; simp⟩⟩
theorem Un.refl : Un fs ex H H h h := Un.kept fun _ _ q => q
theorem Un.laid (k : ∀ b u, h.get? b = some u → h'.get? b = some u) (hp : h.objs.size ≤ a) (hn : H a = none) : Un fs ex H (upd H a o) h h' where
 keep := fun b u q _ _ _ => k b u q
 slot := fun b u q _ _ _ => ⟨u.slots, k b u q⟩
 free := fun b u q n _ => by rw [uN (Nat.ne_of_lt (Nat.lt_of_lt_of_le (Heap.lt_size q) hp))]; exact n
 there := fun b u q _ => ⟨u, k b u q⟩
 tups := fun b xs q => by rw [uN (nN q hn)]; exact q
 frzs := fun b u xs q => by rw [uN (nN q hn)]; exact q
 tbls := fun b ps q => ⟨#[], by rw [uN (nN q hn), q]; simp⟩
theorem Un.write (mu : Mut (H x)) (he : e = x ∨ H e = some (.own x)) (k : ∀ b u, b ≠ e → h.get? b = some u → h'.get? b = some u) (heo : ∃ u, h'.get? e = some u) : Un fs ex H (upd H x o) h h' := by
 have hx : ∀ b, H b = none → b ≠ x := fun b n z => by subst z; rw [n] at mu; exact mu
 have hb : ∀ b, H b = none → b ≠ e := fun b n z => by
   subst z
   rcases he with r | r
   · exact hx b n r
   · rw [n] at r; cases r
 have hm : ∀ b u, H b = some u → ¬ Mut (some u) → b ≠ x := fun b u q nm z => by subst z; rw [q] at mu; exact nm mu
 refine ⟨fun b u q n _ _ => k b u (hb b n) q, fun b u q n _ _ => ⟨u.slots, k b u (hb b n) q⟩, fun b u q n _ => by rw [uN (hx b n)]; exact n, fun b u q _ => ?_,
   fun b xs q => by rw [uN (hm b _ q fun z => z)]; exact q, fun b u xs q => by rw [uN (hm b _ q fun z => z)]; exact q, fun b ps q => ⟨#[], by rw [uN (hm b _ q fun z => z), q]; simp⟩⟩
 by_cases hbe : b = e
 · subst hbe; exact heo
 · exact ⟨u, k b u hbe q⟩
end
def trk (h : Heap) (H : Hp) : List Addr := (List.range h.objs.size).filter fun a => (H a).isSome
def hidT (h : Heap) (H : Hp) : Heap := W.hideAll h (trk h H)
theorem hidT_size (h : Heap) (H : Hp) : (hidT h H).objs.size = h.objs.size := W.hideAll_size _ _
theorem hidT_get {h : Heap} {H : Hp} {b : Addr} {o : Obj} (e : h.get? b = some o) (n : H b = none) : (hidT h H).get? b = some o :=
 W.hideAll_get _ e fun hm => by
   have q : (H b).isSome = true := (List.mem_filter.mp hm).2
   rw [n] at q; simp at q
theorem of_hidT {h : Heap} {H : Hp} {b : Addr} {o : Obj} (e : (hidT h H).get? b = some o) : h.get? b = some o ∧ H b = none := by
 have e' : h.get? b = some o := W.of_hideAll (trk h H) e
 refine ⟨e', ?_⟩
 cases q : H b with
 | none => rfl
 | some x =>
   have hm : b ∈ trk h H := List.mem_filter.mpr ⟨List.mem_range.mpr (Heap.lt_size e'), by simp [q]⟩
   have z : (hidT h H).get? b = none := W.hideAll_none (trk h H) hm
   rw [z] at e; cases e
end L2
namespace L2
open PySem PySem.Spec PyProof.Rows
structure Mod (K : W.Frag) (mg : Str → Option Value) (base : Heap) : Prop where
 kin : K.In base
 glob : base.Ns mainGlobals mg
 blt : ∃ mb, base.Ns builtinsNs mb ∧ ∀ x : Str, x ≠ "__name__" → mb x = bootBuiltins x
 nolimit : base.NoLimit
structure Cx where
 prog : Program
 w : World
 K : W.Frag
 mg : Str → Option Value
 base : Heap
 A : Around
 N : List Str
 s₀ : Shared
 H₀ : Hp
 env : Env
 outer : List Env
 stack : List Env
 ex : List Addr
 fn : Str → Bool
 calm : Bool
 pn : List (Addr × Obj)
 xe : Value → Shared → Prop
def frs (l : List Env) : List Addr := l.filterMap (·.frame)
abbrev Cx.fs (X : Cx) : List Addr := frs X.outer
def Vis (sc : Scope) (x : Str) : Prop := sc.names.lookup x = some .local ∨ sc.names.lookup x = some .cell ∨ sc.names.lookup x = some .free
def Loc (sc : Scope) (x : Str) : Prop := sc.names.lookup x = some .local ∨ sc.names.lookup x = some .cell
def Look (env : Env) (h : Heap) (m : Str → Option Value) (x : Str) (u : Value) : Prop :=
 (env.kindOf x = some .local ∧ m x = some u) ∨ ((env.kindOf x = some .cell ∨ env.kindOf x = some .free) ∧ ∃ c, env.cells.lookup x = some c ∧ h.IsCell c (some u))
structure Cx.Ok (X : Cx) : Prop where
 mod : Mod X.K X.mg X.base
 kind : X.env.scope.kind = .function
 glob : X.env.globals = mainGlobals
 blt : X.env.builtins = builtinsNs
 above : X.s₀.heap.objs.size ≤ X.env.locals
 inj : ∀ x y c, X.env.cells.lookup x = some c → X.env.cells.lookup y = some c → x = y
 has : ∀ x, (X.env.kindOf x = some .cell ∨ X.env.kindOf x = some .free) → ∃ c, X.env.cells.lookup x = some c
 cab : ∀ x c, X.fn x = true → X.env.cells.lookup x = some c → X.s₀.heap.objs.size ≤ c
 hd : X.calm = true → X.A.handled = none
 frames : X.A.frames = some X.stack
 stk : X.stack = X.outer ∨ (X.stack = X.env :: X.outer ∧ X.env.frame = some X.env.locals)
 exf : ∀ b ∈ X.ex, b ≠ X.env.locals ∧ ∀ x c, X.env.cells.lookup x = some c → c ≠ b
 bs : ∀ b o, X.base.get? b = some o → X.s₀.heap.get? b = some o ∧ X.H₀ b = none
 bsz : X.base.objs.size ≤ X.s₀.heap.objs.size
 noex : ∀ b o, X.base.get? b = some o → b ∉ X.ex
 exfs : ∀ b ∈ X.ex, b ∉ X.fs
 funs : X.s₀.heap.FunFrames X.base X.outer
 frf : ∀ b ∈ X.fs, X.H₀ b = none
structure Inv (X : Cx) (pins : List (Addr × Obj)) (σ : List (Option V)) (H : Hp) (s : Shared) : Prop where
 ok : X.Ok
 os : s.os = X.s₀.os
 bare : AllBare s.gens
 base : Un X.fs X.ex X.H₀ H X.s₀.heap s.heap
 loc : ∃ m, s.heap.Ns X.env.locals m ∧ ∀ (i : Nat) (x : Str) (v : V), X.N[i]? = some x → σ[i]? = some (some v) → Vis X.env.scope x → ∃ u, RelV v u ∧ Look X.env s.heap m x u
 cell : ∀ x c, X.env.cells.lookup x = some c → ∃ v, s.heap.IsCell c v
 free : H X.env.locals = none
 freeC : ∀ x c, X.env.cells.lookup x = some c → H c = none
 pin : ∀ p ∈ X.pn ++ pins, s.heap.get? p.1 = some p.2 ∧ H p.1 = none ∧ p.1 ≠ X.env.locals ∧ p.1 ∉ X.fs ∧ ∀ v, p.2.data ≠ .cell v
 hok : HOk X.prog X.w H s.heap
 len : σ.length = X.N.length
section
variable {X : Cx} {pins : List (Addr × Obj)} {σ : List (Option V)} {H H' : Hp} {s : Shared} {h' : Heap}
theorem Cx.Ok.nofr (ok : X.Ok) {b : Addr} {o : Obj} (e : X.base.get? b = some o) : b ∉ X.fs := fun hb => by
 have := (ok.funs.mem hb).1
 rw [e] at this; cases this
theorem Inv.bs (I : Inv X pins σ H s) : ∀ b o, X.base.get? b = some o → s.heap.get? b = some o ∧ H b = none := fun b o e =>
 ⟨I.base.keep b o (I.ok.bs b o e).1 (I.ok.bs b o e).2 (I.ok.nofr e) (I.ok.noex b o e), I.base.free b o (I.ok.bs b o e).1 (I.ok.bs b o e).2 (I.ok.noex b o e)⟩
theorem Inv.bk (I : Inv X pins σ H s) : ∀ b o, X.base.get? b = some o → s.heap.get? b = some o := fun b o e => (I.bs b o e).1
theorem Inv.mod (I : Inv X pins σ H s) : Mod X.K X.mg X.base := I.ok.mod
theorem Inv.kIn (I : Inv X pins σ H s) : X.K.In s.heap := I.ok.mod.kin.keeps I.bk
theorem Inv.lt (I : Inv X pins σ H s) : X.env.locals < s.heap.objs.size := let ⟨_, hn, _⟩ := I.loc; hn.lt
theorem Inv.sz (I : Inv X pins σ H s) : X.s₀.heap.objs.size ≤ s.heap.objs.size := Nat.le_trans I.ok.above (Nat.le_of_lt I.lt)
theorem Inv.nofs (I : Inv X pins σ H s) {a : Addr} (h : s.heap.objs.size ≤ a) : a ∉ X.fs := fun hb => by
 obtain ⟨_, o, ho, _⟩ := I.ok.funs.mem hb
 exact absurd (Nat.lt_of_lt_of_le (Heap.lt_size ho) (Nat.le_trans I.sz h)) (Nat.lt_irrefl _)
theorem Inv.cne (I : Inv X pins σ H s) : ∀ x c, X.env.cells.lookup x = some c → c ≠ X.env.locals := fun x c e z => by
 obtain ⟨v, o, ho, hd⟩ := I.cell x c e
 obtain ⟨m, ⟨o', es, ep, ho', hd', _⟩, _⟩ := I.loc
 rw [z, ho'] at ho; cases ho; rw [hd'] at hd; cases hd
theorem Inv.funs (I : Inv X pins σ H s) : s.heap.FunFrames X.base X.outer := by
 have all : ∀ (l : List Env), (∀ b ∈ frs l, b ∈ X.fs) → X.s₀.heap.FunFrames X.base l → s.heap.FunFrames X.base l := by
   intro l
   induction l with
   | nil => intro _ _; trivial
   | cons env r ih =>
     intro hs hl
     obtain ⟨hk, ⟨L, o, hf, hn, ho, hd⟩, hr⟩ := hl
     have hL : L ∈ X.fs := hs L (by unfold frs; rw [List.filterMap_cons, hf]; exact List.mem_cons_self)
     obtain ⟨sl, e⟩ := I.base.slot L o ho (I.ok.frf L hL) hL fun z => I.ok.exfs L z hL
     exact ⟨hk, ⟨L, _, hf, hn, e, hd⟩, ih (fun b hb => hs b (by unfold frs; rw [List.filterMap_cons, hf]; exact List.mem_cons_of_mem _ hb)) hr⟩
 exact all X.outer (fun _ hb => hb) I.ok.funs
theorem Inv.stack (I : Inv X pins σ H s) : s.heap.FunFrames X.base X.stack := by
 rcases I.ok.stk with e | ⟨e, hf⟩
 · rw [e]; exact I.funs
 · rw [e]
   obtain ⟨m, hn, _⟩ := I.loc
   refine .cons (by rw [I.ok.kind]; decide) hf hn ?_ I.funs
   exact Heap.get?_none_of_le (Nat.le_trans I.ok.bsz I.ok.above)
theorem Inv.stkSub (I : Inv X pins σ H s) : ∀ b ∈ frs X.stack, b ∈ X.env.locals :: X.fs := fun b hb => by
 rcases I.ok.stk with e | ⟨e, hf⟩
 · rw [e] at hb; exact List.mem_cons_of_mem _ hb
 · rw [e] at hb
   unfold frs at hb
   rw [List.filterMap_cons, hf] at hb
   exact hb
theorem Inv.stkFree (I : Inv X pins σ H s) : ∀ b ∈ frs X.stack, H b = none := fun b hb => by
 rcases List.mem_cons.mp (I.stkSub b hb) with e | hb
 · rw [e]; exact I.free
 · obtain ⟨_, o, ho, _⟩ := I.ok.funs.mem hb
   exact I.base.free b o ho (I.ok.frf b hb) fun z => I.ok.exfs b z hb
theorem Inv.step {g' : Array GenState} {t' : Nat} {d' : Drawn} {ch : List Addr} (I : Inv X pins σ H s)
   (hch : ∀ b ∈ ch, (b ∈ X.ex ∨ X.s₀.heap.objs.size ≤ b) ∧ b ≠ X.env.locals ∧ (∀ x c, X.env.cells.lookup x = some c → c ≠ b) ∧ ∀ p ∈ X.pn ++ pins, p.1 ≠ b)
   (keep : ∀ b o, b ≠ X.env.locals → b ∉ X.fs → b ∉ ch → s.heap.get? b = some o → H b = none → h'.get? b = some o)
   (slot : ∀ b o, b ≠ X.env.locals → b ∈ X.fs → b ∉ ch → s.heap.get? b = some o → H b = none → ∃ sl, h'.get? b = some { o with slots := sl }) (free : ∀ b o, b ∉ ch → s.heap.get? b = some o → H b = none → H' b = none)
   (there : ∀ b o, b ∉ ch → s.heap.get? b = some o → ∃ o', h'.get? b = some o')
   (tups : ∀ b xs, H b = some (.tup xs) → H' b = some (.tup xs)) (frzs : ∀ b o u, H b = some (.frz o u) → H' b = some (.frz o u)) (tbls : ∀ b ps, H b = some (.tbl ps) → ∃ more, H' b = some (.tbl (ps ++ more)))
   (ns : ∀ m, s.heap.Ns X.env.locals m → h'.Ns X.env.locals m) (hok : HOk X.prog X.w H' h') (hg : AllBare g') :
   Inv X pins σ H' { s with heap := h', gens := g', drawn := d', toks := t' } := by
 have neL : ∀ b o, X.s₀.heap.get? b = some o → b ≠ X.env.locals := fun b o e => Nat.ne_of_lt (Nat.lt_of_lt_of_le (Heap.lt_size e) I.ok.above)
 have neC : ∀ b o, X.s₀.heap.get? b = some o → b ∉ X.ex → b ∉ ch := fun b o e hx hb => by
   rcases (hch b hb).1 with z | z
   · exact hx z
   · exact absurd (Nat.lt_of_lt_of_le (Heap.lt_size e) z) (Nat.lt_irrefl _)
 have cellK : ∀ x c, X.env.cells.lookup x = some c → ∀ v, s.heap.IsCell c v → h'.IsCell c v := fun x c e v ⟨o, ho, hd⟩ => by
   have nch : c ∉ ch := fun z => (hch c z).2.2.1 x c e rfl
   by_cases hc : c ∈ X.fs
   · obtain ⟨sl, q⟩ := slot c o (I.cne x c e) hc nch ho (I.freeC x c e)
     exact ⟨_, q, hd⟩
   · exact ⟨o, keep c o (I.cne x c e) hc nch ho (I.freeC x c e), hd⟩
 refine ⟨I.ok, I.os, hg, ⟨fun b o e n hb hx => ?_, fun b o e n hb hx => ?_, fun b o e n hx => ?_, fun b o e hx => ?_, fun b xs e => tups b xs (I.base.tups b xs e), fun b o xs e => frzs b o xs (I.base.frzs b o xs e), fun b ps e => ?_⟩, ?_, fun x c e => ?_, ?_, fun x c e => ?_, fun p hp => ?_, hok, I.len⟩
 · exact keep b o (neL b o e) hb (neC b o e hx) (I.base.keep b o e n hb hx) (I.base.free b o e n hx)
 · obtain ⟨sl, e1⟩ := I.base.slot b o e n hb hx
   obtain ⟨sl', e2⟩ := slot b _ (neL b o e) hb (neC b o e hx) e1 (I.base.free b o e n hx)
   exact ⟨sl', e2⟩
 · obtain ⟨o', e1⟩ := I.base.there b o e hx
   exact free b o' (neC b o e hx) e1 (I.base.free b o e n hx)
 · obtain ⟨o', e1⟩ := I.base.there b o e hx
   exact there b o' (neC b o e hx) e1
 · obtain ⟨m1, e1⟩ := I.base.tbls b ps e
   obtain ⟨m2, e2⟩ := tbls b _ e1
   exact ⟨m1 ++ m2, by rw [e2, Array.append_assoc]⟩
 · obtain ⟨m, hn, hl⟩ := I.loc
   refine ⟨m, ns m hn, fun i x v e1 e2 e3 => ?_⟩
   obtain ⟨u, r, l⟩ := hl i x v e1 e2 e3
   refine ⟨u, r, ?_⟩
   rcases l with l | ⟨k, c, e, z⟩
   · exact .inl l
   · exact .inr ⟨k, c, e, cellK x c e _ z⟩
 · obtain ⟨v, z⟩ := I.cell x c e
   exact ⟨v, cellK x c e v z⟩
 · obtain ⟨m, ⟨o, _, _, ho, _⟩, _⟩ := I.loc
   exact free _ o (fun z => (hch _ z).2.1 rfl) ho I.free
 · obtain ⟨v, o, ho, hd⟩ := I.cell x c e
   exact free c o (fun z => (hch c z).2.2.1 x c e rfl) ho (I.freeC x c e)
 · obtain ⟨e, n, ne, nf, d⟩ := I.pin p hp
   have nch : p.1 ∉ ch := fun z => (hch p.1 z).2.2.2 p hp rfl
   exact ⟨keep p.1 p.2 ne nf nch e n, free p.1 p.2 nch e n, ne, nf, d⟩
theorem Inv.un {t' : Nat} (I : Inv X pins σ H s) (u : Un X.fs [] H H' s.heap h') (hok : HOk X.prog X.w H' h') : Inv X pins σ H' { s with heap := h', toks := t' } := by
 obtain ⟨m, ⟨o, es, ep, ho, r⟩, _⟩ := id I.loc
 obtain ⟨sl, hL⟩ := u.any ho I.free (by simp)
 exact I.step (g' := s.gens) (d' := s.drawn) (ch := []) (fun _ z => nomatch z) (fun b o _ hb _ e n => u.keep b o e n hb (by simp)) (fun b o _ hb _ e n => u.slot b o e n hb (by simp)) (fun b o _ e n => u.free b o e n (by simp)) (fun b o _ e => u.there b o e (by simp)) u.tups u.frzs u.tbls (fun m' hm => by
   obtain ⟨o', es', ep', ho', r'⟩ := hm
   rw [ho] at ho'; cases ho'
   exact ⟨_, es', ep', hL, r'⟩) hok I.bare
theorem Inv.call {g' : Array GenState} {t' : Nat} {d' : Drawn} {ch : List Addr} (I : Inv X pins σ H s) (u : Un (frs X.stack) ch H H' s.heap h') (hok : HOk X.prog X.w H' h') (hg : AllBare g')
   (hch : ∀ b ∈ ch, (b ∈ X.ex ∨ X.s₀.heap.objs.size ≤ b) ∧ b ≠ X.env.locals ∧ (∀ x c, X.env.cells.lookup x = some c → c ≠ b) ∧ ∀ p ∈ X.pn ++ pins, p.1 ≠ b) :
   Inv X pins σ H' { s with heap := h', gens := g', drawn := d', toks := t' } := by
 obtain ⟨m, ⟨o, es, ep, ho, r⟩, _⟩ := id I.loc
 obtain ⟨sl, hL⟩ := u.any ho I.free fun z => (hch _ z).2.1 rfl
 exact I.step (ch := ch) hch (fun b o hL hb hc e n => u.keep b o e n (fun z => (List.mem_cons.mp (I.stkSub b z)).elim hL hb) hc) (fun b o _ _ hc e n => u.any e n hc) (fun b o hc e n => u.free b o e n hc) (fun b o hc e => u.there b o e hc) u.tups u.frzs u.tbls (fun m' hm => by
   obtain ⟨o', es', ep', ho', r'⟩ := hm
   rw [ho] at ho'; cases ho'
   exact ⟨_, es', ep', hL, r'⟩) hok hg
theorem Inv.turned {t' : Nat} {it : Addr} (I : Inv X pins σ H s) (k : ∀ b o, b ≠ it → s.heap.get? b = some o → h'.get? b = some o) (hn : H it = none) (hL : it ≠ X.env.locals)
   (h1 : it ∈ X.ex ∨ X.s₀.heap.objs.size ≤ it) (h2 : ∀ x c, X.env.cells.lookup x = some c → c ≠ it) (h3 : ∀ p ∈ X.pn ++ pins, p.1 ≠ it) : Inv X pins σ H { s with heap := h', toks := t' } := by
 have nit : ∀ b u, H b = some u → b ≠ it := fun b u e z => by rw [z, hn] at e; cases e
 refine I.step (g' := s.gens) (d' := s.drawn) (ch := [it]) (fun b hb => ?_) (fun b o _ _ hc e _ => k b o (fun z => hc (by simp [z])) e) (fun b o _ _ hc e _ => ⟨o.slots, k b o (fun z => hc (by simp [z])) e⟩) (fun _ _ _ _ n => n)
   (fun b o hc e => ⟨o, k b o (fun z => hc (by simp [z])) e⟩) (fun _ _ e => e) (fun _ _ _ e => e) (fun b ps e => ⟨#[], by rw [e]; simp⟩) (fun m hm => ?_) (fun b u e => ?_) I.bare
 · have e : b = it := by simpa using hb
   subst e
   exact ⟨h1, hL, h2, h3⟩
 · obtain ⟨o, es, ep, ho, r⟩ := hm
   exact ⟨o, es, ep, k _ o (Ne.symm hL) ho, r⟩
 · refine (I.hok b u e).stay (fun c v hc q => k c v ?_ q) (fun _ q => q) fun _ _ q => q
   rcases hc with z | z
   · rw [z]; exact nit b u e
   · exact nit c _ z
theorem Inv.tok (I : Inv X pins σ H s) (t : Nat) : Inv X pins σ H { s with toks := t } := I.un (h' := s.heap) (t' := t) Un.refl I.hok
theorem Inv.kept {t' : Nat} (I : Inv X pins σ H s) (k : ∀ b u, s.heap.get? b = some u → h'.get? b = some u) : Inv X pins σ H { s with heap := h', toks := t' } := I.un (Un.kept k) (I.hok.kept k)
theorem Inv.laid {a : Addr} {o : HO} {t' : Nat} (I : Inv X pins σ H s) (k : ∀ b u, s.heap.get? b = some u → h'.get? b = some u) (hp : s.heap.objs.size ≤ a) (new : ObjOk X.prog X.w (upd H a o) h' a o) :
   Inv X pins σ (upd H a o) { s with heap := h', toks := t' } := I.un (Un.laid k hp (I.hok.fresh hp)) (I.hok.laid k hp new)
theorem Inv.write {x e : Addr} {o : HO} {t' : Nat} (I : Inv X pins σ H s) (mu : Mut (H x)) (he : e = x ∨ H e = some (.own x)) (k : ∀ b u, b ≠ e → s.heap.get? b = some u → h'.get? b = some u) (heo : ∃ u, h'.get? e = some u)
   (new : ObjOk X.prog X.w (upd H x o) h' x o) : Inv X pins σ (upd H x o) { s with heap := h', toks := t' } := I.un (Un.write mu he k heo) (I.hok.write mu he k heo new)
theorem Inv.weak {σ' : List (Option V)} (I : Inv X pins σ H s) (hl : σ'.length = σ.length) (w : ∀ (i : Nat) v, σ'[i]? = some (some v) → σ[i]? = some (some v)) : Inv X pins σ' H s :=
 ⟨I.ok, I.os, I.bare, I.base, let ⟨m, hn, hl'⟩ := I.loc; ⟨m, hn, fun i x v e1 e2 e3 => hl' i x v e1 (w i v e2) e3⟩, I.cell, I.free, I.freeC, I.pin, I.hok, hl.trans I.len⟩
theorem Inv.pins_of {pins' : List (Addr × Obj)} (I : Inv X pins σ H s) (h : ∀ p ∈ pins', s.heap.get? p.1 = some p.2 ∧ H p.1 = none ∧ p.1 ≠ X.env.locals ∧ p.1 ∉ X.fs ∧ ∀ v, p.2.data ≠ .cell v) : Inv X pins' σ H s :=
 ⟨I.ok, I.os, I.bare, I.base, I.loc, I.cell, I.free, I.freeC, fun p hp => (List.mem_append.mp hp).elim (fun z => I.pin p (List.mem_append_left _ z)) (h p), I.hok, I.len⟩
theorem nodup_ix {N : List Str} (hN : N.Nodup) {i j : Nat} {x : Str} (a : N[i]? = some x) (b : N[j]? = some x) : i = j := by
 obtain ⟨h1, e1⟩ := List.getElem?_eq_some_iff.mp a
 obtain ⟨h2, e2⟩ := List.getElem?_eq_some_iff.mp b
 exact (List.getElem_inj hN).mp (e1.trans e2.symm)
theorem store_ok2 {M : Model} {A : Around} {E : Value → Shared → Prop} {i : Nat} {x : Str} {v : V} {u : Value} {Q : Unit → Shared → Prop} (I : Inv X pins σ H s) (hN : X.N.Nodup) (hi : X.N[i]? = some x) (hx : Loc X.env.scope x) (r : RelV v u)
   (h : ∀ s', Inv X pins (σ.set i (some v)) H s' → (∃ a, Heap.SameBut a s.heap s'.heap ∧ (a = X.env.locals ∨ X.env.cells.lookup x = some a)) → Q () s') (hf : X.fn x = true ∨ X.env.scope.names.lookup x = some .local := by first | exact .inl rfl | exact .inr rfl | assumption) : wpAny M A (storeName X.env x u) Q E s := by
 obtain ⟨m, hn, hl⟩ := id I.loc
 have hcls : (X.env.scope.kind == .class || (X.env.scope.kind == .module && X.env.locals != X.env.globals)) = false := by rw [I.ok.kind]; rfl
 have hiσ : i < σ.length := by rw [I.len]; exact (List.getElem?_eq_some_iff.mp hi).1
 have cne := I.cne
 have tracked : ∀ {a : Addr} {h' : Heap}, (∃ o, s.heap.get? a = some o ∧ H a = none) → Heap.SameBut a s.heap h' → HOk X.prog X.w H h' := fun {a h'} ha hs b ob e => by
   obtain ⟨_, _, hfree⟩ := ha
   refine (I.hok b ob e).stay (fun c w' hc q => (hs.2 c ?_).trans q) (fun _ q => q) fun _ _ q => q
   rintro rfl
   rcases hc with rfl | hc
   · rw [hfree] at e; cases e
   · rw [hfree] at hc; cases hc
 rcases hx with hk | hk
 · refine wpAny_storeName_local hk hn (fun h' hn' hs => ?_) hcls
   obtain ⟨oL, _, _, hoL, _⟩ := id hn
   refine h _ ⟨I.ok, I.os, I.bare, ⟨fun b o e n hb hx => ?_, fun b o e n hb hx => ?_, I.base.free, fun b o e hx => ?_, I.base.tups, I.base.frzs, I.base.tbls⟩, ⟨_, hn', fun j y v' e1 e2 e3 => ?_⟩, fun y c e => ?_, I.free, I.freeC, fun p hp => ?_, tracked ⟨oL, hoL, I.free⟩ hs, by simpa using I.len⟩ ⟨_, hs, .inl rfl⟩
   · exact (hs.2 b (Nat.ne_of_lt (Nat.lt_of_lt_of_le (Heap.lt_size e) I.ok.above))).trans (I.base.keep b o e n hb hx)
   · obtain ⟨sl, e1⟩ := I.base.slot b o e n hb hx
     exact ⟨sl, (hs.2 b (Nat.ne_of_lt (Nat.lt_of_lt_of_le (Heap.lt_size e) I.ok.above))).trans e1⟩
   · obtain ⟨o', e1⟩ := I.base.there b o e hx
     exact ⟨o', (hs.2 b (Nat.ne_of_lt (Nat.lt_of_lt_of_le (Heap.lt_size e) I.ok.above))).trans e1⟩
   · by_cases hj : j = i
     · subst hj
       rw [hi] at e1; cases e1
       rw [List.getElem?_set_self hiσ] at e2
       cases e2
       exact ⟨u, r, .inl ⟨hk, by simp⟩⟩
     · rw [List.getElem?_set_ne (Ne.symm hj)] at e2
       obtain ⟨u', r', q⟩ := hl j y v' e1 e2 e3
       refine ⟨u', r', ?_⟩
       rcases q with ⟨k, e⟩ | ⟨k, c, e, z⟩
       · refine .inl ⟨k, ?_⟩
         have : y ≠ x := fun e => hj (nodup_ix hN e1 (e ▸ hi))
         simp [this, e]
       · exact .inr ⟨k, c, e, z.sameBut hs (cne y c e)⟩
   · obtain ⟨w', z⟩ := I.cell y c e
     exact ⟨w', z.sameBut hs (cne y c e)⟩
   · obtain ⟨e, n, ne, nf, d⟩ := I.pin p hp
     exact ⟨(hs.2 p.1 ne).trans e, n, ne, nf, d⟩
 · have hfn : X.fn x = true := by
     rcases hf with z | z
     · exact z
     · rw [z] at hk; cases hk
   obtain ⟨c, hc⟩ := I.ok.has x (.inl hk)
   obtain ⟨w', z⟩ := I.cell x c hc
   refine wpAny_storeName_cell I.ok.kind hk hc z (fun h' hc' hs => ?_)
   obtain ⟨oc, hoc, hocd⟩ := id z
   refine h { s with heap := h' } ⟨I.ok, I.os, I.bare, ⟨fun b o e n hb hx => ?_, fun b o e n hb hx => ?_, I.base.free, fun b o e hx => ?_, I.base.tups, I.base.frzs, I.base.tbls⟩, ⟨m, hn.sameBut hs (Ne.symm (cne x c hc)), fun j y v' e1 e2 e3 => ?_⟩, fun y c' e => ?_, I.free, I.freeC, fun p hp => ?_, tracked ⟨oc, hoc, I.freeC x c hc⟩ hs, by simpa using I.len⟩ ⟨c, hs, .inr hc⟩
   · exact (hs.2 b (Nat.ne_of_lt (Nat.lt_of_lt_of_le (Heap.lt_size e) (I.ok.cab x c hfn hc)))).trans (I.base.keep b o e n hb hx)
   · obtain ⟨sl, e1⟩ := I.base.slot b o e n hb hx
     exact ⟨sl, (hs.2 b (Nat.ne_of_lt (Nat.lt_of_lt_of_le (Heap.lt_size e) (I.ok.cab x c hfn hc)))).trans e1⟩
   · obtain ⟨o', e1⟩ := I.base.there b o e hx
     exact ⟨o', (hs.2 b (Nat.ne_of_lt (Nat.lt_of_lt_of_le (Heap.lt_size e) (I.ok.cab x c hfn hc)))).trans e1⟩
   · by_cases hj : j = i
     · subst hj
       rw [hi] at e1; cases e1
       rw [List.getElem?_set_self hiσ] at e2
       cases e2
       exact ⟨u, r, .inr ⟨.inl hk, c, hc, hc'⟩⟩
     · rw [List.getElem?_set_ne (Ne.symm hj)] at e2
       obtain ⟨u', r', q⟩ := hl j y v' e1 e2 e3
       refine ⟨u', r', ?_⟩
       rcases q with q | ⟨k, c', e, z'⟩
       · exact .inl q
       · refine .inr ⟨k, c', e, z'.sameBut hs ?_⟩
         rintro rfl
         exact hj (nodup_ix hN e1 (I.ok.inj _ _ _ e hc ▸ hi))
   · by_cases hcc : c' = c
     · subst hcc; exact ⟨_, hc'⟩
     · obtain ⟨w2, z2⟩ := I.cell y c' e
       exact ⟨w2, z2.sameBut hs hcc⟩
   · obtain ⟨e, n, ne, nf, d⟩ := I.pin p hp
     refine ⟨(hs.2 p.1 ?_).trans e, n, ne, nf, d⟩
     intro q
     rw [q, hoc] at e
     have q' : oc = p.2 := Option.some.inj e
     exact d w' (by rw [← q']; exact hocd)
theorem store_ok {M : Model} {A : Around} {E : Value → Shared → Prop} {i : Nat} {x : Str} {v : V} {u : Value} {Q : Unit → Shared → Prop} (I : Inv X pins σ H s) (hN : X.N.Nodup) (hi : X.N[i]? = some x) (hx : Loc X.env.scope x) (r : RelV v u)
   (h : ∀ s', Inv X pins (σ.set i (some v)) H s' → Q () s') (hf : X.fn x = true ∨ X.env.scope.names.lookup x = some .local := by first | exact .inl rfl | exact .inr rfl | assumption) : wpAny M A (storeName X.env x u) Q E s :=
 store_ok2 I hN hi hx r (fun s' I' _ => h s' I') hf
theorem Inv.call' {s' : Shared} {ch : List Addr} (I : Inv X pins σ H s) (ho : s'.os = s.os) (u : Un (frs X.stack) ch H H' s.heap s'.heap) (hok : HOk X.prog X.w H' s'.heap) (hg : AllBare s'.gens)
   (hch : ∀ b ∈ ch, (b ∈ X.ex ∨ X.s₀.heap.objs.size ≤ b) ∧ b ≠ X.env.locals ∧ (∀ x c, X.env.cells.lookup x = some c → c ≠ b) ∧ ∀ p ∈ X.pn ++ pins, p.1 ≠ b) : Inv X pins σ H' s' := by
 obtain ⟨h', g', d', t', o'⟩ := s'
 have e : o' = s.os := ho
 subst e
 exact I.call (g' := g') (t' := t') (d' := d') u hok hg hch
end
abbrev XK := Value → Option Addr → Hp → Prop
abbrev St := List (Option V)
abbrev VK := V → Hp → Prop
abbrev TE := St → Hp → VK → Prop
abbrev TT := St → Hp → (Bool → Hp → Prop) → Prop
abbrev TA := St → Hp → (List V → Hp → Prop) → Prop
structure Ends where
 nx : St → Hp → Prop
 rt : VK
 bk : St → Hp → Prop := fun _ _ => False
 ct : St → Hp → Prop := fun _ _ => False
abbrev TS := Ends → St → Hp → Prop
def EP (X : Cx) (pins : List (Addr × Obj)) (σ : St) (Q : VK) (u : Value) (s' : Shared) : Prop := ∃ v H', Inv X pins σ H' s' ∧ RelV v u ∧ Q v H'
def TP (X : Cx) (pins : List (Addr × Obj)) (σ : St) (Q : Bool → Hp → Prop) (b : Bool) (s' : Shared) : Prop := ∃ H', Inv X pins σ H' s' ∧ Q b H'
def AP (X : Cx) (pins : List (Addr × Obj)) (σ : St) (Q : List V → Hp → Prop) (us : List Value) (s' : Shared) : Prop := ∃ vs H', Inv X pins σ H' s' ∧ Vals vs us ∧ Q vs H'
def SP (X : Cx) (pins : List (Addr × Obj)) (D : Ends) (f : Flow) (s' : Shared) : Prop :=
 match f with
 | .next => ∃ σ' H', Inv X pins σ' H' s' ∧ D.nx σ' H'
 | .brk => ∃ σ' H', Inv X pins σ' H' s' ∧ D.bk σ' H'
 | .cont => ∃ σ' H', Inv X pins σ' H' s' ∧ D.ct σ' H'
 | .ret u => ∃ v σ' H', Inv X pins σ' H' s' ∧ RelV v u ∧ D.rt v H'
def PE (X : Cx) (e : Expr) (t : TE) : Prop :=
 ∀ (pins : List (Addr × Obj)) (s : Shared) (σ : St) (H : Hp) (Q : VK), Inv X pins σ H s → t σ H Q → wpAny (model X.prog X.w) X.A (eval e X.env) (EP X pins σ Q) X.xe s
def PT (X : Cx) (e : Expr) (t : TT) : Prop :=
 ∀ (pins : List (Addr × Obj)) (s : Shared) (σ : St) (H : Hp) (Q : Bool → Hp → Prop), Inv X pins σ H s → t σ H Q → wpAny (model X.prog X.w) X.A (isTrue e X.env (eval e X.env)) (TP X pins σ Q) X.xe s
def PW (X : Cx) (e : Expr) (t : TT) : Prop :=
 ∀ (whole : Sem Value) (pins : List (Addr × Obj)) (s : Shared) (σ : St) (H : Hp) (Q : Bool → Hp → Prop), Inv X pins σ H s → t σ H Q → wpAny (model X.prog X.w) X.A (isTrue e X.env whole) (TP X pins σ Q) X.xe s
theorem PW.pt {X : Cx} {e : Expr} {t : TT} (h : PW X e t) : PT X e t := h _
def PA (X : Cx) (es : List Expr) (t : TA) : Prop :=
 ∀ (pos : Pos) (pins : List (Addr × Obj)) (s : Shared) (σ : St) (H : Hp) (Q : List V → Hp → Prop), Inv X pins σ H s → t σ H Q → wpAny (model X.prog X.w) X.A (spliced (backTo pos (starEach es X.env))) (AP X pins σ Q) X.xe s
def PS (X : Cx) (st : Stmt) (t : TS) : Prop :=
 ∀ (pins : List (Addr × Obj)) (s : Shared) (σ : St) (H : Hp) (D : Ends), Inv X pins σ H s → t D σ H → wpAny (model X.prog X.w) X.A (exec st X.env) (SP X pins D) X.xe s
def PSs (X : Cx) (st : List Stmt) (t : TS) : Prop :=
 ∀ (pins : List (Addr × Obj)) (s : Shared) (σ : St) (H : Hp) (D : Ends), Inv X pins σ H s → t D σ H → wpAny (model X.prog X.w) X.A (execs st X.env) (SP X pins D) X.xe s
theorem thn {α : Type} {t : Sem α} {Q Q' : α → Shared → Prop} {M : Model} {A : Around} {E : Value → Shared → Prop} {s : Shared} (h : wpAny M A t Q E s) (hQ : ∀ a s, Q a s → Q' a s) : wpAny M A t Q' E s := wpAny_mono h hQ fun _ _ x => x
end L2
namespace L2
open PySem PySem.Spec PyProof.Rows
section
variable {X : Cx}
def tVar (i : Nat) : TE := fun σ H Q => ∃ v, σ[i]? = some (some v) ∧ Q v H
def tC (v : V) : TE := fun _ H Q => Q v H
theorem pe_var {i : Nat} {x : Str} {pos : Pos} (hN : X.N[i]? = some x) (hv : Vis X.env.scope x) (hd : (x == ("__debug__" : Str)) = false := by decide) (hcd : (x == ("__classdict__" : Str)) = false := by decide) : PE X (.Name x pos) (tVar i) := by
 intro pins s σ H Q I h
 obtain ⟨v, e, h⟩ := h
 obtain ⟨m, hn, hl⟩ := I.loc
 obtain ⟨u, r, l⟩ := hl i x v hN e hv
 have fin : EP X pins σ Q u s := ⟨v, H, I, r, h⟩
 rcases l with ⟨hk, hm⟩ | ⟨hk, c, hc, hcell⟩
 · exact wpAny_Name (wpAny_loadName_local I.ok.kind hk hn hm fin) hd
 · rcases hk with hk | hk
   · exact wpAny_Name (wpAny_loadName_cell I.ok.kind hk hc hcell fin) hd
   · exact wpAny_Name (wpAny_loadName_free I.ok.kind hk hc hcell fin hcd) hd
theorem eI {i j pos} : PE X (.Constant (.int i) j pos) (tC (.int i)) := fun _ _ _ H _ I h => wpAny_Constant_int ⟨.int i, H, I.tok _, ⟨_, rfl⟩, h⟩
theorem pe_bl {b j pos} : PE X (.Constant (.bool b) j pos) (tC (.bl b)) := fun _ _ _ H _ I h => Constant_bool ⟨.bl b, H, I, rfl, h⟩
theorem pe_non {j pos} : PE X (.Constant .none j pos) (tC .non) := fun _ _ _ H _ I h => Constant_none ⟨.non, H, I, rfl, h⟩
theorem pe_str {x j pos} : PE X (.Constant (.str x) j pos) (tC (.str x)) := fun _ _ _ H _ I h => Calls.Constant_str ⟨.str x, H, I.tok _, ⟨_, rfl⟩, h⟩
def Gl (X : Cx) (x : Str) : Prop := X.env.kindOf x = some .globalImplicit
theorem ld_glob {E : Value → Shared → Prop} {pins : List (Addr × Obj)} {s : Shared} {σ : St} {H : Hp} {x : Str} {u : Value} {pos : Pos} {Q : Value → Shared → Prop} (I : Inv X pins σ H s) (hg : Gl X x) (hm : X.mg x = some u) (h : Q u s)
   (hd : (x == ("__debug__" : Str)) = false := by decide) : wpAny (model X.prog X.w) X.A (eval (.Name x pos) X.env) Q E s :=
 Calls.Name_function_global I.ok.kind hg (Calls.loadGlobal_global (by rw [I.ok.glob]; exact I.mod.glob.keeps I.bk) hm h) hd
theorem ld_blt {E : Value → Shared → Prop} {pins : List (Addr × Obj)} {s : Shared} {σ : St} {H : Hp} {x : Str} {u : Value} {pos : Pos} {Q : Value → Shared → Prop} (I : Inv X pins σ H s) (hg : Gl X x) (hm : X.mg x = none) (hv : bootBuiltins x = some u) (h : Q u s)
   (hn : x ≠ "__name__" := by decide) (hd : (x == ("__debug__" : Str)) = false := by decide) : wpAny (model X.prog X.w) X.A (eval (.Name x pos) X.env) Q E s := by
 obtain ⟨mb, h1, h2⟩ := I.mod.blt
 exact Calls.Name_function_global I.ok.kind hg (Calls.loadGlobal_builtin (by rw [I.ok.glob]; exact I.mod.glob.keeps I.bk) hm (by rw [I.ok.blt]; exact h1.keeps I.bk) ((h2 x hn).trans hv) h) hd
theorem pe_glob {x : Str} {v : V} {u : Value} {pos : Pos} (hg : Gl X x) (hm : X.mg x = some u) (r : RelV v u) (hd : (x == ("__debug__" : Str)) = false := by decide) : PE X (.Name x pos) (tC v) :=
 fun _ _ _ H _ I h => ld_glob I hg hm ⟨v, H, I, r, h⟩ hd
theorem pe_bltn {x : Str} {v : V} {u : Value} {pos : Pos} (hg : Gl X x) (hm : X.mg x = none) (hv : bootBuiltins x = some u) (r : RelV v u) (hn : x ≠ "__name__" := by decide) (hd : (x == ("__debug__" : Str)) = false := by decide) : PE X (.Name x pos) (tC v) :=
 fun _ _ _ H _ I h => ld_blt I hg hm hv ⟨v, H, I, r, h⟩ hn hd
variable {a b : Expr} {ta tb : TE} {pos : Pos}
def PC (X : Cx) (op : CmpOp) (a b : Expr) (t : TE) : Prop :=
 ∀ (pins : List (Addr × Obj)) (s : Shared) (σ : St) (H : Hp) (Q : VK), Inv X pins σ H s → t σ H Q →
   wpAny (model X.prog X.w) X.A (eval a X.env) (fun v s₁ => wpAny (model X.prog X.w) X.A (eval b X.env) (fun u s₂ => wpAny (model X.prog X.w) X.A (compareOp op v u) (EP X pins σ Q) X.xe s₂) X.xe s₁) X.xe s
def tB (t : TE) : TT := fun σ H Q => t σ H fun x H1 => ∃ c, x = .bl c ∧ Q c H1
theorem pt_cmp {op : CmpOp} {t : TE} (h : PC X op a b t) (h1 : behindInMarks op b = false := by first | exact nobehind _ (by decide) (by decide) | rfl) : PT X (.Compare a [op] [b] pos) (tB t) := by
 intro pins s σ H Q I hw
 refine wpAny_isTrue_Compare1 (thn (h pins s σ H _ I hw) fun v s1 h1 => thn h1 fun u s2 h2 => thn h2 fun c s3 ⟨x, H1, I1, r1, q1⟩ => ?_) h1
 obtain ⟨d, rfl, q⟩ := q1
 cases r1
 exact wpAny_truthy_bool ⟨H1, I1, q⟩
theorem pt_val {e : Expr} {t : TE} (h : PE X e t) (he : ∀ whole, isTrue e X.env whole = (do let v ← whole; standAt e.pos; holding [v] (truthy v)) := by intro _; rfl) : PT X e (tB t) := by
 intro pins s σ H Q I hw
 refine isTrue_plain (thn (h pins s σ H _ I hw) fun v s1 ⟨x, H1, I1, r1, q1⟩ => ?_) (he _)
 obtain ⟨d, rfl, q⟩ := q1
 cases r1
 exact wpAny_truthy_bool ⟨H1, I1, q⟩
variable {tA tB' : TT} {rest : List Expr}
def tOr (t u : TT) : TT := fun σ H Q => t σ H fun c H1 => if c = true then Q true H1 else u σ H1 Q
def tNot (t : TT) : TT := fun σ H Q => t σ H fun c H1 => Q (!c) H1
theorem pw_or1 (ha : PT X a tA) : PW X (.BoolOp .Or [a] pos) tA := by
 intro wh pins s σ H Q I h
 refine isTrue_or (thn (ha pins s σ H Q I h) fun c s1 e => ?_)
 cases c with
 | false => exact isTrue_or_nil e
 | true => exact e
theorem pw_or (ha : PT X a tA) (hb : PW X (.BoolOp .Or (b :: rest) pos) tB') : PW X (.BoolOp .Or (a :: b :: rest) pos) (tOr tA tB') := by
 intro wh pins s σ H Q I h
 refine isTrue_or (thn (ha pins s σ H _ I h) fun c s1 ⟨H1, I1, q1⟩ => ?_)
 cases c with
 | true => exact ⟨H1, I1, q1⟩
 | false => exact hb wh pins s1 σ H1 Q I1 q1
theorem pt_not (ha : PT X a tA) : PT X (.UnaryOp .Not a pos) (tNot tA) := by
 intro pins s σ H Q I h
 exact isTrue_not (ha pins s σ H (fun c H1 => Q (!c) H1) I h)
def tAndV (ta tb : TE) : TE := fun σ H Q => ta σ H fun x H1 => ∃ c, x = .bl c ∧ if c = true then tb σ H1 Q else Q (.bl false) H1
def tNotV (ta : TE) : TE := fun σ H Q => ta σ H fun x H1 => ∃ c, x = .bl c ∧ Q (.bl (!c)) H1
theorem pe_one {op} {t : TE} (h : PE X a t) : PE X (.BoolOp op [a] pos) t := fun pins s σ H Q I hw => BoolOp_one (h pins s σ H Q I hw)
theorem pe_and (ha : PE X a ta) (hb : PE X (.BoolOp .And (b :: rest) pos) tb) : PE X (.BoolOp .And (a :: b :: rest) pos) (tAndV ta tb) := by
 intro pins s σ H Q I h
 refine BoolOp_and (thn (ha pins s σ H _ I h) fun v s1 ⟨x, H1, I1, r1, q1⟩ => ?_)
 obtain ⟨c, rfl, q1⟩ := q1
 cases r1
 refine wpAny_truthy_bool ?_
 cases c with
 | true => exact hb pins s1 σ H1 Q I1 q1
 | false => exact ⟨.bl false, H1, I1, rfl, q1⟩
theorem pe_not (ha : PE X a ta) : PE X (.UnaryOp .Not a pos) (tNotV ta) := by
 intro pins s σ H Q I h
 refine UnaryOp_ (thn (ha pins s σ H _ I h) fun v s1 ⟨x, H1, I1, r1, q1⟩ => ?_)
 obtain ⟨c, rfl, q1⟩ := q1
 cases r1
 exact not_of (wpAny_truthy_bool ⟨.bl (!c), H1, I1, rfl, q1⟩)
def tIf (t : TT) (ta tb : TE) : TE := fun σ H Q => t σ H fun c H1 => if c = true then ta σ H1 Q else tb σ H1 Q
theorem pe_ifExp {c : Expr} (hc : PT X c tA) (ha : PE X a ta) (hb : PE X b tb) : PE X (.IfExp c a b pos) (tIf tA ta tb) := by
 intro pins s σ H Q I h
 refine wpAny_IfExp (thn (hc pins s σ H _ I h) fun d s1 ⟨H1, I1, q1⟩ => ?_)
 cases d with
 | true => exact ha pins s1 σ H1 Q I1 q1
 | false => exact hb pins s1 σ H1 Q I1 q1
end
end L2
namespace L2
open PySem PySem.Spec PyProof.Rows
def SqL (K : W.Frag) (H : Hp) (a : Addr) (xs : List V) : Prop :=
 Rd H a (.lst xs) ∨
   ∃ (o : Obj) (its : Array Value) (n : Nat), K.lookup a = some o ∧ o.cls = .type "list" ∧ o.dict = none ∧ o.data = .seq its n ∧ its.size ≤ sizeLine ∧ Vals xs its.toList
def SqT (K : W.Frag) (H : Hp) (a : Addr) (xs : List V) : Prop :=
 Rd H a (.tup xs) ∨
   ∃ (o : Obj) (its : Array Value) (n : Nat), K.lookup a = some o ∧ o.cls = .type "tuple" ∧ o.data = .seq its n ∧ its.size ≤ sizeLine ∧ Vals xs its.toList
def absV : Value → Option V
 | .none => some .non
 | .bool b => some (.bl b)
 | .int i _ => some (.int i)
 | .str x _ => some (.str x)
 | .bytes b _ => some (.byt b)
 | .float b _ => some (.flt b)
 | .ref a => some (.ref a)
 | .type n => some (.ty n)
 | _ => none
theorem RelV.abs {x : V} {u : Value} (r : RelV x u) : absV u = some x := by
 cases x with
 | non => cases r; rfl
 | bl _ => cases r; rfl
 | int _ => obtain ⟨t, rfl⟩ := r; rfl
 | str _ => obtain ⟨t, rfl⟩ := r; rfl
 | byt _ => obtain ⟨t, rfl⟩ := r; rfl
 | flt _ => obtain ⟨t, rfl⟩ := r; rfl
 | ref _ => cases r; rfl
 | ty _ => cases r; rfl
theorem RelV.inj {x y : V} {u : Value} (r : RelV x u) (q : RelV y u) : x = y := Option.some.inj (r.abs.symm.trans q.abs)
theorem Vals.inj : ∀ {xs ys : List V} {us : List Value}, Vals xs us → Vals ys us → xs = ys
 | _, _, _, .nil, .nil => rfl
 | _, _, _, .cons r t, .cons r' t' => by rw [r.inj r', Vals.inj t t']
section
variable {X : Cx} {pins : List (Addr × Obj)} {σ : St} {H : Hp} {s : Shared} {a : Addr} {xs ys : List V}
theorem SqL.of {K : W.Frag} (h : H a = some (.lst xs)) : SqL K H a xs := .inl (.inl h)
theorem SqT.of {K : W.Frag} (h : H a = some (.tup xs)) : SqT K H a xs := .inl (.inl h)
theorem Inv.list (I : Inv X pins σ H s) (h : SqL X.K H a xs) : ∃ its : List Value, Vals xs its ∧ PlainL s.heap a its.toArray ∧ xs.length ≤ sizeLine := by
 rcases h with h | ⟨o, its, n, hk, hc, hd, hs, hz, r⟩
 · obtain ⟨z, its, n, r, e⟩ := h.ok I.hok
   exact ⟨its, r, ⟨_, n, e, rfl, rfl, rfl⟩, z⟩
 · refine ⟨its.toList, r, ⟨o, n, I.kIn a o hk, hc, hd, by simpa using hs⟩, ?_⟩
   have e := r.length
   simp only [Array.length_toList] at e
   omega
theorem Inv.tuple (I : Inv X pins σ H s) (h : SqT X.K H a xs) : ∃ its : List Value, Vals xs its ∧ IsTup s.heap a its.toArray ∧ xs.length ≤ sizeLine := by
 rcases h with h | ⟨o, its, n, hk, hc, hs, hz, r⟩
 · obtain ⟨z, its, r, p⟩ := h.ok I.hok
   exact ⟨its, r, p, z⟩
 · refine ⟨its.toList, r, ⟨o, I.kIn a o hk, hc, n, by simpa using hs⟩, ?_⟩
   have e := r.length
   simp only [Array.length_toList] at e
   omega
theorem Inv.list_inj (I : Inv X pins σ H s) (h : SqL X.K H a xs) (h' : SqL X.K H a ys) : xs = ys := by
 obtain ⟨its, r, ⟨o, n, e, _, _, d⟩, _⟩ := I.list h
 obtain ⟨its', r', ⟨o', n', e', _, _, d'⟩, _⟩ := I.list h'
 rw [e] at e'; cases e'
 rw [d] at d'
 injection d' with d1 _
 have : its = its' := by simpa using congrArg Array.toList d1
 subst this
 exact r.inj r'
theorem Inv.tuple_inj (I : Inv X pins σ H s) (h : SqT X.K H a xs) (h' : SqT X.K H a ys) : xs = ys := by
 obtain ⟨its, r, ⟨o, e, _, n, d⟩, _⟩ := I.tuple h
 obtain ⟨its', r', ⟨o', e', _, n', d'⟩, _⟩ := I.tuple h'
 rw [e] at e'; cases e'
 rw [d] at d'
 injection d' with d1 _
 have : its = its' := by simpa using congrArg Array.toList d1
 subst this
 exact r.inj r'
end
abbrev Cx.wish (X : Cx) (E : Value → Shared → Prop) : Cx := { X with xe := E }
abbrev Cx.nox (X : Cx) : Cx := X.wish fun _ _ => False
theorem Cx.Ok.wish {X : Cx} (ok : X.Ok) (E : Value → Shared → Prop) : (X.wish E).Ok :=
 ⟨ok.mod, ok.kind, ok.glob, ok.blt, ok.above, ok.inj, ok.has, ok.cab, ok.hd, ok.frames, ok.stk, ok.exf, ok.bs, ok.bsz, ok.noex, ok.exfs, ok.funs, ok.frf⟩
theorem Cx.Ok.unwish {X : Cx} {E : Value → Shared → Prop} (ok : (X.wish E).Ok) : X.Ok :=
 ⟨ok.mod, ok.kind, ok.glob, ok.blt, ok.above, ok.inj, ok.has, ok.cab, ok.hd, ok.frames, ok.stk, ok.exf, ok.bs, ok.bsz, ok.noex, ok.exfs, ok.funs, ok.frf⟩
section
variable {X : Cx} {pins : List (Addr × Obj)} {σ : St} {H : Hp} {s : Shared} {E : Value → Shared → Prop}
theorem Inv.wish (I : Inv X pins σ H s) (E : Value → Shared → Prop) : Inv (X.wish E) pins σ H s := ⟨I.ok.wish E, I.os, I.bare, I.base, I.loc, I.cell, I.free, I.freeC, I.pin, I.hok, I.len⟩
theorem Inv.unwish (I : Inv (X.wish E) pins σ H s) : Inv X pins σ H s := ⟨I.ok.unwish, I.os, I.bare, I.base, I.loc, I.cell, I.free, I.freeC, I.pin, I.hok, I.len⟩
theorem SP.unwish {D : Ends} {f : Flow} {s' : Shared} (h : SP (X.wish E) pins D f s') : SP X pins D f s' := by
 cases f with
 | next => obtain ⟨σ', H', I, q⟩ := h; exact ⟨σ', H', I.unwish, q⟩
 | brk => obtain ⟨σ', H', I, q⟩ := h; exact ⟨σ', H', I.unwish, q⟩
 | cont => obtain ⟨σ', H', I, q⟩ := h; exact ⟨σ', H', I.unwish, q⟩
 | ret u => obtain ⟨v, σ', H', I, r, q⟩ := h; exact ⟨v, σ', H', I.unwish, r, q⟩
theorem PSs.nox {st : List Stmt} {t : TS} (h : PSs X.nox st t) : PSs X st t := fun pins s σ H D I hw =>
 wpAny_mono (h pins s σ H D (I.wish _) hw) (fun _ _ q => q.unwish) fun _ _ z => False.elim z
end
section
variable {X : Cx} {st : Stmt} {rest : List Stmt} {t u : TS} {e : Expr} {te : TE} {pos : Pos}
def tNext : TS := fun D σ H => D.nx σ H
def tSeq (t u : TS) : TS := fun D σ H => t { D with nx := u D } σ H
theorem sN : PSs X [] tNext := fun _ _ σ H _ I h => wpAny_execs_nil ⟨σ, H, I, h⟩
theorem sK (h1 : PS X st t) (h2 : PSs X rest u) : PSs X (st :: rest) (tSeq t u) := by
 intro pins s σ H D I h
 refine wpAny_execs_cons (thn (h1 pins s σ H { D with nx := u D } I h) fun f s1 q => ?_)
 cases f with
 | next =>
   obtain ⟨σ', H', I', q⟩ := q
   exact h2 pins s1 σ' H' D I' q
 | ret v => exact q
 | brk => exact q
 | cont => exact q
theorem s1' (h1 : PS X st t) : PSs X [st] t := by
 intro pins s σ H D I h
 refine wpAny_execs_cons (thn (h1 pins s σ H D I h) fun f s1 q => ?_)
 cases f with
 | next => exact wpAny_execs_nil q
 | ret v => exact q
 | brk => exact q
 | cont => exact q
theorem Inv.quiet {pins : List (Addr × Obj)} {σ : St} {H : Hp} {s : Shared} (I : Inv X pins σ H s) : interactive X.env = false := by simp [interactive, I.ok.kind]
def tDrop (te : TE) : TS := fun D σ H => te σ H fun _ H1 => D.nx σ H1
theorem ps_expr (he : PE X e te) (hs : swapsWith e none pos.line X.env = pure false := by rfl) : PS X (.Expr e pos) (tDrop te) := by
 intro pins s σ H D I h
 exact wpAny_Expr_any (thn (he pins s σ H _ I h) fun v s1 ⟨x, H1, I1, r1, q1⟩ => ⟨σ, H1, I1, q1⟩) I.quiet hs
def tRet (te : TE) : TS := fun D σ H => te σ H D.rt
theorem sR (he : PE X e te) : PS X (.Return (some e) pos) (tRet te) := by
 intro pins s σ H D I h
 exact wpAny_Return_some (thn (he pins s σ H _ I h) fun v s1 ⟨x, H1, I1, r1, q1⟩ => ⟨x, σ, H1, I1, r1, q1⟩)
def tIfS (c : TT) (t u : TS) : TS := fun D σ H => c σ H fun b H1 => if b = true then t D σ H1 else u D σ H1
theorem ps_if {c : Expr} {a b : List Stmt} {tc : TT} (hc : PT X c tc) (ha : PSs X a t) (hb : PSs X b u) : PS X (.If c a b pos) (tIfS tc t u) := by
 intro pins s σ H D I h
 refine wpAny_If (thn (hc pins s σ H _ I h) fun d s1 ⟨H1, I1, q1⟩ => ?_)
 cases d with
 | true => exact ha pins s1 σ H1 D I1 q1
 | false => exact hb pins s1 σ H1 D I1 q1
def tNever : TS := fun _ _ _ => False
theorem sV {sts : List Stmt} : PSs X sts tNever := fun _ _ _ _ _ _ h => h.elim
end
abbrev TG := V → St → Hp → (St → Hp → Prop) → Prop
abbrev TGs := List V → St → Hp → (St → Hp → Prop) → Prop
def PG (X : Cx) (target : Expr) (t : TG) : Prop :=
 ∀ (pins : List (Addr × Obj)) (s : Shared) (σ : St) (H : Hp) (v : V) (u : Value) (Q : St → Hp → Prop), Inv X pins σ H s → RelV v u → t v σ H Q →
   wpAny (model X.prog X.w) X.A (assign target X.env u) (fun _ s' => ∃ σ' H', Inv X pins σ' H' s' ∧ Q σ' H') X.xe s
def PGs (X : Cx) (ts : List Expr) (t : TGs) : Prop :=
 ∀ (pins : List (Addr × Obj)) (s : Shared) (σ : St) (H : Hp) (vs : List V) (us : List Value) (Q : St → Hp → Prop), Inv X pins σ H s → Vals vs us → t vs σ H Q →
   wpAny (model X.prog X.w) X.A (assignInOrder ((assignEach ts X.env).map (·.2)) us) (fun _ s' => ∃ σ' H', Inv X pins σ' H' s' ∧ Q σ' H') X.xe s
abbrev TSet := V → V → V → Hp → (Hp → Prop) → Prop
def PSet (X : Cx) (t : TSet) : Prop :=
 ∀ (pins : List (Addr × Obj)) (s : Shared) (σ : St) (H : Hp) (o i v : V) (ov iv u : Value) (Q : Hp → Prop), Inv X pins σ H s → RelV o ov → RelV i iv → RelV v u → t o i v H Q →
   wpAny (model X.prog X.w) X.A (setItem ov iv u) (fun _ s' => ∃ H', Inv X pins σ H' s' ∧ Q H') X.xe s
abbrev TIp := V → V → Hp → VK → Prop
def PIp (X : Cx) (op : Operator) (t : TIp) : Prop :=
 ∀ (pins : List (Addr × Obj)) (s : Shared) (σ : St) (H : Hp) (x y : V) (v u : Value) (Q : VK), Inv X pins σ H s → RelV x v → RelV y u → t x y H Q →
   wpAny (model X.prog X.w) X.A (inplaceOp op v u) (EP X pins σ Q) X.xe s
section
variable {X : Cx} {pos : Pos}
def gName (i : Nat) : TG := fun v σ H Q => Q (σ.set i (some v)) H
theorem pg_name {i : Nat} {x : Str} (hN : X.N.Nodup) (hi : X.N[i]? = some x) (hx : Loc X.env.scope x) (hf : X.fn x = true ∨ X.env.scope.names.lookup x = some .local := by first | exact .inl rfl | exact .inr rfl | assumption) : PG X (.Name x pos) (gName i) := by
 intro pins s σ H v u Q I r h
 exact wpAny_assign_Name (store_ok I hN hi hx r (fun s' I' => ⟨_, H, I', h⟩) hf)
def gNil : TGs := fun vs σ H Q => vs = [] ∧ Q σ H
def gCons (t : TG) (u : TGs) : TGs := fun vs σ H Q => ∃ v r, vs = v :: r ∧ t v σ H fun σ' H' => u r σ' H' Q
theorem pgs_nil : PGs X [] gNil := by
 intro pins s σ H vs us Q I r h
 obtain ⟨e, h⟩ := h
 subst e
 cases r
 exact assignInOrder_nil ⟨σ, H, I, h⟩
theorem pgs_cons {e : Expr} {es : List Expr} {t : TG} {u : TGs} (h1 : PG X e t) (h2 : PGs X es u)
   (hs : (assignEach (e :: es) X.env).map (·.2) = assign e X.env :: (assignEach es X.env).map (·.2) := by rfl) : PGs X (e :: es) (gCons t u) := by
 intro pins s σ H vs us Q I r h
 obtain ⟨v, vr, e1, h⟩ := h
 subst e1
 cases r with
 | cons r rr =>
   rw [hs]
   refine assignInOrder_cons (thn (h1 pins s σ H _ _ _ I r h) fun _ s1 ⟨σ1, H1, I1, q1⟩ => ?_)
   exact h2 pins s1 σ1 H1 _ _ Q I1 rr q1
def gTup (K : W.Frag) (n : Nat) (t : TGs) : TG := fun v σ H Q => ∃ a xs, v = .ref a ∧ SqT K H a xs ∧ xs.length = n ∧ t xs σ H Q
theorem pg_tup {es : List Expr} {k : Nat} {t : TGs} {n : Nat} (hc : X.calm = true) (h : PGs X es t)
   (hn : (assignEach es X.env).length = n := by rfl) (hst : (assignEach es X.env).findIdx? (·.1) = none := by rfl) : PG X (.Tuple es k pos) (gTup X.K n t) := by
 intro pins s σ H v u Q I r hw
 obtain ⟨a, xs, e1, hq, hl, hw⟩ := hw
 subst e1
 cases r
 obtain ⟨its, rv, ht, hz⟩ := I.tuple hq
 refine assign_Tuple_tuple (I.ok.hd hc) ht (by simp [hn, ← hl, rv.length]) hst fun h' hx => ?_
 have I1 : Inv X pins σ H { s with heap := h' } := I.kept (t' := s.toks) fun b o e => hx b o (Nat.ne_of_lt (Heap.lt_size e)) e
 exact h pins _ σ H xs _ Q I1 (by simpa using rv) hw
def gSub (to ti : TE) (t : TSet) : TG := fun v σ H Q => to σ H fun o H1 => ti σ H1 fun i H2 => t o i v H2 fun H3 => Q σ H3
theorem pg_sub {o i : Expr} {to ti : TE} {t : TSet} (ho : PE X o to) (hi : PE X i ti) (hs : PSet X t)
   (ha : ∀ v, assign (.Subscript o i pos) X.env v = (do
     let ov ← holding [v] (eval o X.env)
     let iv ← holding [v, ov] (eval i X.env)
     standAt pos
     holding [v, ov, iv] (setItem ov iv v)
     release [v, ov, iv] []) := by intro _; rfl) : PG X (.Subscript o i pos) (gSub to ti t) := by
 intro pins s σ H v u Q I r h
 rw [ha]
 refine wpAny_bind (wpAny_holding (thn (ho pins s σ H _ I h) fun ov s1 ⟨x, H1, I1, r1, q1⟩ => ?_))
 refine wpAny_bind (wpAny_holding (thn (hi pins s1 σ H1 _ I1 q1) fun iv s2 ⟨y, H2, I2, r2, q2⟩ => ?_))
 refine wpAny_bind (wpAny_standAt (wpAny_bind (wpAny_holding (thn (hs pins s2 σ H2 x y v ov iv u _ I2 r1 r2 r q2) fun _ s3 ⟨H3, I3, q3⟩ => ?_))))
 exact wpAny_release ⟨σ, H3, I3, q3⟩
def tAsg (te : TE) (g : TG) : TS := fun D σ H => te σ H fun x H1 => g x σ H1 D.nx
theorem ps_asg {tg e : Expr} {te : TE} {g : TG} (he : PE X e te) (hg : PG X tg g) (hs : swapsWithSole [tg] e pos.line X.env = pure false := by rfl) (hw : swappedStores [tg] e X.env = pure none := by rfl)
   (h1 : (assignEach [tg] X.env).map (·.2) = [assign tg X.env] := by rfl) : PS X (.Assign [tg] e pos) (tAsg te g) := by
 intro pins s σ H D I h
 refine wpAny_Assign_stores (thn (he pins s σ H _ I h) fun v s1 ⟨x, H1, I1, r1, q1⟩ => ?_) hs hw
 rw [h1]
 exact thn (hg pins s1 σ H1 x v _ I1 r1 q1) fun _ s2 q => q
theorem sS {i : Nat} {x : Str} {e : Expr} {te : TE} {pos' : Pos} (hN : X.N.Nodup) (hi : X.N[i]? = some x) (hx : Loc X.env.scope x) (he : PE X e te) (hs : swapsWith e (some (.Name x pos')) pos.line X.env = pure false := by rfl) (hf : X.fn x = true ∨ X.env.scope.names.lookup x = some .local := by first | exact .inl rfl | exact .inr rfl | assumption) :
   PS X (.Assign [.Name x pos'] e pos) (tAsg te (gName i)) := by
 intro pins s σ H D I h
 refine wpAny_Assign_Name (thn (he pins s σ H _ I h) fun v s1 ⟨y, H1, I1, r1, q1⟩ => ?_) hs
 exact store_ok I1 hN hi hx r1 (fun s2 I2 => ⟨_, H1, I2, q1⟩) hf
def tAug (i : Nat) (te : TE) (ti : TIp) : TS := fun D σ H => ∃ x, σ[i]? = some (some x) ∧ te σ H fun y H1 => ti x y H1 fun z H2 => D.nx (σ.set i (some z)) H2
theorem ps_aug {i : Nat} {x : Str} {e : Expr} {te : TE} {op : Operator} {ti : TIp} {pos' : Pos} (hN : X.N.Nodup) (hi : X.N[i]? = some x) (hx : Loc X.env.scope x) (he : PE X e te) (ho : PIp X op ti) (hf : X.fn x = true ∨ X.env.scope.names.lookup x = some .local := by first | exact .inl rfl | exact .inr rfl | assumption) :
   PS X (.AugAssign (.Name x pos') op e pos) (tAug i te ti) := by
 intro pins s σ H D I h
 obtain ⟨v, e1, h⟩ := h
 obtain ⟨m, hn, hl⟩ := I.loc
 have vis : Vis X.env.scope x := by rcases hx with k | k; exact .inl k; exact .inr (.inl k)
 obtain ⟨u, r, l⟩ := hl i x v hi e1 vis
 refine wpAny_AugAssign_Name ?_
 have go : wpAny (model X.prog X.w) X.A (eval e X.env) (fun w s₂ => wpAny (model X.prog X.w) X.A (inplaceOp op u w) (fun r s₃ => wpAny (model X.prog X.w) X.A (storeName X.env x r) (fun _ => SP X pins D .next) X.xe s₃) X.xe s₂) X.xe s := by
   refine thn (he pins s σ H _ I h) fun w s1 ⟨y, H1, I1, r1, q1⟩ => ?_
   refine thn (ho pins s1 σ H1 v y u w _ I1 r r1 q1) fun z s2 ⟨zv, H2, I2, r2, q2⟩ => ?_
   exact store_ok I2 hN hi hx r2 (fun s3 I3 => ⟨_, H2, I3, q2⟩) hf
 rcases l with ⟨hk, hm⟩ | ⟨hk, c, hc, hcell⟩
 · exact wpAny_loadName_local I.ok.kind hk hn hm go
 · rcases hk with hk | hk
   · exact wpAny_loadName_cell I.ok.kind hk hc hcell go
   · rcases hx with k | k
     · have : X.env.scope.names.lookup x = some .free := hk
       rw [k] at this; cases this
     · have : X.env.scope.names.lookup x = some .free := hk
       rw [k] at this; cases this
def ipI (f : Int → Int → Int) : TIp := fun x y H Q => ∃ i j, x = .int i ∧ y = .int j ∧ Q (.int (f i j)) H
theorem ip_add : PIp X .Add (ipI fun i j => i + j) := by
 intro pins s σ H x y v u Q I r1 r2 h
 obtain ⟨i, j, e1, e2, q⟩ := h
 subst e1; subst e2
 obtain ⟨t, rfl⟩ := r1
 obtain ⟨t', rfl⟩ := r2
 exact iadd_int ⟨.int _, H, I.tok _, ⟨_, rfl⟩, q⟩
end
section
variable {X : Cx} {pos : Pos}
def tWhile (c : TT) (tb : TS) : TS := fun D σ H => ∃ W : Nat → St → Hp → Prop, (∃ m, W m σ H) ∧ ∀ m σ H, W m σ H →
 c σ H fun b H1 => if b = true then ∃ N : St → Hp → Prop, (∀ σ' H', N σ' H' → ∃ m', m' < m ∧ W m' σ' H') ∧ tb { D with nx := N, ct := N, bk := D.nx } σ H1 else D.nx σ H1
theorem ps_while {c : Expr} {body : List Stmt} {tc : TT} {tb : TS} (hp : PassesOwn (model X.prog X.w) X.A X.env X.xe) (hc : PT X c tc) (hb : PSs X body tb) : PS X (.While c body [] pos) (tWhile tc tb) := by
 intro pins s σ H D I h
 obtain ⟨W, ⟨m0, w0⟩, turn⟩ := h
 refine wpAny_While (codeAny_whileLoop (fun n s' => ∃ σ' H', Inv X pins σ' H' s' ∧ W n σ' H') ?_ m0 ⟨σ, H, I, w0⟩)
 rintro n s1 ⟨σ1, H1, I1, w1⟩
 refine wpAny_passesOwn hp (thn (hc pins s1 σ1 H1 _ I1 (turn n σ1 H1 w1)) fun b s2 ⟨H2, I2, q2⟩ => ?_)
 cases b with
 | true =>
   obtain ⟨N, hN, q2⟩ := q2
   rw [if_pos rfl]
   refine wpAny_passesOwn hp (thn (hb pins s2 σ1 H2 _ I2 q2) fun f s3 q3 => ?_)
   cases f with
   | next =>
     obtain ⟨σ3, H3, I3, n3⟩ := q3
     obtain ⟨m', hm, w3⟩ := hN σ3 H3 n3
     exact ⟨m', hm, σ3, H3, I3, w3⟩
   | cont =>
     obtain ⟨σ3, H3, I3, n3⟩ := q3
     obtain ⟨m', hm, w3⟩ := hN σ3 H3 n3
     exact ⟨m', hm, σ3, H3, I3, w3⟩
   | brk => exact q3
   | ret v => exact q3
 | false =>
   rw [if_neg Bool.false_ne_true]
   exact wpAny_execs_nil ⟨σ1, H2, I2, q2⟩
end
structure It where
 go : Nat → Hp → Prop
 yld : Nat → Hp → V → Hp → Prop
 stop : Nat → Hp → Prop
def FpOk (X : Cx) (pins : List (Addr × Obj)) (H : Hp) (b : Addr) : Prop :=
 H b = none ∧ b ≠ X.env.locals ∧ b ∉ X.fs ∧ (b ∈ X.ex ∨ X.s₀.heap.objs.size ≤ b) ∧ (∀ x c, X.env.cells.lookup x = some c → c ≠ b) ∧ ∀ p ∈ X.pn ++ pins, p.1 ≠ b
theorem Inv.fpOk {X : Cx} {pins : List (Addr × Obj)} {σ : St} {H H' : Hp} {s : Shared} {b : Addr} (I : Inv X pins σ H s) (hb : s.heap.objs.size ≤ b) (hn : H' b = none) : FpOk X pins H' b := by
 refine ⟨hn, Nat.ne_of_gt (Nat.lt_of_lt_of_le I.lt hb), I.nofs hb, .inr (Nat.le_trans I.sz hb), fun x c e z => ?_, fun p hp z => ?_⟩
 · obtain ⟨v, q⟩ := I.cell x c e
   exact absurd (Nat.lt_of_lt_of_le q.lt (by rw [z]; exact hb)) (Nat.lt_irrefl _)
 · exact absurd (Nat.lt_of_lt_of_le (Heap.lt_size (I.pin p hp).1) (by rw [z]; exact hb)) (Nat.lt_irrefl _)
structure Turn (P : Program) (w : World) (K : W.Frag) (tg : Expr) (J : It) (fp : List Addr) (it : Addr) (tn : Nat → Heap → Prop) : Prop where
 mem : it ∈ fp
 obj : ∀ i h, tn i h → ∀ b ∈ fp, ∃ o, h.get? b = some o ∧ ∀ v, o.data ≠ .cell v
 keep : ∀ i h h', tn i h → (∀ b ∈ fp, ∀ o, h.get? b = some o → h'.get? b = some o) → tn i h'
 item : ∀ (X : Cx), X.prog = P → X.w = w → X.K = K → X.calm = true → ∀ (i : Nat) (pins : List (Addr × Obj)) (s : Shared) (σ : St) (H : Hp) (E : Value → Shared → Prop), Inv X pins σ H s → (∀ b ∈ fp, FpOk X pins H b) → tn i s.heap → J.go i H →
   wpAny (model P w) X.A (pyNext (.ref it)) (fun r s1 => ∃ u, r = some u ∧
     wpAny (model P w) X.A (letOwnedTupleGo tg (.ref it) u) (fun _ s2 => ∃ x H', Inv X pins σ H' s2 ∧ RelV x u ∧ J.yld i H x H' ∧ tn (i + 1) s2.heap ∧ ∀ b ∈ fp, H' b = none) E s1) E s
 done : ∀ (X : Cx), X.prog = P → X.w = w → X.K = K → X.calm = true → ∀ (i : Nat) (pins : List (Addr × Obj)) (s : Shared) (σ : St) (H : Hp) (E : Value → Shared → Prop), Inv X pins σ H s → (∀ b ∈ fp, FpOk X pins H b) → tn i s.heap → J.stop i H →
   wpAny (model P w) X.A (pyNext (.ref it)) (fun r s1 => r = none ∧ Inv X pins σ H s1) E s
 self : ∀ (A : Around) (i : Nat) (s : Shared) (Q : Value → Shared → Prop) (E : Value → Shared → Prop), tn i s.heap → Q (.ref it) s → wpAny (model P w) A (pyIter (.ref it)) Q E s
abbrev TI := St → Hp → (It → Hp → Prop) → Prop
def PIE (X : Cx) (pins : List (Addr × Obj)) (σ : St) (tg : Expr) (R : It → Hp → Prop) (itv : Value) (s2 : Shared) : Prop :=
 ∃ (it : Addr) (fp : List Addr) (tn : Nat → Heap → Prop) (J : It) (H' : Hp), itv = .ref it ∧ Inv X pins σ H' s2 ∧ Turn X.prog X.w X.K tg J fp it tn ∧ tn 0 s2.heap ∧ (∀ b ∈ fp, FpOk X pins H' b) ∧ R J H'
def PI (X : Cx) (tg iter : Expr) (wi : TI) : Prop :=
 ∀ (pins : List (Addr × Obj)) (s : Shared) (σ : St) (H : Hp) (R : It → Hp → Prop), Inv X pins σ H s → wi σ H R →
   wpAny (model X.prog X.w) X.A (eval iter X.env) (fun v s1 => wpAny (model X.prog X.w) X.A (pyIter v) (PIE X pins σ tg R) X.xe s1) X.xe s
theorem go_of {M : Model} {A : Around} {E : Value → Shared → Prop} {s : Shared} {tg : Expr} {it : Addr} {u : Value} {o : Obj} {n : String} {vs : Array Value} {Q : Unit → Shared → Prop} (ho : s.heap.get? it = some o) (hc : o.cls = .type n) (hd : o.data = .fields vs)
   (hn : ["enumerate", "zip", "dict_itemiterator", "dict_reverseitemiterator", "odict_iterator", "itertools.zip_longest", "itertools.pairwise"].contains n = false) (hQ : Q () s) : wpAny M A (letOwnedTupleGo tg (.ref it) u) Q E s := by
 unfold letOwnedTupleGo
 cases tg <;> first
   | exact wpAny_pure hQ
   | (cases u <;> first
       | exact wpAny_pure hQ
       | (refine wpAny_bind (wpAny_load ho ?_)
          rw [hc, hd]
          show wpAny M A (if (["enumerate", "zip", "dict_itemiterator", "dict_reverseitemiterator", "odict_iterator", "itertools.zip_longest", "itertools.pairwise"].contains n && vs[0]? == some (rawInt _)) = true then _ else _) Q E s
          rw [if_neg (by intro h; rw [hn, Bool.false_and] at h; cases h)]
          exact wpAny_pure hQ))
def Itl (K : W.Frag) (a : Addr) : It :=
 ⟨fun i H => ∃ xs x, SqL K H a xs ∧ xs[i]? = some x, fun i H x H' => H' = H ∧ ∀ xs, SqL K H a xs → xs[i]? = some x, fun i H => ∃ xs, SqL K H a xs ∧ xs.length ≤ i⟩
def Itt (K : W.Frag) (a : Addr) : It :=
 ⟨fun i H => ∃ xs x, SqT K H a xs ∧ xs[i]? = some x, fun i H x H' => H' = H ∧ ∀ xs, SqT K H a xs → xs[i]? = some x, fun i H => ∃ xs, SqT K H a xs ∧ xs.length ≤ i⟩
def Itr (lo : Int) (n : Nat) : It := ⟨fun i _ => i < n, fun i H x H' => H' = H ∧ x = .int (lo + i), fun i _ => n ≤ i⟩
theorem turn_list {P : Program} {w : World} {K : W.Frag} {tg : Expr} (a it : Addr) : Turn P w K tg (Itl K a) [it] it (fun i h => h.IsListIter it a i) where
 mem := by simp
 obj := fun i h st b hb => by
   have e : b = it := by simpa using hb
   subst e
   obtain ⟨o, e, c, d⟩ := st
   exact ⟨o, e, fun v z => by rw [d] at z; cases z⟩
 keep := fun i h h' st k => st.at fun o e => k it (by simp) o e
 item := by
   intro X hP hw hK hc i pins s σ H E I hf st hg
   subst hP hw hK
   obtain ⟨xs, x, hq, hx⟩ := hg
   obtain ⟨its, rv, p, hz⟩ := I.list hq
   obtain ⟨u, hu, ru⟩ := rv.get hx
   obtain ⟨f0, f1, f2, f3, f4, f5⟩ := hf it (by simp)
   refine wpAny_pyNext_list_item st p.isList (x := u) (by simpa using hu) fun h' st' sb => ?_
   have I1 : Inv X pins σ H { s with heap := h' } := I.turned (t' := s.toks) (fun b o hb e => (sb.2 b hb).trans e) f0 f1 f3 f4 f5
   obtain ⟨o, e, c, d⟩ := id st'
   exact ⟨u, rfl, go_of (s := { s with heap := h' }) e c d (by decide) ⟨x, H, I1, ru, ⟨rfl, fun ys hy => by rw [I.list_inj hy hq]; exact hx⟩, st', fun b hb => (hf b hb).1⟩⟩
 done := by
   intro X hP hw hK hc i pins s σ H E I hf st hg
   subst hP hw hK
   obtain ⟨xs, hq, hx⟩ := hg
   obtain ⟨its, rv, p, hz⟩ := I.list hq
   obtain ⟨f0, f1, f2, f3, f4, f5⟩ := hf it (by simp)
   have hl := rv.length
   exact wpAny_pyNext_list_end (I.ok.hd hc) st p.isList (by simp; omega) fun h' eb => ⟨rfl, I.turned (t' := s.toks) (fun b o hb e => eb b o hb e) f0 f1 f3 f4 f5⟩
 self := fun _ _ _ _ _ st h => wpAny_pyIter_listiter st h
theorem turn_tuple {P : Program} {w : World} {K : W.Frag} {tg : Expr} (a it : Addr) : Turn P w K tg (Itt K a) [it] it (fun i h => h.IsTupleIter it a i) where
 mem := by simp
 obj := fun i h st b hb => by
   have e : b = it := by simpa using hb
   subst e
   obtain ⟨o, e, c, d⟩ := st
   exact ⟨o, e, fun v z => by rw [d] at z; cases z⟩
 keep := fun i h h' st k => st.at fun o e => k it (by simp) o e
 item := by
   intro X hP hw hK hc i pins s σ H E I hf st hg
   subst hP hw hK
   obtain ⟨xs, x, hq, hx⟩ := hg
   obtain ⟨its, rv, p, hz⟩ := I.tuple hq
   obtain ⟨u, hu, ru⟩ := rv.get hx
   obtain ⟨f0, f1, f2, f3, f4, f5⟩ := hf it (by simp)
   refine wpAny_pyNext_tuple_item st (show s.heap.IsTuple a its.toArray from p) (x := u) (by simpa using hu) fun h' st' sb => ?_
   have I1 : Inv X pins σ H { s with heap := h' } := I.turned (t' := s.toks) (fun b o hb e => (sb.2 b hb).trans e) f0 f1 f3 f4 f5
   obtain ⟨o, e, c, d⟩ := id st'
   exact ⟨u, rfl, go_of (s := { s with heap := h' }) e c d (by decide) ⟨x, H, I1, ru, ⟨rfl, fun ys hy => by rw [I.tuple_inj hy hq]; exact hx⟩, st', fun b hb => (hf b hb).1⟩⟩
 done := by
   intro X hP hw hK hc i pins s σ H E I hf st hg
   subst hP hw hK
   obtain ⟨xs, hq, hx⟩ := hg
   obtain ⟨its, rv, p, hz⟩ := I.tuple hq
   obtain ⟨f0, f1, f2, f3, f4, f5⟩ := hf it (by simp)
   have hl := rv.length
   exact wpAny_pyNext_tuple_end (I.ok.hd hc) st (show s.heap.IsTuple a its.toArray from p) (by simp; omega) fun h' eb => ⟨rfl, I.turned (t' := s.toks) (fun b o hb e => eb b o hb e) f0 f1 f3 f4 f5⟩
 self := fun _ _ _ _ _ st h => wpAny_pyIter_tupleiter st h
theorem turn_range {P : Program} {w : World} {K : W.Frag} {tg : Expr} (it : Addr) (lo : Int) (n : Nat) : Turn P w K tg (Itr lo n) [it] it (fun i h => IsRangeIter h it (lo + (i : Nat) * 1) ((n : Int) - (i : Nat)) 1) where
 mem := by simp
 obj := fun i h st b hb => by
   have e : b = it := by simpa using hb
   subst e
   exact ⟨_, st, fun v z => by
     have z' : Data.fields _ = Data.cell v := z
     cases z'⟩
 keep := fun i h h' st k => k it (by simp) _ st
 item := by
   intro X hP hw hK hc i pins s σ H E I hf st hg
   subst hP hw hK
   obtain ⟨f0, f1, f2, f3, f4, f5⟩ := hf it (by simp)
   have W := Walks.range (prog := X.prog) (w := X.w) (I.ok.hd hc) it lo 1 n
   refine W.item i s _ _ hg st fun v h' tk hv st' kk => ?_
   obtain ⟨t, rfl⟩ := hv
   have I1 : Inv X pins σ H { s with heap := h', toks := tk } := I.turned (fun b o hb e => kk b o (by simpa using hb) e) f0 f1 f3 f4 f5
   refine ⟨_, rfl, go_of (s := { s with heap := h', toks := tk }) (n := "range_iterator") st' rfl rfl (by decide) ⟨.int (lo + i), H, I1, ⟨t, ?_⟩, ⟨rfl, rfl⟩, st', fun b hb => (hf b hb).1⟩⟩
   rw [Int.mul_one]
 done := by
   intro X hP hw hK hc i pins s σ H E I hf st hg
   subst hP hw hK
   obtain ⟨f0, f1, f2, f3, f4, f5⟩ := hf it (by simp)
   exact wpAny_pyNext_range_end (I.ok.hd hc) st (by have : n ≤ i := hg; omega) fun h' eb => ⟨rfl, I.turned (t' := s.toks) (fun b o hb e => eb b o hb e) f0 f1 f3 f4 f5⟩
 self := fun _ _ _ _ _ st h => wpAny_pyIter_rangeiter st h
end L2
namespace L2
open PySem PySem.Spec PyProof.Rows
section
variable {X : Cx} {tg : Expr}
def iList (K : W.Frag) (tl : TE) : TI := fun σ H R => tl σ H fun x H1 => ∃ a, x = .ref a ∧ (∃ xs, SqL K H1 a xs) ∧ R (Itl K a) H1
def iTup (K : W.Frag) (tl : TE) : TI := fun σ H R => tl σ H fun x H1 => ∃ a, x = .ref a ∧ (∃ xs, SqT K H1 a xs) ∧ R (Itt K a) H1
theorem pi_list {l : Expr} {tl : TE} (hl : PE X l tl) : PI X tg l (iList X.K tl) := by
 intro pins s σ H R I h
 refine thn (hl pins s σ H _ I h) fun v s1 ⟨x, H1, I1, r1, q1⟩ => ?_
 obtain ⟨a, e, ⟨xs, hq⟩, q⟩ := q1
 subst e
 cases r1
 obtain ⟨its, rv, p, hz⟩ := I1.list hq
 refine wpAny_pyIter_list p.isList ?_
 refine ⟨s1.heap.objs.size, [s1.heap.objs.size], _, _, H1, rfl, I1.kept (t' := s1.toks) fun b o e => Heap.get?_push_of_some _ e, turn_list a _, ⟨_, Heap.get?_push_size _ rfl, rfl, rfl⟩, fun b hb => ?_, q⟩
 have e : b = s1.heap.objs.size := by simpa using hb
 subst e
 exact I1.fpOk (Nat.le_refl _) (I1.hok.fresh (Nat.le_refl _))
theorem pi_tup {l : Expr} {tl : TE} (hl : PE X l tl) : PI X tg l (iTup X.K tl) := by
 intro pins s σ H R I h
 refine thn (hl pins s σ H _ I h) fun v s1 ⟨x, H1, I1, r1, q1⟩ => ?_
 obtain ⟨a, e, ⟨xs, hq⟩, q⟩ := q1
 subst e
 cases r1
 obtain ⟨its, rv, p, hz⟩ := I1.tuple hq
 refine wpAny_pyIter_tuple (show s1.heap.IsTuple a its.toArray from p) ?_
 refine ⟨s1.heap.objs.size, [s1.heap.objs.size], _, _, H1, rfl, I1.kept (t' := s1.toks) fun b o e => Heap.get?_push_of_some _ e, turn_tuple a _, ⟨_, Heap.get?_push_size _ rfl, rfl, rfl⟩, fun b hb => ?_, q⟩
 have e : b = s1.heap.objs.size := by simpa using hb
 subst e
 exact I1.fpOk (Nat.le_refl _) (I1.hok.fresh (Nat.le_refl _))
theorem range_it {pins : List (Addr × Obj)} {σ : St} {H : Hp} {s : Shared} {R : It → Hp → Prop} {E : Value → Shared → Prop} {lo hi : Int} {t u v : Tok} {tk : Nat} (I : Inv X pins σ H s) (h1 : -(2 ^ 62) ≤ lo) (h2 : lo < 2 ^ 62) (h3 : -(2 ^ 62) ≤ hi) (h4 : hi < 2 ^ 62)
   (q : R (Itr lo (hi - lo).toNat) H) : wpAny (model X.prog X.w) X.A (pyIter (.ref s.heap.objs.size)) (PIE X pins σ tg R) E { s with heap := s.heap.push { cls := .type "range", data := .fields #[.int lo t, .int hi u, .int 1 v] }, toks := tk } := by
 refine wpAny_pyIter_range (IsRange.new ..) (small_one h1 h2 h3 h4) ?_
 have I1 : Inv X pins σ H { s with heap := s.heap.push { cls := .type "range", data := .fields #[.int lo t, .int hi u, .int 1 v] }, toks := tk } := I.kept fun b o e => Heap.get?_push_of_some _ e
 refine ⟨(s.heap.push { cls := .type "range", data := .fields #[.int lo t, .int hi u, .int 1 v] }).objs.size, [(s.heap.push { cls := .type "range", data := .fields #[.int lo t, .int hi u, .int 1 v] }).objs.size], _, _, H, rfl,
   I1.kept (t' := tk) fun b o e => Heap.get?_push_of_some _ e, turn_range _ lo (hi - lo).toNat, ?_, fun b hb => ?_, q⟩
 · have e1 : lo + ((0 : Nat) : Int) * 1 = lo := by simp
   have e2 : (((hi - lo).toNat : Nat) : Int) - ((0 : Nat) : Int) = Builtin.Range.rangeSize lo hi 1 := by rw [rangeSize_one]; split <;> omega
   show IsRangeIter _ _ (lo + ((0 : Nat) : Int) * 1) ((((hi - lo).toNat : Nat) : Int) - ((0 : Nat) : Int)) 1
   rw [e1, e2]
   exact Heap.get?_push_size _ rfl
 · have e : b = (s.heap.push { cls := .type "range", data := .fields #[.int lo t, .int hi u, .int 1 v] }).objs.size := by simpa using hb
   subst e
   exact I1.fpOk (Nat.le_refl _) (I1.hok.fresh (Nat.le_refl _))
def iRng1 (ta : TA) : TI := fun σ H R => ta σ H fun vs H1 => ∃ j : Int, vs = [.int j] ∧ -(2 ^ 62) ≤ j ∧ j < 2 ^ 62 ∧ R (Itr 0 j.toNat) H1
theorem pi_range1 {a : Expr} {ta : TA} {p pos : Pos} (hg : Gl X "range") (hm : X.mg "range" = none) (ha : PA X [a] ta) (hs : starEach [a] X.env = [(false, eval a X.env)] := by rfl) : PI X tg (.Call (.Name "range" p) [a] [] pos) (iRng1 ta) := by
 intro pins s σ H R I h
 refine Call_ (ld_blt I hg hm boot_range (PyProof.Rows.callWith_type1 (thn (ha pos pins s σ H _ I h) fun us s1 ⟨vs, H1, I1, r1, q1⟩ => ?_) hs rfl))
 obtain ⟨j, e, q1, q2, q⟩ := q1
 subst e
 cases r1 with
 | cons r rr =>
   cases rr
   obtain ⟨t, rfl⟩ := r
   exact call_range_1 (range_it I1 (by omega) (by omega) q1 q2 (by simpa using q))
def tFor (wi : TI) (g : TG) (tb : TS) : TS := fun D σ H => wi σ H fun J H1 => ∃ W : Nat → Nat → St → Hp → Prop, (∃ m, W 0 m σ H1) ∧ ∀ i m σ H, W i m σ H →
 (J.stop i H ∧ D.nx σ H) ∨ (J.go i H ∧ ∃ N : St → Hp → Prop, (∀ σ' H', N σ' H' → ∃ m', m' < m ∧ W (i + 1) m' σ' H') ∧ ∀ x H', J.yld i H x H' → g x σ H' fun σ2 H2 => tb { D with nx := N, ct := N, bk := D.nx } σ2 H2)
def pinsAt (fp : List Addr) (h : Heap) : List (Addr × Obj) := fp.filterMap fun b => (h.get? b).map fun o => (b, o)
theorem mem_pinsAt {fp : List Addr} {h : Heap} {b : Addr} {o : Obj} (hb : b ∈ fp) (e : h.get? b = some o) : (b, o) ∈ pinsAt fp h := List.mem_filterMap.mpr ⟨b, hb, by rw [e]; rfl⟩
theorem of_pinsAt {fp : List Addr} {h : Heap} {p : Addr × Obj} (hp : p ∈ pinsAt fp h) : p.1 ∈ fp ∧ h.get? p.1 = some p.2 := by
 obtain ⟨b, hb, e⟩ := List.mem_filterMap.mp hp
 cases q : h.get? b with
 | none => rw [q] at e; cases e
 | some o =>
   rw [q] at e
   have e' : (b, o) = p := Option.some.inj e
   subst e'
   exact ⟨hb, q⟩
theorem Inv.pinned {pins : List (Addr × Obj)} {σ : St} {H : Hp} {s : Shared} {fp : List Addr} (I : Inv X pins σ H s) (hf : ∀ b ∈ fp, FpOk X pins H b) (ho : ∀ b ∈ fp, ∃ o, s.heap.get? b = some o ∧ ∀ v, o.data ≠ .cell v) : Inv X (pins ++ pinsAt fp s.heap) σ H s :=
 I.pins_of fun p hp => (List.mem_append.mp hp).elim (fun z => I.pin p (List.mem_append_right _ z)) fun z => by
   obtain ⟨hb, e⟩ := of_pinsAt z
   obtain ⟨f0, f1, f2, _⟩ := hf p.1 hb
   obtain ⟨o, e', d⟩ := ho p.1 hb
   rw [e] at e'; cases e'
   exact ⟨e, f0, f1, f2, d⟩
theorem Inv.unpinned {pins pl : List (Addr × Obj)} {σ : St} {H : Hp} {s : Shared} (I : Inv X (pins ++ pl) σ H s) : Inv X pins σ H s := I.pins_of fun p hp => I.pin p (List.mem_append_right _ (List.mem_append_left _ hp))
theorem ps_for {iter : Expr} {body : List Stmt} {wi : TI} {g : TG} {tb : TS} {pos : Pos} (hp : PassesOwn (model X.prog X.w) X.A X.env X.xe) (hc : X.calm = true) (hi : PI X tg iter wi) (hg : PG X tg g) (hb : PSs X body tb)
   (hs : ∀ x, foldedSetIterable iter X.env x = pure x := by intro _; rfl) : PS X (.For tg iter body [] pos) (tFor wi g tb) := by
 intro pins s σ H D I h
 refine wpAny_For (thn (hi pins s σ H _ I h) fun v s1 h1 => thn h1 fun itv s2 h2 => ?_) hs
 obtain ⟨it, fp, tn, J, H2, e, I2, T, st2, f2, W, ⟨m0, w0⟩, turn⟩ := h2
 subst e
 have stat : ∀ {H' : Hp}, (∀ b ∈ fp, H' b = none) → ∀ b ∈ fp, FpOk X pins H' b := fun hn b hb => ⟨hn b hb, (f2 b hb).2⟩
 refine codeAny_forLoop_any (fun n s' => ∃ i σ' H', Inv X pins σ' H' s' ∧ tn i s'.heap ∧ (∀ b ∈ fp, H' b = none) ∧ W i n σ' H') ?_ m0 ⟨0, σ, H2, I2, st2, fun b hb => (f2 b hb).1, w0⟩
 rintro n s3 ⟨i, σ3, H3, I3, st3, fr3, w3⟩
 rcases turn i n σ3 H3 w3 with ⟨stop, qn⟩ | ⟨go, N, hN, step⟩
 · refine wpAny_passesOwn hp (thn (T.done X rfl rfl rfl hc i pins s3 σ3 H3 X.xe I3 (stat fr3) st3 stop) fun r s4 ⟨hr, I4⟩ => ?_)
   subst hr
   exact wpAny_execs_nil ⟨σ3, H3, I4, qn⟩
 · refine wpAny_passesOwn hp (thn (T.item X rfl rfl rfl hc i pins s3 σ3 H3 X.xe I3 (stat fr3) st3 go) fun r s4 ⟨u, hr, h4⟩ => ?_)
   subst hr
   refine wpAny_passesOwn hp (thn h4 fun _ s5 ⟨x, H5, I5, r5, y5, st5, fr5⟩ => ?_)
   have I5' := I5.pinned (stat fr5) (T.obj _ _ st5)
   refine wpAny_passesOwn hp (thn (hg _ s5 σ3 H5 x u _ I5' r5 (step x H5 y5)) fun _ s6 ⟨σ6, H6, I6, q6⟩ => ?_)
   refine wpAny_passesOwn hp (thn (hb _ s6 σ6 H6 _ I6 q6) fun f s7 q7 => ?_)
   have again : ∀ {σ7 : St} {H7 : Hp}, Inv X (pins ++ pinsAt fp s5.heap) σ7 H7 s7 → N σ7 H7 → ∃ m, m < n ∧ ∃ i σ' H', Inv X pins σ' H' s7 ∧ tn i s7.heap ∧ (∀ b ∈ fp, H' b = none) ∧ W i m σ' H' := fun {σ7 H7} I7 n7 => by
     obtain ⟨m', hm, w7⟩ := hN σ7 H7 n7
     refine ⟨m', hm, i + 1, σ7, H7, I7.unpinned, T.keep _ _ _ st5 fun b hb o e => (I7.pin (b, o) (List.mem_append_right _ (List.mem_append_right _ (mem_pinsAt hb e)))).1, fun b hb => ?_, w7⟩
     obtain ⟨o, e, d⟩ := T.obj _ _ st5 b hb
     exact (I7.pin (b, o) (List.mem_append_right _ (List.mem_append_right _ (mem_pinsAt hb e)))).2.1
   cases f with
   | next => obtain ⟨σ7, H7, I7, n7⟩ := q7; exact again I7 n7
   | cont => obtain ⟨σ7, H7, I7, n7⟩ := q7; exact again I7 n7
   | brk => obtain ⟨σ7, H7, I7, q7⟩ := q7; exact ⟨σ7, H7, I7.unpinned, q7⟩
   | ret v => obtain ⟨x7, σ7, H7, I7, r7, q7⟩ := q7; exact ⟨x7, σ7, H7, I7.unpinned, r7, q7⟩
end
theorem for_list {K : W.Frag} {a : Addr} {xs : List V} {g : TG} {tb : TS} {D : Ends} {σ : St} {H : Hp} (Pv : Nat → St → Hp → Prop) (h0 : Pv 0 σ H) (hl : ∀ i σ H, i ≤ xs.length → Pv i σ H → SqL K H a xs)
   (hs : ∀ i x σ H, xs[i]? = some x → Pv i σ H → g x σ H fun σ2 H2 => tb { D with nx := Pv (i + 1), ct := Pv (i + 1), bk := D.nx } σ2 H2) (hd : ∀ σ H, Pv xs.length σ H → D.nx σ H) :
   ∃ W : Nat → Nat → St → Hp → Prop, (∃ m, W 0 m σ H) ∧ ∀ i m σ H, W i m σ H →
     ((Itl K a).stop i H ∧ D.nx σ H) ∨ ((Itl K a).go i H ∧ ∃ N : St → Hp → Prop, (∀ σ' H', N σ' H' → ∃ m', m' < m ∧ W (i + 1) m' σ' H') ∧ ∀ x H', (Itl K a).yld i H x H' → g x σ H' fun σ2 H2 => tb { D with nx := N, ct := N, bk := D.nx } σ2 H2) := by
 refine ⟨fun i m σ H => m = xs.length - i ∧ i ≤ xs.length ∧ Pv i σ H, ⟨xs.length, by simp, Nat.zero_le _, h0⟩, ?_⟩
 rintro i m σ H ⟨rfl, hi, p⟩
 have q := hl i σ H hi p
 by_cases hlt : i < xs.length
 · refine .inr ⟨⟨xs, xs[i], q, by simp [hlt]⟩, Pv (i + 1), fun σ' H' p' => ⟨xs.length - (i + 1), by omega, rfl, hlt, p'⟩, fun x H' y => ?_⟩
   obtain ⟨e, y⟩ := y
   subst e
   exact hs i x σ _ (y xs q) p
 · have e : i = xs.length := by omega
   subst e
   exact .inl ⟨⟨xs, q, Nat.le_refl _⟩, hd σ H p⟩
theorem for_tup {K : W.Frag} {a : Addr} {xs : List V} {g : TG} {tb : TS} {D : Ends} {σ : St} {H : Hp} (Pv : Nat → St → Hp → Prop) (h0 : Pv 0 σ H) (hl : ∀ i σ H, i ≤ xs.length → Pv i σ H → SqT K H a xs)
   (hs : ∀ i x σ H, xs[i]? = some x → Pv i σ H → g x σ H fun σ2 H2 => tb { D with nx := Pv (i + 1), ct := Pv (i + 1), bk := D.nx } σ2 H2) (hd : ∀ σ H, Pv xs.length σ H → D.nx σ H) :
   ∃ W : Nat → Nat → St → Hp → Prop, (∃ m, W 0 m σ H) ∧ ∀ i m σ H, W i m σ H →
     ((Itt K a).stop i H ∧ D.nx σ H) ∨ ((Itt K a).go i H ∧ ∃ N : St → Hp → Prop, (∀ σ' H', N σ' H' → ∃ m', m' < m ∧ W (i + 1) m' σ' H') ∧ ∀ x H', (Itt K a).yld i H x H' → g x σ H' fun σ2 H2 => tb { D with nx := N, ct := N, bk := D.nx } σ2 H2) := by
 refine ⟨fun i m σ H => m = xs.length - i ∧ i ≤ xs.length ∧ Pv i σ H, ⟨xs.length, by simp, Nat.zero_le _, h0⟩, ?_⟩
 rintro i m σ H ⟨rfl, hi, p⟩
 have q := hl i σ H hi p
 by_cases hlt : i < xs.length
 · refine .inr ⟨⟨xs, xs[i], q, by simp [hlt]⟩, Pv (i + 1), fun σ' H' p' => ⟨xs.length - (i + 1), by omega, rfl, hlt, p'⟩, fun x H' y => ?_⟩
   obtain ⟨e, y⟩ := y
   subst e
   exact hs i x σ _ (y xs q) p
 · have e : i = xs.length := by omega
   subst e
   exact .inl ⟨⟨xs, q, Nat.le_refl _⟩, hd σ H p⟩
theorem for_range {lo : Int} {n : Nat} {g : TG} {tb : TS} {D : Ends} {σ : St} {H : Hp} (Pv : Nat → St → Hp → Prop) (h0 : Pv 0 σ H)
   (hs : ∀ i σ H, i < n → Pv i σ H → g (.int (lo + i)) σ H fun σ2 H2 => tb { D with nx := Pv (i + 1), ct := Pv (i + 1), bk := D.nx } σ2 H2) (hd : ∀ σ H, Pv n σ H → D.nx σ H) :
   ∃ W : Nat → Nat → St → Hp → Prop, (∃ m, W 0 m σ H) ∧ ∀ i m σ H, W i m σ H →
     ((Itr lo n).stop i H ∧ D.nx σ H) ∨ ((Itr lo n).go i H ∧ ∃ N : St → Hp → Prop, (∀ σ' H', N σ' H' → ∃ m', m' < m ∧ W (i + 1) m' σ' H') ∧ ∀ x H', (Itr lo n).yld i H x H' → g x σ H' fun σ2 H2 => tb { D with nx := N, ct := N, bk := D.nx } σ2 H2) := by
 refine ⟨fun i m σ H => m = n - i ∧ i ≤ n ∧ Pv i σ H, ⟨n, by simp, Nat.zero_le _, h0⟩, ?_⟩
 rintro i m σ H ⟨rfl, hi, p⟩
 by_cases hlt : i < n
 · refine .inr ⟨hlt, Pv (i + 1), fun σ' H' p' => ⟨n - (i + 1), by omega, rfl, hlt, p'⟩, fun x H' y => ?_⟩
   obtain ⟨e, y⟩ := y
   subst e y
   exact hs i σ _ hlt p
 · have e : i = n := by omega
   subst e
   exact .inl ⟨Nat.le_refl _, hd σ H p⟩
end L2
namespace L2
open PySem PySem.Spec PyProof.Rows
abbrev R2 := V → V → Hp → VK → Prop
def OpR (X : Cx) (f : Value → Value → Sem Value) (r : R2) : Prop :=
 ∀ (pins : List (Addr × Obj)) (s : Shared) (σ : St) (H : Hp) (x y : V) (v u : Value) (Q : VK), Inv X pins σ H s → RelV x v → RelV y u → r x y H Q →
   wpAny (model X.prog X.w) X.A (f v u) (EP X pins σ Q) X.xe s
def UnR (X : Cx) (f : Value → Sem Value) (r : V → Hp → VK → Prop) : Prop :=
 ∀ (pins : List (Addr × Obj)) (s : Shared) (σ : St) (H : Hp) (x : V) (v : Value) (Q : VK), Inv X pins σ H s → RelV x v → r x H Q →
   wpAny (model X.prog X.w) X.A (f v) (EP X pins σ Q) X.xe s
def CallR (X : Cx) (f : Value) (r : List V → Hp → VK → Prop) : Prop :=
 ∀ (pins : List (Addr × Obj)) (s : Shared) (σ : St) (H : Hp) (xs : List V) (us : List Value) (Q : VK), Inv X pins σ H s → Vals xs us → r xs H Q →
   wpAny (model X.prog X.w) X.A (call f us) (EP X pins σ Q) X.xe s
def tOp (r : R2) (ta tb : TE) : TE := fun σ H Q => ta σ H fun x H1 => tb σ H1 fun y H2 => r x y H2 Q
def tUn (r : V → Hp → VK → Prop) (ta : TE) : TE := fun σ H Q => ta σ H fun x H1 => r x H1 Q
def rI (C : Int → Int → Prop) (g : Int → Int → V) : R2 := fun x y H Q => ∃ i j, x = .int i ∧ y = .int j ∧ C i j ∧ Q (g i j) H
def rI0 (g : Int → Int → V) : R2 := fun x y H Q => ∃ i j, x = .int i ∧ y = .int j ∧ Q (g i j) H
def rU (g : Int → V) : V → Hp → VK → Prop := fun x H Q => ∃ i, x = .int i ∧ Q (g i) H
section
variable {X : Cx} {a b c : Expr} {ta tb tc : TE} {pos : Pos}
theorem binT (ha : PE X a ta) (hb : PE X b tb) {pins : List (Addr × Obj)} {s : Shared} {σ : St} {H : Hp} {R : V → V → Hp → Prop} (I : Inv X pins σ H s)
   (h : ta σ H fun x H1 => tb σ H1 fun y H2 => R x y H2) {Q : Value → Shared → Prop} {f : Value → Value → Sem Value}
   (hf : ∀ v u s2 x y H2, Inv X pins σ H2 s2 → RelV x v → RelV y u → R x y H2 → wpAny (model X.prog X.w) X.A (f v u) Q X.xe s2) :
   wpAny (model X.prog X.w) X.A (eval a X.env) (fun v s₁ => wpAny (model X.prog X.w) X.A (eval b X.env) (fun u s₂ => wpAny (model X.prog X.w) X.A (f v u) Q X.xe s₂) X.xe s₁) X.xe s := by
 refine thn (ha pins s σ H _ I h) fun v s1 ⟨x, H1, I1, r1, q1⟩ => ?_
 refine thn (hb pins s1 σ H1 _ I1 q1) fun u s2 ⟨y, H2, I2, r2, q2⟩ => ?_
 exact hf v u s2 x y H2 I2 r1 r2 q2
theorem pe_op {op : Operator} {r : R2} (ho : OpR X (binaryOp op) r) (ha : PE X a ta) (hb : PE X b tb) : PE X (.BinOp a op b pos) (tOp r ta tb) := by
 intro pins s σ H Q I h
 exact wpAny_BinOp (binT ha hb I h fun v u s2 x y H2 I2 rx ry q => ho pins s2 σ H2 x y v u Q I2 rx ry q)
theorem pe_un {op : UnaryOp} {r : V → Hp → VK → Prop} (ho : UnR X (unaryOp op) r) (ha : PE X a ta) : PE X (.UnaryOp op a pos) (tUn r ta) := by
 intro pins s σ H Q I h
 exact UnaryOp_ (thn (ha pins s σ H _ I h) fun v s1 ⟨x, H1, I1, r1, q1⟩ => ho pins s1 σ H1 x v Q I1 r1 q1)
theorem opI {f : Value → Value → Sem Value} {C : Int → Int → Prop} {g : Int → Int → Int}
   (rule : ∀ (i j : Int) (t u : Tok) (s : Shared) (Q : Value → Shared → Prop) (E : Value → Shared → Prop), C i j → Q (.int (g i j) s.toks) { s with toks := s.toks + 1 } → wpAny (model X.prog X.w) X.A (f (.int i t) (.int j u)) Q E s) :
   OpR X f (rI C fun i j => .int (g i j)) := by
 intro pins s σ H x y v u Q I rx ry h
 obtain ⟨i, j, rfl, rfl, hc, q⟩ := h
 obtain ⟨t, rfl⟩ := rx
 obtain ⟨t', rfl⟩ := ry
 exact rule i j t t' s _ _ hc ⟨.int (g i j), H, I.tok _, ⟨_, rfl⟩, q⟩
theorem opI0 {f : Value → Value → Sem Value} {g : Int → Int → Int}
   (rule : ∀ (i j : Int) (t u : Tok) (s : Shared) (Q : Value → Shared → Prop) (E : Value → Shared → Prop), Q (.int (g i j) s.toks) { s with toks := s.toks + 1 } → wpAny (model X.prog X.w) X.A (f (.int i t) (.int j u)) Q E s) :
   OpR X f (rI0 fun i j => .int (g i j)) := by
 intro pins s σ H x y v u Q I rx ry h
 obtain ⟨i, j, rfl, rfl, q⟩ := h
 obtain ⟨t, rfl⟩ := rx
 obtain ⟨t', rfl⟩ := ry
 exact rule i j t t' s _ _ ⟨.int (g i j), H, I.tok _, ⟨_, rfl⟩, q⟩
theorem opB0 {f : Value → Value → Sem Value} {g : Int → Int → Bool}
   (rule : ∀ (i j : Int) (t u : Tok) (s : Shared) (Q : Value → Shared → Prop) (E : Value → Shared → Prop), Q (.bool (g i j)) s → wpAny (model X.prog X.w) X.A (f (.int i t) (.int j u)) Q E s) :
   OpR X f (rI0 fun i j => .bl (g i j)) := by
 intro pins s σ H x y v u Q I rx ry h
 obtain ⟨i, j, rfl, rfl, q⟩ := h
 obtain ⟨t, rfl⟩ := rx
 obtain ⟨t', rfl⟩ := ry
 exact rule i j t t' s _ _ ⟨.bl (g i j), H, I, rfl, q⟩
def CPow (i j : Int) : Prop := 0 ≤ j ∧ j ≤ 1000000 ∧ i.natAbs < 2 ^ 64
def CMul (i j : Int) : Prop := (-(2 ^ 64) < i ∧ i < 2 ^ 64) ∨ (-(2 ^ 64) < j ∧ j < 2 ^ 64)
theorem CMul.ok {i j : Int} (h : CMul i j) : IntMulOk i j := by
 rcases h with ⟨h1, h2⟩ | ⟨h1, h2⟩
 · exact .of_left (intBits_le_64 h1 h2)
 · exact .of_right (intBits_le_64 h1 h2)
theorem op_add : OpR X (binaryOp .Add) (rI0 fun i j => .int (i + j)) := opI0 fun _ _ _ _ _ _ _ q => add_int q
theorem op_sub : OpR X (binaryOp .Sub) (rI0 fun i j => .int (i - j)) := opI0 fun _ _ _ _ _ _ _ q => sub_int q
theorem op_mul : OpR X (binaryOp .Mult) (rI CMul fun i j => .int (i * j)) := opI fun _ _ _ _ _ _ _ hc q => mul_int q hc.ok
theorem op_mod : OpR X (binaryOp .Mod) (rI (fun _ j => 0 < j) fun i j => .int (i % j)) := opI fun i j _ _ _ _ _ hc q => by
 have h1 : (0 : Int) < j := hc
 exact mod_int' (by omega) (by rw [Int.fmod_eq_emod_of_nonneg i (by omega)]; exact q)
theorem op_pow : OpR X (binaryOp .Pow) (rI CPow fun i j => .int (i ^ j.toNat)) := opI fun _ _ _ _ _ _ _ hc q => pow_int_small hc.1 hc.2.1 hc.2.2 q
theorem unI {f : Value → Sem Value} {g : Int → Int}
   (rule : ∀ (i : Int) (t : Tok) (s : Shared) (Q : Value → Shared → Prop) (E : Value → Shared → Prop), Q (.int (g i) s.toks) { s with toks := s.toks + 1 } → wpAny (model X.prog X.w) X.A (f (.int i t)) Q E s) :
   UnR X f (rU fun i => .int (g i)) := by
 intro pins s σ H x v Q I rx h
 obtain ⟨i, rfl, q⟩ := h
 obtain ⟨t, rfl⟩ := rx
 exact rule i t s _ _ ⟨.int (g i), H, I.tok _, ⟨_, rfl⟩, q⟩
theorem un_neg : UnR X (unaryOp .USub) (rU fun i => .int (-i)) := unI fun _ _ _ _ _ q => neg_int q
end
def scal : V → V → Bool
 | .non, .non => true | .non, .int _ => true | .int _, .non => true | .non, .bl _ => true | .bl _, .non => true | .non, .str _ => true | .str _, .non => true
 | .int _, .int _ => true | .bl _, .bl _ => true | .str _, .str _ => true | .byt _, .byt _ => true
 | .int _, .str _ => true | .str _, .int _ => true | .bl _, .str _ => true | .str _, .bl _ => true
 | _, _ => false
def rEq : R2 := fun x y H Q => scal x y = true ∧ Q (.bl (decide (x = y))) H
def rNe : R2 := fun x y H Q => scal x y = true ∧ Q (.bl (!decide (x = y))) H
theorem dec_int {i j : Int} : decide (V.int i = V.int j) = (i == j) := by
 rw [Bool.eq_iff_iff]
 simp
theorem dec_bl {i j : Bool} : decide (V.bl i = V.bl j) = (i == j) := by
 rw [Bool.eq_iff_iff]
 simp
theorem dec_str {i j : Str} : decide (V.str i = V.str j) = (i == j) := by
 rw [Bool.eq_iff_iff]
 simp
theorem dec_byt {i j : Array UInt8} : decide (V.byt i = V.byt j) = (i.toList == j.toList) := by
 rw [Bool.eq_iff_iff]
 cases i
 cases j
 simp
section
variable {X : Cx} {a b c : Expr} {ta tb tc : TE} {pos : Pos}
theorem fin_bl {pins : List (Addr × Obj)} {σ : St} {H : Hp} {s : Shared} {Q : VK} {k k' : Bool} (I : Inv X pins σ H s) (q : Q (.bl k) H) (e : k = k') : EP X pins σ Q (.bool k') s := by
 subst e
 exact ⟨.bl k, H, I, rfl, q⟩
theorem op_eq : OpR X (compareOp .Eq) rEq := by
 intro pins s σ H x y v u Q I rx ry h
 obtain ⟨hs, q⟩ := h
 cases x with
 | non =>
   cases rx
   cases y with
   | non => cases ry; exact PySem.EqNone.eq_none_none (fin_bl I q (by simp))
   | bl j => cases ry; exact PySem.EqNone.eq_none_bool (fin_bl I q (by simp))
   | int j => obtain ⟨t', rfl⟩ := ry; exact PySem.EqNone.eq_none_int (fin_bl I q (by simp))
   | str j => obtain ⟨t', rfl⟩ := ry; exact PySem.EqNone.eq_none_str (fin_bl I q (by simp))
   | _ => exact absurd (show false = true from hs) Bool.false_ne_true
 | bl i =>
   cases rx
   cases y with
   | non => cases ry; exact PySem.EqNone.eq_bool_none (fin_bl I q (by simp))
   | bl j => cases ry; exact eq_bool (fin_bl I q dec_bl)
   | str j => obtain ⟨t', rfl⟩ := ry; exact PySem.EqMixed.eq_bool_str (fin_bl I q (by simp))
   | _ => exact absurd (show false = true from hs) Bool.false_ne_true
 | int i =>
   obtain ⟨t, rfl⟩ := rx
   cases y with
   | non => cases ry; exact PySem.EqNone.eq_int_none (fin_bl I q (by simp))
   | int j => obtain ⟨t', rfl⟩ := ry; exact eq_int (fin_bl I q dec_int)
   | str j => obtain ⟨t', rfl⟩ := ry; exact PySem.EqMixed.eq_int_str (fin_bl I q (by simp))
   | _ => exact absurd (show false = true from hs) Bool.false_ne_true
 | str i =>
   obtain ⟨t, rfl⟩ := rx
   cases y with
   | non => cases ry; exact PySem.EqNone.eq_str_none (fin_bl I q (by simp))
   | bl j => cases ry; exact PySem.EqMixed.eq_str_bool (fin_bl I q (by simp))
   | int j => obtain ⟨t', rfl⟩ := ry; exact PySem.EqMixed.eq_str_int (fin_bl I q (by simp))
   | str j => obtain ⟨t', rfl⟩ := ry; exact eq_str (fin_bl I q dec_str)
   | _ => exact absurd (show false = true from hs) Bool.false_ne_true
 | byt i =>
   obtain ⟨t, rfl⟩ := rx
   cases y with
   | byt j => obtain ⟨t', rfl⟩ := ry; exact W.eq_bytes (fin_bl I q dec_byt)
   | _ => exact absurd (show false = true from hs) Bool.false_ne_true
 | _ => cases y <;> exact absurd (show false = true from hs) Bool.false_ne_true
theorem op_ne : OpR X (compareOp .NotEq) rNe := by
 intro pins s σ H x y v u Q I rx ry h
 obtain ⟨hs, q⟩ := h
 cases x with
 | non =>
   cases rx
   cases y with
   | non => cases ry; exact PySem.EqNone.ne_none_none (fin_bl I q (by simp))
   | bl j => cases ry; exact PySem.EqNone.ne_none_bool (fin_bl I q (by simp))
   | int j => obtain ⟨t', rfl⟩ := ry; exact PySem.EqNone.ne_none_int (fin_bl I q (by simp))
   | str j => obtain ⟨t', rfl⟩ := ry; exact PySem.EqNone.ne_none_str (fin_bl I q (by simp))
   | _ => exact absurd (show false = true from hs) Bool.false_ne_true
 | bl i =>
   cases rx
   cases y with
   | non => cases ry; exact PySem.EqNone.ne_bool_none (fin_bl I q (by simp))
   | bl j => cases ry; exact ne_bool (fin_bl I q (congrArg not dec_bl))
   | str j => obtain ⟨t', rfl⟩ := ry; exact PySem.EqMixed.ne_bool_str (fin_bl I q (by simp))
   | _ => exact absurd (show false = true from hs) Bool.false_ne_true
 | int i =>
   obtain ⟨t, rfl⟩ := rx
   cases y with
   | non => cases ry; exact PySem.EqNone.ne_int_none (fin_bl I q (by simp))
   | int j => obtain ⟨t', rfl⟩ := ry; exact ne_int (fin_bl I q (congrArg not dec_int))
   | str j => obtain ⟨t', rfl⟩ := ry; exact PySem.EqMixed.ne_int_str (fin_bl I q (by simp))
   | _ => exact absurd (show false = true from hs) Bool.false_ne_true
 | str i =>
   obtain ⟨t, rfl⟩ := rx
   cases y with
   | non => cases ry; exact PySem.EqNone.ne_str_none (fin_bl I q (by simp))
   | bl j => cases ry; exact PySem.EqMixed.ne_str_bool (fin_bl I q (by simp))
   | int j => obtain ⟨t', rfl⟩ := ry; exact PySem.EqMixed.ne_str_int (fin_bl I q (by simp))
   | str j => obtain ⟨t', rfl⟩ := ry; exact ne_str (fin_bl I q (congrArg not dec_str))
   | _ => exact absurd (show false = true from hs) Bool.false_ne_true
 | byt i =>
   obtain ⟨t, rfl⟩ := rx
   cases y with
   | byt j => obtain ⟨t', rfl⟩ := ry; exact W.ne_bytes (fin_bl I q (congrArg not dec_byt))
   | _ => exact absurd (show false = true from hs) Bool.false_ne_true
 | _ => cases y <;> exact absurd (show false = true from hs) Bool.false_ne_true
theorem op_lt : OpR X (compareOp .Lt) (rI0 fun i j => .bl (decide (i < j))) := opB0 fun _ _ _ _ _ _ _ q => lt_int q
theorem op_le : OpR X (compareOp .LtE) (rI0 fun i j => .bl (decide (i ≤ j))) := opB0 fun _ _ _ _ _ _ _ q => le_int q
theorem op_gt : OpR X (compareOp .Gt) (rI0 fun i j => .bl (decide (j < i))) := opB0 fun _ _ _ _ _ _ _ q => gt_int q
theorem op_ge : OpR X (compareOp .GtE) (rI0 fun i j => .bl (decide (j ≤ i))) := opB0 fun _ _ _ _ _ _ _ q => ge_int q
theorem nomark (b : Expr) {op : CmpOp} (h : op ≠ .In := by decide) (h2 : op ≠ .NotIn := by decide) : behindInMarks op b = false := by
 have e1 : (op == CmpOp.In) = false := by cases op <;> first | rfl | exact absurd rfl h
 have e2 : (op == CmpOp.NotIn) = false := by cases op <;> first | rfl | exact absurd rfl h2
 cases b <;> simp [behindInMarks, e1, e2]
theorem pe_cmpR {op : CmpOp} {r : R2} (ho : OpR X (compareOp op) r) (ha : PE X a ta) (hb : PE X b tb) (hm : behindInMarks op b = false) : PE X (.Compare a [op] [b] pos) (tOp r ta tb) := by
 intro pins s σ H Q I h
 exact wpAny_Compare1 (binT ha hb I h fun v u s2 x y H2 I2 rx ry q => ho pins s2 σ H2 x y v u Q I2 rx ry q) hm
def tTest (t : TE) : TT := fun σ H Q => t σ H fun x H' => ∃ k, x = .bl k ∧ Q k H'
theorem pt_cmpR {op : CmpOp} {r : R2} (ho : OpR X (compareOp op) r) (ha : PE X a ta) (hb : PE X b tb) (hm : behindInMarks op b = false) : PT X (.Compare a [op] [b] pos) (tTest (tOp r ta tb)) := by
 intro pins s σ H Q I h
 refine wpAny_isTrue_Compare1 (thn (ha pins s σ H _ I h) fun v s1 ⟨x, H1, I1, r1, q1⟩ => thn (hb pins s1 σ H1 _ I1 q1) fun u s2 ⟨y, H2, I2, r2, q2⟩ =>
   thn (ho pins s2 σ H2 x y v u _ I2 r1 r2 q2) fun c s3 ⟨z, H3, I3, r3, k, e, q3⟩ => ?_) hm
 subst e
 cases r3
 exact wpAny_truthy_bool ⟨H3, I3, q3⟩
def tChain (r r' : R2) (ta tb tc : TE) : TE := fun σ H Q => ta σ H fun x H1 => tb σ H1 fun y H2 => r x y H2 fun z H3 => ∃ k, z = .bl k ∧
 (if k = true then tc σ H3 fun w' H4 => r' y w' H4 Q else Q (.bl false) H3)
theorem pe_chain {op op' : CmpOp} {r r' : R2} (ho : OpR X (compareOp op) r) (ho' : OpR X (compareOp op') r') (ha : PE X a ta) (hb : PE X b tb) (hc : PE X c tc)
   (hm : lastMarks [op, op'] [b, c] = false := by with_unfolding_all rfl) : PE X (.Compare a [op, op'] [b, c] pos) (tChain r r' ta tb tc) := by
 intro pins s σ H Q I h
 refine Compare_chain (thn (ha pins s σ H _ I h) fun v s1 ⟨x, H1, I1, r1, q1⟩ => chain_link (thn (hb pins s1 σ H1 _ I1 q1) fun u s2 ⟨y, H2, I2, r2, q2⟩ =>
   thn (ho pins s2 σ H2 x y v u _ I2 r1 r2 q2) fun d s3 ⟨z, H3, I3, r3, k, e, q3⟩ => ?_)) hm
 subst e
 cases r3
 refine wpAny_truthy_bool ?_
 cases k with
 | false => exact ite_ff ⟨.bl false, H3, I3, rfl, q3⟩
 | true => exact ite_tt (chain_last (thn (hc pins s3 σ H3 _ I3 q3) fun w' s4 ⟨z', H4, I4, r4, q4⟩ => ho' pins s4 σ H4 y z' u w' Q I4 r2 r4 q4))
theorem pt_chain {op op' : CmpOp} {r r' : R2} (ho : OpR X (compareOp op) r) (ho' : OpR X (compareOp op') r') (ha : PE X a ta) (hb : PE X b tb) (hc : PE X c tc)
   (hm : lastMarks [op, op'] [b, c] = false := by with_unfolding_all rfl) : PT X (.Compare a [op, op'] [b, c] pos) (tTest (tChain r r' ta tb tc)) := by
 intro pins s σ H Q I h
 refine isTrue_chain (thn (ha pins s σ H _ I h) fun v s1 ⟨x, H1, I1, r1, q1⟩ => test_link (thn (hb pins s1 σ H1 _ I1 q1) fun u s2 ⟨y, H2, I2, r2, q2⟩ =>
   thn (ho pins s2 σ H2 x y v u _ I2 r1 r2 q2) fun d s3 ⟨z, H3, I3, r3, k, e, q3⟩ => ?_)) hm
 subst e
 cases r3
 refine wpAny_truthy_bool ?_
 cases k with
 | false =>
   obtain ⟨k', e', q'⟩ := q3
   cases e'
   exact ite_ff ⟨H3, I3, q'⟩
 | true =>
   refine ite_tt (test_last (thn (hc pins s3 σ H3 _ I3 q3) fun w' s4 ⟨z', H4, I4, r4, q4⟩ => thn (ho' pins s4 σ H4 y z' u w' _ I4 r2 r4 q4) fun d' s5 ⟨z2, H5, I5, r5, k2, e2, q5⟩ => ?_))
   subst e2
   cases r5
   exact wpAny_truthy_bool ⟨H5, I5, q5⟩
theorem line63 : (sizeLine : Nat) < 2 ^ 63 := by rw [sizeLine_eq]; decide
theorem vals1 {x : V} {us : List Value} (r : Vals [x] us) : ∃ u, us = [u] ∧ RelV x u := by
 cases r with
 | cons r1 r2 => cases r2; exact ⟨_, rfl, r1⟩
theorem vals2 {x y : V} {us : List Value} (r : Vals [x, y] us) : ∃ u w', us = [u, w'] ∧ RelV x u ∧ RelV y w' := by
 cases r with
 | cons r1 r2 =>
   cases r2 with
   | cons r3 r4 => cases r4; exact ⟨_, _, rfl, r1, r3⟩
theorem call_min2 (hc : X.calm = true) : CallR X (.builtin "min") (fun xs H Q => ∃ i j, xs = [.int i, .int j] ∧ Q (.int (if j < i then j else i)) H) := by
 intro pins s σ H xs us Q I r h
 obtain ⟨i, j, rfl, q⟩ := h
 obtain ⟨u, w', rfl, ⟨t, rfl⟩, ⟨t', rfl⟩⟩ := vals2 r
 refine min_two_ints (I.ok.hd hc) fun h' tk k => ⟨_, H, I.kept k, ?_, q⟩
 by_cases hj : j < i
 · rw [if_pos hj, if_pos hj]; exact ⟨_, rfl⟩
 · rw [if_neg hj, if_neg hj]; exact ⟨_, rfl⟩
end
end L2
namespace L2
open PySem PySem.Spec PyProof.Rows
structure ObjM (h : Heap) (x dx C : Addr) (mA : Str → Option Value) : Prop where
 obj : h.get? x = some (W.instObj C dx)
 ns : h.Ns1 dx mA
 ne : dx ≠ x
theorem lookIn_ns {h : Heap} {dx : Addr} {mA : Str → Option Value} (n : h.Ns1 dx mA) : ∃ od, h.get? dx = some od ∧ ∀ name, W.lookIn name od = some (mA name) := by
 obtain ⟨o, es, ep, ho, hd, hk, _, hm⟩ := n
 refine ⟨o, ho, fun name => ?_⟩
 have e := hm name
 unfold nsFind findBy at e
 rw [← Array.find?_toList] at e
 unfold W.lookIn
 rw [hd]
 dsimp only
 split
 · rename_i y q
   rw [q] at e
   exact congrArg some e
 · rename_i q
   rw [q] at e
   have a : es.toList.any (·.refKey) = false := by
     rw [List.any_eq_false]
     intro y hy
     obtain ⟨z, t, hkey⟩ := hk y (Array.mem_toList_iff.mp hy)
     simp [DictEntry.refKey, hkey]
   have a' : ¬ es.toList.any (·.refKey) = true := by rw [a]; exact Bool.false_ne_true
   rw [if_neg a']
   exact congrArg some e
theorem ObjM.look {h : Heap} {x dx C : Addr} {mA : Str → Option Value} (I : ObjM h x dx C mA) : ∃ od, W.InstAt h x (W.instObj C dx) C (some od) ∧ ∀ name, W.lookIn name od = some (mA name) :=
 let ⟨od, ho, hl⟩ := lookIn_ns I.ns
 ⟨od, ⟨I.obj, rfl, rfl, ho⟩, hl⟩
section
variable {prog : Program} {w : World} {A : Around} {E : Value → Shared → Prop} {s : Shared} {K : W.Frag} {x dx C f : Addr} {mA : Str → Option Value} {name : Str} {v : Value}
theorem get_map {expr : Bool} {Q : Value → Shared → Prop} (X : K.In s.heap) (I : ObjM s.heap x dx C mA) (hg : W.plainGet K C name = true) (hh : W.hasDictIn K C = true)
   (ha : W.findIn K (.ref C) name = some none) (hv : mA name = some v) (hv' : W.handedIn v = true) (h : Q v { s with toks := s.toks + 1 }) :
   wpAny (model prog w) A (getAttr (.ref x) name expr) Q E s := by
 obtain ⟨od, J, hl⟩ := I.look
 exact W.get_value X J (W.plainGet_of hg).1 (W.findObj_own hh ha rfl (by rw [hl, hv])) hv' h
theorem get_meth {pl : Sem Bool} {Q : Value × List Value → Shared → Prop} (X : K.In s.heap) (I : ObjM s.heap x dx C mA) (hg : W.plainGet K C name = true)
   (hf : W.findIn K (.ref C) name = some (some (.ref f))) (ht : W.isFn K (.ref f) = true) (hv : mA name = none) (h : Q (.ref f, [.ref x]) s) :
   wpAny (model prog w) A (getMethod (.ref x) name pl) Q E s := by
 obtain ⟨od, J, hl⟩ := I.look
 exact W.method_fn X J (W.plainGet_of hg).1 (W.plainGet_of hg).2 hf (beq_iff_eq.mp ht) (by show (W.lookIn name od).map (·.isSome) = some false; rw [hl, hv]; rfl) h
theorem set_map {ns : List Str} {Q : Unit → Shared → Prop} (X : K.In s.heap) (I : ObjM s.heap x dx C mA)
   (hs : W.findIn K (.ref C) "__setattr__" = some (some (.builtin "object.__setattr__"))) (hp : W.plainOver K C = true) (ht : W.takerIn K C name = some none) (hh : W.hasDictIn K C = true)
   (hw : PySem.Within mA ns) (hsz : ns.length ≤ sizeLine)
   (h : ∀ h', ObjM h' x dx C (fun y => if y = name then some v else mA y) → Heap.SameBut dx s.heap h' → Q () { s with heap := h', toks := s.toks + 2 }) :
   wpAny (model prog w) A (setAttr (.ref x) name v) Q E s := by
 obtain ⟨od, J, hl⟩ := I.look
 refine W.set_plain X J hs (W.osa_open (s := { s with toks := s.toks + 1 }) (r := none) X J hp ht fun b => ?_)
 obtain ⟨cd, hc, hd'⟩ := W.any_some hh
 have hx : s.heap.get? x = some ⟨.ref C, some dx, .plain, #[]⟩ := I.obj
 refine wpAny_bind (wpAny_pure (wpAny_bind (wpAny_bind (wpAny_loadPart hx (wpAny_bind (W.Looks.here (s := { s with toks := s.toks + 1 }) (W.looks_clsIn X hc) ?_))))))
 rw [hd']
 refine wpAny_pure (a := some dx) (wpAny_bind (wpAny_pure (wpAny_bind ?_)))
 refine wpAny_nsSet1 (s := { s with toks := s.toks + 1 }) I.ns fun h' hn2 hs2 => ?_
 obtain ⟨oD, esD, epD, hoD, hdD, hcD⟩ := hn2.count (PySem.Within.cons name v hw)
 refine wpAny_bind (wpAny_lookBehind hoD (by rw [hdD]; exact pastItsLine_dict (Nat.le_trans hcD (by rw [List.length_cons]; omega))) ?_)
 exact wpAny_pure (h _ ⟨(hs2.2 _ (Ne.symm I.ne)).trans I.obj, hn2, I.ne⟩ hs2)
theorem make_map {R : Result → Shared → Prop} {vs : List Value} {kw : List (Str × Value)} (X : K.In s.heap) (hm : W.makesIn K C = true)
   (hi : W.findIn K (.ref C) "__init__" = some (some (.ref f))) (hf : W.typeIn K (.ref f) = some (.type "function"))
   (h : codeAny (model prog w) (A.under (.builtin "type.__call__" ⟨.ref C :: vs, kw⟩)) (.call (.ref f) ⟨.ref (s.heap.objs.size + 1) :: vs, kw⟩) (W.InitBack (s.heap.objs.size + 1) R)
     { s with heap := (s.heap.push W.emptyDict).push (W.instObj C s.heap.objs.size) }) :
   codeAny (model prog w) A (.call (.ref C) ⟨vs, kw⟩) R s := by
 obtain ⟨hh, g, d, t, os⟩ := s
 exact W.make_core (W.makes_of X hm) (W.looks_findIn X hi) (fun self => W.bind_fn X self hf) (.inl rfl) h
end
def putF (f : Str) (v : V) : List (Str × V) → List (Str × V)
 | [] => [(f, v)]
 | (g, x) :: r => if g = f then (g, v) :: r else (g, x) :: putF f v r
theorem lP (f g : Str) (v : V) : ∀ fs : List (Str × V), (putF f v fs).lookup g = if g = f then some v else fs.lookup g
 | [] => by
   show List.lookup g [(f, v)] = _
   by_cases h : g = f
   · have hb : (g == f) = true := beq_iff_eq.mpr h
     simp only [List.lookup, hb, if_pos h]
   · have hb : (g == f) = false := beq_eq_false_iff_ne.mpr h
     simp only [List.lookup, hb, if_neg h]
 | (k, x) :: r => by
   have ih := lP f g v r
   rw [show putF f v ((k, x) :: r) = (if k = f then (k, v) :: r else (k, x) :: putF f v r) from rfl]
   by_cases hk : k = f
   · rw [if_pos hk]
     by_cases h : g = k
     · have hb : (g == k) = true := beq_iff_eq.mpr h
       simp only [List.lookup, hb, if_pos (h.trans hk)]
     · have hb : (g == k) = false := beq_eq_false_iff_ne.mpr h
       simp only [List.lookup, hb, if_neg (fun e : g = f => h (e.trans hk.symm))]
   · rw [if_neg hk]
     by_cases h : g = k
     · have hb : (g == k) = true := beq_iff_eq.mpr h
       simp only [List.lookup, hb, if_neg (fun e : g = f => hk (h.symm.trans e))]
     · have hb : (g == k) = false := beq_eq_false_iff_ne.mpr h
       simp only [List.lookup, hb]
       exact ih
theorem keys_putF (f : Str) (v : V) : ∀ fs : List (Str × V), f ∈ (putF f v fs).map (·.1) ∧ ∀ g, g ∈ fs.map (·.1) → g ∈ (putF f v fs).map (·.1)
 | [] => ⟨by simp [putF], fun g h => by simp at h⟩
 | (k, x) :: r => by
   obtain ⟨i1, i2⟩ := keys_putF f v r
   rw [show putF f v ((k, x) :: r) = (if k = f then (k, v) :: r else (k, x) :: putF f v r) from rfl]
   by_cases hk : k = f
   · rw [if_pos hk]
     subst hk
     exact ⟨by simp, fun g h => by simpa using h⟩
   · rw [if_neg hk]
     refine ⟨?_, fun g h => ?_⟩
     · rw [List.map_cons]
       exact List.mem_cons_of_mem _ i1
     · rw [List.map_cons] at h ⊢
       rcases List.mem_cons.mp h with e | e
       · exact List.mem_cons.mpr (.inl e)
       · exact List.mem_cons_of_mem _ (i2 g e)
theorem length_putF (f : Str) (v : V) : ∀ fs : List (Str × V), (putF f v fs).length ≤ fs.length + 1
 | [] => by simp [putF]
 | (k, x) :: r => by
   have ih := length_putF f v r
   rw [show putF f v ((k, x) :: r) = (if k = f then (k, v) :: r else (k, x) :: putF f v r) from rfl]
   by_cases hk : k = f
   · rw [if_pos hk, List.length_cons, List.length_cons]; omega
   · rw [if_neg hk, List.length_cons, List.length_cons]; omega
theorem RelO.some_of {v : V} {o : Option Value} (r : RelO (some v) o) : ∃ u, o = some u ∧ RelV v u := by
 cases o with
 | none => exact (show False from r).elim
 | some u => exact ⟨u, rfl, r⟩
theorem RelO.none_of {o : Option Value} (r : RelO none o) : o = none := by
 cases o with
 | none => rfl
 | some u => exact (show False from r).elim
theorem handed_of {v : V} {u : Value} (r : RelV v u) : W.handedIn u = true := by
 cases v with
 | non => cases (show u = Value.none from r); rfl
 | bl b => cases (show u = Value.bool b from r); rfl
 | int i => obtain ⟨t, e⟩ := (show ∃ t, u = Value.int i t from r); cases e; rfl
 | str x => obtain ⟨t, e⟩ := (show ∃ t, u = Value.str x t from r); cases e; rfl
 | byt b => obtain ⟨t, e⟩ := (show ∃ t, u = Value.bytes b t from r); cases e; rfl
 | flt b => obtain ⟨t, e⟩ := (show ∃ t, u = Value.float b t from r); cases e; rfl
 | ref a => cases (show u = Value.ref a from r); rfl
 | ty n => cases (show u = Value.type n from r); rfl
section
variable {P : Program} {w : World} {H H' : Hp} {h h' : Heap} {a C dx : Addr} {fs fs' : List (Str × V)}
theorem ins_get (hok : HOk P w H h) (e : H a = some (.ins C dx fs)) : ∃ mA, ObjM h a dx C mA ∧ (∀ f, RelO (fs.lookup f) (mA f)) ∧ PySem.Within mA (fs.map (·.1)) ∧ fs.length ≤ 1000 ∧ H dx = some (.own a) := by
 obtain ⟨d, z, ne, ob, mA, n, r, q⟩ := (show ObjOk P w H h a (.ins C dx fs) from hok a _ e)
 exact ⟨mA, ⟨ob, n, ne⟩, r, q, z, d⟩
end
structure Cls (K : W.Frag) (C : Addr) : Prop where
 pg : W.plainGet K C Str.empty = true
 hd : W.hasDictIn K C = true
 po : W.plainOver K C = true
 sa : W.findIn K (.ref C) "__setattr__" = some (some (.builtin "object.__setattr__"))
theorem Cls.get {K : W.Frag} {C : Addr} (c : Cls K C) (f : Str) : W.plainGet K C f = true := c.pg
def NoAttr (K : W.Frag) (C : Addr) (f : Str) : Prop := W.findIn K (.ref C) f = some none
theorem NoAttr.taker {K : W.Frag} {C : Addr} {f : Str} (n : NoAttr K C f) : W.takerIn K C f = some none := by
 unfold W.takerIn
 rw [show W.findIn K (.ref C) f = some none from n]
 rfl
structure Con (K : W.Frag) (C : Addr) (f : Str) (v : V) (u : Value) : Prop where
 at_ : W.findIn K (.ref C) f = some (some u)
 rel : RelV v u
 get : W.specialIn K u "__get__" = some none
 cp : W.copiedNames.contains f = false
structure Meth (K : W.Frag) (C : Addr) (m : Str) (f : Addr) : Prop where
 at_ : W.findIn K (.ref C) m = some (some (.ref f))
 fn : W.isFn K (.ref f) = true
 kp : W.keepIn K (.ref f) = true
section
variable {X : Cx} {pins : List (Addr × Obj)} {σ : St} {H : Hp} {s : Shared} {a C dx : Addr} {fs : List (Str × V)} {f : Str} {v : V} {A : Around} {E : Value → Shared → Prop}
theorem getattr_ok {b : Bool} {Q : Value → Shared → Prop} (I : Inv X pins σ H s) (e : H a = some (.ins C dx fs)) (c : Cls X.K C) (n : NoAttr X.K C f) (l : fs.lookup f = some v)
   (h : ∀ u s', Inv X pins σ H s' → RelV v u → Q u s') : wpAny (model X.prog X.w) A (getAttr (.ref a) f b) Q E s := by
 obtain ⟨mA, O, r, _, _, _⟩ := ins_get I.hok e
 obtain ⟨u, hu, ru⟩ := RelO.some_of (v := v) (o := mA f) (by rw [← l]; exact r f)
 exact get_map I.kIn O (c.get f) c.hd n hu (handed_of ru) (h u _ (I.tok _) ru)
theorem getmeth_ok {m : Str} {g : Addr} {pl : Sem Bool} {Q : Value × List Value → Shared → Prop} (I : Inv X pins σ H s) (e : H a = some (.ins C dx fs)) (c : Cls X.K C) (k : Meth X.K C m g) (l : fs.lookup m = none)
   (h : Q (.ref g, [.ref a]) s) : wpAny (model X.prog X.w) A (getMethod (.ref a) m pl) Q E s := by
 obtain ⟨mA, O, r, _, _, _⟩ := ins_get I.hok e
 have hn : mA m = none := RelO.none_of (by rw [← l]; exact r m)
 exact get_meth I.kIn O (c.get m) k.at_ k.fn hn h
theorem setattr_ok {y : V} {u : Value} {Q : Unit → Shared → Prop} (I : Inv X pins σ H s) (e : H a = some (.ins C dx fs)) (c : Cls X.K C) (n : NoAttr X.K C f) (hl : fs.length < 1000) (ry : RelV y u)
   (h : ∀ s', Inv X pins σ (upd H a (.ins C dx (putF f y fs))) s' → Q () s') : wpAny (model X.prog X.w) A (setAttr (.ref a) f u) Q E s := by
 obtain ⟨mA, O, r, wi, _, ho⟩ := ins_get I.hok e
 have hz : (fs.map (·.1)).length ≤ sizeLine := by rw [List.length_map, sizeLine_eq]; omega
 refine set_map I.kIn O c.sa c.po n.taker c.hd wi hz fun h' O' sb => h _ ?_
 have hd : ∃ o, h'.get? dx = some o := let ⟨o, _, _, e', _⟩ := O'.ns; ⟨o, e'⟩
 refine I.write (x := a) (e := dx) (by rw [e]; exact True.intro) (.inr ho) (fun b q hb z => (sb.2 b hb).trans z) hd ?_
 refine ⟨by rw [uN O.ne]; exact ho, ?_, O.ne, O'.obj, _, O'.ns, fun g => ?_, fun g hg => ?_⟩
 · have := length_putF f y fs; omega
 · show RelO ((putF f y fs).lookup g) (if g = f then some u else mA g)
   rw [lP]
   by_cases q : g = f
   · rw [if_pos q, if_pos q]; exact ry
   · rw [if_neg q, if_neg q]; exact r g
 · by_cases q : g = f
   · rw [q]; exact (keys_putF f y fs).1
   · refine (keys_putF f y fs).2 g (wi g fun z => hg ?_)
     show (if g = f then some u else mA g) = none
     rw [if_neg q]; exact z
theorem Inv.made (I : Inv X pins σ H s) : Inv X pins σ (upd (upd H s.heap.objs.size (.own (s.heap.objs.size + 1))) (s.heap.objs.size + 1) (.ins C s.heap.objs.size []))
   { s with heap := (s.heap.push W.emptyDict).push (W.instObj C s.heap.objs.size) } := by
 have e1 : (s.heap.push W.emptyDict).get? s.heap.objs.size = some W.emptyDict := Heap.get?_push_size s.heap rfl
 have e2 : ((s.heap.push W.emptyDict).push (W.instObj C s.heap.objs.size)).get? (s.heap.objs.size + 1) = some (W.instObj C s.heap.objs.size) := by
   have := Heap.get?_push_size (s.heap.push W.emptyDict) (o := W.instObj C s.heap.objs.size) rfl
   rwa [Heap.size_push] at this
 have e3 : (s.heap.push W.emptyDict).Ns s.heap.objs.size (fun _ => none) := ⟨W.emptyDict, #[], _, e1, rfl, (fun e he => absurd he (by simp)), fun _ => rfl⟩
 have I1 := I.laid (a := s.heap.objs.size) (o := .own (s.heap.objs.size + 1)) (h' := s.heap.push W.emptyDict) (t' := s.toks) (fun b u q => Heap.get?_push_of_some _ q) (Nat.le_refl _) ⟨_, e1⟩
 refine I1.laid (a := s.heap.objs.size + 1) (o := .ins C s.heap.objs.size []) (t' := s.toks) (fun b u q => Heap.get?_push_of_some _ q) (Nat.le_of_eq (Heap.size_push _ _)) ?_
 have ne : s.heap.objs.size ≠ s.heap.objs.size + 1 := Nat.ne_of_lt (Nat.lt_succ_self _)
 refine ⟨by rw [uN ne, uS], Nat.zero_le _, ne, e2, fun _ => none, (Heap.Ns1.of_empty e3).at fun o q => Heap.get?_push_of_some _ q, fun _ => True.intro, fun y hy => absurd rfl hy⟩
theorem attr_of {prog : Program} {w : World} {env : Env} {e : Expr} {f : Str} {pos : Pos} {s : Shared} {Q : Value → Shared → Prop} (hb : attributeBase e f env (eval e env) = eval e env)
   (h : wpAny (model prog w) A (eval e env) (fun o s₁ => wpAny (model prog w) A (getAttr o f true) Q E s₁) E s) : wpAny (model prog w) A (eval (.Attribute e f pos) env) Q E s :=
 Attribute_any_ h (by rw [arm_eval_Attribute, hb])
end
def tFld (K : W.Frag) (ta : TE) (f : Str) : TE := fun σ H Q => ta σ H fun x H1 => ∃ a C dx fs v, x = .ref a ∧ H1 a = some (.ins C dx fs) ∧ Cls K C ∧ NoAttr K C f ∧ fs.lookup f = some v ∧ Q v H1
def sFld (K : W.Frag) (ta tv : TE) (f : Str) : TS := fun D σ H => tv σ H fun y H1 => ta σ H1 fun x H2 => ∃ a C dx fs, x = .ref a ∧ H2 a = some (.ins C dx fs) ∧ Cls K C ∧ NoAttr K C f ∧ fs.length < 1000 ∧
 D.nx σ (upd H2 a (.ins C dx (putF f y fs)))
section
variable {X : Cx} {o e value : Expr} {f : Str} {pos pos' tpos : Pos} {ta tv : TE}
theorem pe_fld (he : PE X e ta) (hb : attributeBase e f X.env (eval e X.env) = eval e X.env) : PE X (.Attribute e f pos) (tFld X.K ta f) := by
 intro pins s σ H Q I h
 refine attr_of hb (thn (he pins s σ H _ I h) fun u s1 ⟨x, H1, I1, rx, a, C, dx, fs, v, ex, ea, c, n, l, q⟩ => ?_)
 subst ex
 obtain rfl : u = Value.ref a := rx
 exact getattr_ok I1 ea c n l fun u' s2 I2 ru => ⟨v, H1, I2, ru, q⟩
theorem ps_fld (ha : PE X o ta) (hv : PE X value tv) (hs : swapsWith value (some (.Attribute o f pos')) pos.line X.env = pure false) : PS X (.Assign [.Attribute o f pos'] value pos) (sFld X.K ta tv f) := by
 intro pins s σ H D I h
 refine plainObj_wpAny_Assign_Attribute (thn (hv pins s σ H _ I h) fun u s1 ⟨y, H1, I1, ry, q⟩ => thn (ha pins s1 σ H1 _ I1 q) fun ov s2 ⟨x, H2, I2, rx, a, C, dx, fs, ex, ea, c, n, l, q2⟩ => ?_) hs
 subst ex
 obtain rfl : ov = Value.ref a := rx
 exact setattr_ok I2 ea c n l ry fun s3 I3 => ⟨σ, _, I3, q2⟩
end
section
variable {X : Cx} {pins : List (Addr × Obj)} {σ : St} {H : Hp} {s : Shared} {A : Around} {E : Value → Shared → Prop} {Q : Value → Shared → Prop} {c : Value} {b : Bool}
inductive TyOf (K : W.Frag) (H : Hp) : V → Value → Prop where
 | non : TyOf K H .non (.type "NoneType")
 | bl (x : Bool) : TyOf K H (.bl x) (.type "bool")
 | int (i : Int) : TyOf K H (.int i) (.type "int")
 | str (x : Str) : TyOf K H (.str x) (.type "str")
 | flt (x : UInt64) : TyOf K H (.flt x) (.type "float")
 | lst {a : Addr} {xs : List V} (e : H a = some (.lst xs)) : TyOf K H (.ref a) (.type "list")
 | frz {a : Addr} {o : Obj} {xs : List V} (e : H a = some (.frz o (.lst xs))) : TyOf K H (.ref a) (.type "list")
 | tup {a : Addr} {xs : List V} (e : H a = some (.tup xs)) : TyOf K H (.ref a) (.type "tuple")
 | dK {a : Addr} {kvs : List (Key × V)} (e : H a = some (.dK kvs)) : TyOf K H (.ref a) (.type "dict")
 | dT {a : Addr} {kvs : List (List Key × V)} (e : H a = some (.dT kvs)) : TyOf K H (.ref a) (.type "dict")
 | ins {a C dx : Addr} {fs : List (Str × V)} (e : H a = some (.ins C dx fs)) (cl : Cls K C) (ha : W.findIn K (.ref C) "__class__" = some (some (.builtin "object.__class__")))
     (hn : W.specialIn K (.builtin "object.__class__") "__get__" = some (some (.builtin "getset_descriptor.__get__"))) (htk : W.takesIn K (.builtin "object.__class__") = some true)
     (hm : W.mroIn K C (.type "object") = some true) : TyOf K H (.ref a) (.ref C)
theorem isinst_ok {x : V} {u t : Value} (I : Inv X pins σ H s) (rx : RelV x u) (ty : TyOf X.K H x t) (e : W.kitOne X.K t c = some b) (h : ∀ tk, Q (.bool b) { s with toks := tk }) :
   wpAny (model X.prog X.w) A (call (.builtin "isinstance") [u, c]) Q E s := by
 cases ty with
 | non => cases (show u = Value.none from rx); exact W.kia_one W.kitx_none I.kIn True.intro e (fun z => nomatch z) h
 | bl y => cases (show u = Value.bool y from rx); exact W.kia_one W.kitx_bool I.kIn True.intro e (fun z => nomatch z) h
 | int i => obtain ⟨t, q⟩ := (show ∃ t, u = Value.int i t from rx); cases q; exact W.kia_one W.kitx_int I.kIn True.intro e (fun z => nomatch z) h
 | str y => obtain ⟨t, q⟩ := (show ∃ t, u = Value.str y t from rx); cases q; exact W.kia_one W.kitx_str I.kIn True.intro e (fun z => nomatch z) h
 | flt y => obtain ⟨t, q⟩ := (show ∃ t, u = Value.float y t from rx); cases q; exact W.kia_one W.kitx_float I.kIn True.intro e (fun z => nomatch z) h
 | @lst a xs ea =>
   cases (show u = Value.ref a from rx)
   obtain ⟨_, _, n, _, h1⟩ := (show ObjOk X.prog X.w H s.heap a (.lst xs) from I.hok a _ ea)
   exact W.kia_one W.kitx_list I.kIn ⟨_, h1, rfl⟩ e (fun z => nomatch z) h
 | @frz a ob xs ea =>
   cases (show u = Value.ref a from rx)
   obtain ⟨_, _, _, n, _, h1⟩ := (show ObjOk X.prog X.w H s.heap a (.frz ob (.lst xs)) from I.hok a _ ea)
   exact W.kia_one W.kitx_list I.kIn ⟨_, h1, rfl⟩ e (fun z => nomatch z) h
 | @tup a xs ea =>
   cases (show u = Value.ref a from rx)
   obtain ⟨_, _, _, p⟩ := (show ObjOk X.prog X.w H s.heap a (.tup xs) from I.hok a _ ea)
   obtain ⟨o, h1, h2, _⟩ := p
   exact W.kia_one W.kitx_tuple I.kIn ⟨o, h1, h2⟩ e (fun z => nomatch z) h
 | @dK a kvs ea =>
   cases (show u = Value.ref a from rx)
   obtain ⟨_, _, vs, _, p⟩ := (show ObjOk X.prog X.w H s.heap a (.dK kvs) from I.hok a _ ea)
   obtain ⟨o, es, ep, h1, h2, _⟩ := p
   exact W.kia_one W.kitx_dict I.kIn ⟨o, h1, h2.1⟩ e (fun z => nomatch z) h
 | @dT a kvs ea =>
   cases (show u = Value.ref a from rx)
   obtain ⟨_, _, xs, _, o, es, ep, h1, h2, _⟩ := (show ObjOk X.prog X.w H s.heap a (.dT kvs) from I.hok a _ ea)
   exact W.kia_one W.kitx_dict I.kIn ⟨o, h1, h2.1⟩ e (fun z => nomatch z) h
 | @ins a C dx fs ea cl ha hn htk hm =>
   cases (show u = Value.ref a from rx)
   obtain ⟨mA, O, _⟩ := ins_get I.hok ea
   obtain ⟨od, J, _⟩ := O.look
   exact W.kia_one (W.kitx_own (cl.get _) cl.hd ha hn htk hm) I.kIn J e (fun z => nomatch z) h
end
end L2
namespace L2
open PySem PySem.Spec PyProof.Rows
structure Room (k : Nat) (A : Around) : Prop where
 hd : A.handled = none
 dp : A.depth + 3 * k + 5 < recursionLimit
 un : A.units + 16 * k + 200 < cLine
theorem Room.mono {j k : Nat} {A : Around} (r : Room k A) (h : j ≤ k) : Room j A := ⟨r.hd, by have := r.dp; omega, by have := r.un; omega⟩
theorem Room.deeper {k : Nat} {A : Around} (r : Room (k + 1) A) (env : Env) : Room k (A.deeper env) :=
 ⟨r.hd, by have := r.dp; show A.depth + 1 + 3 * k + 5 < _; omega, by have := r.un; show A.units + 3 + 16 * k + 200 < _; omega⟩
theorem make_depth {A : Around} {C : Addr} {us : List Value} {kw : List (Str × Value)} : (A.under (.builtin "type.__call__" ⟨.ref C :: us, kw⟩)).depth = A.depth + 1 := by
 first | rfl | simp [Around.under, Code.weight, Code.isCreation, Code.isGuard, Code.isCaller, Code.frames, Code.isFrame, guardIds]
theorem make_units {A : Around} {C : Addr} {us : List Value} {kw : List (Str × Value)} : (A.under (.builtin "type.__call__" ⟨.ref C :: us, kw⟩)).units = A.units + 1 := by
 first | rfl | simp [Around.under, Code.cUnits, Code.frames, Code.isFrame]
theorem Room.make {k : Nat} {A : Around} (r : Room (k + 1) A) (C : Addr) (us : List Value) (kw : List (Str × Value)) : Room k (A.under (.builtin "type.__call__" ⟨.ref C :: us, kw⟩)) :=
 ⟨r.hd, by have := r.dp; rw [make_depth]; omega, by have := r.un; rw [make_units]; omega⟩
theorem Room.depth {k : Nat} {A : Around} (r : Room k A) : A.depth < recursionLimit := by have := r.dp; omega
theorem Room.units {k : Nat} {A : Around} (r : Room k A) : A.units + 64 < cLine := by have := r.un; omega
theorem Room.units0 {k : Nat} {A : Around} (r : Room k A) : A.units < cLine := by have := r.un; omega
def tNil : TA := fun _ H Q => Q [] H
def tCons (ta : TE) (tr : TA) : TA := fun σ H Q => ta σ H fun x H1 => tr σ H1 fun xs H2 => Q (x :: xs) H2
section
variable {X : Cx} {e : Expr} {es : List Expr} {te : TE} {t : TA} {pos : Pos}
theorem pN : PA X [] tNil := fun _ _ _ _ H Q I h => Calls.spliced_nil ⟨[], H, I, .nil, h⟩
theorem pK (ha : PE X e te) (hr : PA X es t) (hs : starEach (e :: es) X.env = (false, eval e X.env) :: starEach es X.env := by rfl) : PA X (e :: es) (tCons te t) := by
 intro pos pins s σ H Q I h
 rw [hs]
 show wpAny _ _ (spliced ((false, eval e X.env) :: backTo pos (starEach es X.env))) _ _ s
 refine Calls.spliced_cons (thn (ha pins s σ H _ I h) fun u s1 ⟨x, H1, I1, r1, q1⟩ => ?_)
 exact thn (hr pos pins s1 σ H1 _ I1 q1) fun us s2 ⟨xs, H2, I2, r2, q2⟩ => ⟨x :: xs, H2, I2, .cons r1 r2, q2⟩
def tTup (t : TA) : TE := fun σ H Q => t σ H fun xs H1 => xs.length ≤ sizeLine ∧ ∀ p, H1 p = none → Q (.ref p) (upd H1 p (.tup xs))
def tLst (t : TA) : TE := fun σ H Q => t σ H fun xs H1 => xs.length ≤ sizeLine ∧ ∀ p, H1 p = none → Q (.ref p) (upd H1 p (.lst xs))
theorem pe_tup {x1} (h : PA X es t) : PE X (.Tuple es x1 pos) (tTup t) := by
 intro pins s σ H Q I hq
 refine wpAny_Tuple_spliced (thn (h pos pins s σ H _ I hq) fun us s1 ⟨xs, H1, I1, r, z, q⟩ => ⟨by rw [← r.length]; exact z, ?_⟩)
 have hf : H1 s1.heap.objs.size = none := I1.hok.fresh (Nat.le_refl _)
 refine ⟨.ref s1.heap.objs.size, upd H1 s1.heap.objs.size (.tup xs), I1.laid (t' := s1.toks) (fun b u e => Heap.get?_push_of_some _ e) (Nat.le_refl _) ?_, rfl, q _ hf⟩
 exact ⟨z, us, r, ⟨_, Heap.get?_push_size _ rfl, rfl, _, rfl⟩⟩
theorem pe_lst (h : PA X es t) : PE X (.List es pos) (tLst t) := by
 intro pins s σ H Q I hq
 refine wpAny_List_spliced (thn (h pos pins s σ H _ I hq) fun us s1 ⟨xs, H1, I1, r, z, q⟩ => ⟨by rw [← r.length]; exact z, ?_⟩)
 have hf : H1 s1.heap.objs.size = none := I1.hok.fresh (Nat.le_refl _)
 refine ⟨.ref s1.heap.objs.size, upd H1 s1.heap.objs.size (.lst xs), I1.laid (t' := s1.toks) (fun b u e => Heap.get?_push_of_some _ e) (Nat.le_refl _) ?_, rfl, q _ hf⟩
 exact ⟨z, us, 0, r, Heap.get?_push_size _ rfl⟩
end
abbrev Sp := List V → Hp → VK → XK → Prop
abbrev CXT := List Env → Hp → Shared → XK → Value → Shared → Prop
structure Env0 (P : Program) (w : World) (K : W.Frag) (mg : Str → Option Value) (base : Heap) (A : Around) (outer : List Env) (s : Shared) (H : Hp) : Prop where
 frames : A.frames = some outer
 mod : Mod K mg base
 bs : ∀ b o, base.get? b = some o → s.heap.get? b = some o ∧ H b = none
 bsz : base.objs.size ≤ s.heap.objs.size
 funs : s.heap.FunFrames base outer
 frf : ∀ b ∈ frs outer, H b = none
 hok : HOk P w H s.heap
 bare : AllBare s.gens
def CE (outer : List Env) (P : Program) (w : World) (H : Hp) (s : Shared) (Q : VK) (u : Value) (s' : Shared) : Prop :=
 ∃ v H', s'.os = s.os ∧ AllBare s'.gens ∧ Un (frs outer) [] H H' s.heap s'.heap ∧ HOk P w H' s'.heap ∧ RelV v u ∧ Q v H'
def CR (CX : CXT) (outer : List Env) (P : Program) (w : World) (H : Hp) (s : Shared) (Q : VK) (E : XK) (r : Result) (s' : Shared) : Prop :=
 match r with
 | .ok (.ret u) => CE outer P w H s Q u s'
 | .ok _ => False
 | .error e => CX outer H s E e s'
structure FnOk (P : Program) (w : World) (K : W.Frag) (mg : Str → Option Value) (base : Heap) (CX : CXT) (k : Nat) (f : Addr) (fd : FuncData) (ps : List Str) (sp : Sp) : Prop where
 len : ∀ vs H Q E, sp vs H Q E → vs.length = ps.length
 run : ∀ (A : Around) (outer : List Env) (s : Shared) (H : Hp) (args : Args) (us : List Value) (vs : List V) (Q : VK) (E : XK), Room k A → Env0 P w K mg base A outer s H → BindsTo s fd args (ps.zip us) → Vals vs us → sp vs H Q E →
   codeAny (model P w) A (.call (.ref f) args) (CR CX outer P w H s Q E) s
theorem FnOk.mono {P : Program} {w : World} {K : W.Frag} {mg : Str → Option Value} {base : Heap} {CX : CXT} {j k : Nat} {f : Addr} {fd : FuncData} {ps : List Str} {sp : Sp} (F : FnOk P w K mg base CX j f fd ps sp) (h : j ≤ k) :
   FnOk P w K mg base CX k f fd ps sp := ⟨F.len, fun A outer s H args us vs Q E hr => F.run A outer s H args us vs Q E (hr.mono h)⟩
theorem Env0.make {P : Program} {w : World} {K : W.Frag} {mg : Str → Option Value} {base : Heap} {A : Around} {outer : List Env} {s : Shared} {H : Hp} (e : Env0 P w K mg base A outer s H) (C : Addr) (us : List Value) (kw : List (Str × Value)) :
   Env0 P w K mg base (A.under (.builtin "type.__call__" ⟨.ref C :: us, kw⟩)) outer s H := ⟨by first | exact e.frames | (simpa [Around.under, Code.envs, Code.isFrame, pushEnvs] using e.frames), e.mod, e.bs, e.bsz, e.funs, e.frf, e.hok, e.bare⟩
section
variable {X : Cx} {pins : List (Addr × Obj)} {σ : St} {H : Hp} {s s' : Shared}
theorem Inv.env0 (I : Inv X pins σ H s) : Env0 X.prog X.w X.K X.mg X.base X.A X.stack s H :=
 ⟨I.ok.frames, I.ok.mod, I.bs, Nat.le_trans I.ok.bsz I.sz, I.stack, I.stkFree, I.hok, I.bare⟩
theorem Inv.after {Q : VK} {u : Value} (I : Inv X pins σ H s) (h : CE X.stack X.prog X.w H s Q u s') : EP X pins σ Q u s' := by
 obtain ⟨v, H', os, bare, un, hok, r, q⟩ := h
 obtain ⟨hh, g, d, t, os'⟩ := s'
 obtain rfl : os' = s.os := os
 exact ⟨v, H', I.call (h' := hh) (g' := g) (d' := d) (t' := t) (ch := []) un hok bare (fun b z => absurd z (by simp)), r, q⟩
end
def tCall (sp : Sp) (dvs : List V) (E : XK) (t : TA) : TE := fun σ H Q => t σ H fun vs H1 => sp (vs ++ dvs) H1 Q E
def tMeth (C : Addr) (m : Str) (sp : Sp) (dvs : List V) (E : XK) (ta : TE) (t : TA) : TE := fun σ H Q => ta σ H fun x H1 => ∃ a dx fs, x = .ref a ∧ H1 a = some (.ins C dx fs) ∧ fs.lookup m = none ∧
 t σ H1 fun vs H2 => sp (x :: (vs ++ dvs)) H2 Q E
def tMake (C : Addr) (sp : Sp) (dvs : List V) (E : XK) (t : TA) : TE := fun σ H Q => t σ H fun vs H1 => ∀ x dx, H1 x = none → H1 dx = none → dx ≠ x →
 sp (.ref x :: (vs ++ dvs)) (upd (upd H1 dx (.own x)) x (.ins C dx [])) (fun v H2 => v = .non ∧ Q (.ref x) H2) E
def Binds (K : W.Frag) (fd : FuncData) (ps : List Str) (ds : List Value) : Prop :=
 ∀ (s : Shared) (us : List Value), K.In s.heap → (us ++ ds).length = ps.length → BindsTo s fd ⟨us, []⟩ (ps.zip (us ++ ds))
theorem Binds.all {K : W.Frag} {fd : FuncData} {ps : List Str} (h : ∀ us : List Value, us.length = ps.length → bindArgs fd ⟨us, []⟩ = pure (ps.zip us)) : Binds K fd ps [] := fun s us _ hl => by
 rw [List.append_nil] at hl ⊢
 exact .of_eq (h us hl)
def Passes (CX : CXT) (X : Cx) (E : XK) : Prop := ∀ (pins : List (Addr × Obj)) (σ : St) (H : Hp) (s : Shared) (e : Value) (s' : Shared), Inv X pins σ H s → CX X.stack H s E e s' → X.xe e s'
section
variable {X : Cx} {CX : CXT} {k : Nat} {f C : Addr} {fd : FuncData} {ps : List Str} {sp : Sp} {dvs : List V} {ds : List Value} {E : XK} {x m : Str} {p pos apos : Pos} {e o : Expr} {es : List Expr} {ta : TE} {t : TA}
theorem run_fn {pins : List (Addr × Obj)} {σ : St} {H : Hp} {s : Shared} {Q : VK} {us : List Value} {vs : List V} (F : FnOk X.prog X.w X.K X.mg X.base CX k f fd ps sp) (hr : Room k X.A) (hb : Binds X.K fd ps ds) (hd : Vals dvs ds) (hx : Passes CX X E)
   (I : Inv X pins σ H s) (r : Vals vs us) (h : sp (vs ++ dvs) H Q E) : wpAny (model X.prog X.w) X.A (call (.ref f) us) (EP X pins σ Q) X.xe s := by
 have r2 : Vals (vs ++ dvs) (us ++ ds) := r.append hd
 have hl : (us ++ ds).length = ps.length := by rw [← r2.length]; exact F.len _ _ _ _ h
 refine wpAny_call (codeAny_mono (F.run X.A X.stack s H ⟨us, []⟩ (us ++ ds) (vs ++ dvs) Q E hr I.env0 (hb s us I.kIn hl) r2 h) fun r s' hq => ?_)
 cases r with
 | error e => exact hx pins σ H s e s' I hq
 | ok fl =>
   cases fl with
   | ret u => exact I.after hq
   | next => exact False.elim hq
   | brk => exact False.elim hq
   | cont => exact False.elim hq
theorem pe_call (F : FnOk X.prog X.w X.K X.mg X.base CX k f fd ps sp) (hr : Room k X.A) (hg : Gl X x) (hm : X.mg x = some (.ref f)) (hk : W.keepIn X.K (.ref f) = true) (hb : Binds X.K fd ps ds) (hd : Vals dvs ds) (hx : Passes CX X E)
   (ha : PA X (e :: es) t) (hdb : (x == ("__debug__" : Str)) = false := by decide) (he : starEach (e :: es) X.env = (false, eval e X.env) :: starEach es X.env := by rfl) (hpl : (backTo pos (starEach es X.env)).any (·.1) = false := by rfl) :
   PE X (.Call (.Name x p) (e :: es) [] pos) (tCall sp dvs E t) := by
 intro pins s σ H Q I h
 refine wpAny_Call_Name_kw (ld_glob I hg hm ?_ hdb)
 refine W.callWith_K (h₀ := X.base) I.ok.mod.kin hk (thn (ha pos pins s σ H _ I h) fun us s1 ⟨vs, H1, I1, r, q⟩ => ⟨I1.kIn, ?_⟩) he hpl
 exact run_fn F hr hb hd hx I1 r q
theorem pe_call0 (F : FnOk X.prog X.w X.K X.mg X.base CX k f fd ps sp) (hr : Room k X.A) (hg : Gl X x) (hm : X.mg x = some (.ref f)) (hk : W.keepIn X.K (.ref f) = true) (hb : Binds X.K fd ps ds) (hd : Vals dvs ds) (hx : Passes CX X E)
   (hdb : (x == ("__debug__" : Str)) = false := by decide) : PE X (.Call (.Name x p) [] [] pos) (tCall sp dvs E tNil) := by
 intro pins s σ H Q I h
 refine wpAny_Call_Name_kw (ld_glob I hg hm ?_ hdb)
 exact W.callWith_K0 I.kIn hk (run_fn (us := []) F hr hb hd hx I .nil h)
theorem pe_meth {pl : Sem Bool} (he : PE X o ta) (c : Cls X.K C) (hm : Meth X.K C m f) (F : FnOk X.prog X.w X.K X.mg X.base CX k f fd ps sp) (hr : Room k X.A) (hb : Binds X.K fd ps ds) (hd : Vals dvs ds) (hx : Passes CX X E) (ha : PA X (e :: es) t)
   (hst : starEach (e :: es) X.env = (false, eval e X.env) :: starEach es X.env := by rfl) (hpl : (backTo pos (starEach es X.env)).any (·.1) = false := by rfl)
   (ht : eval (.Call (.Attribute o m apos) (e :: es) [] pos) X.env = (do
     let ov ← eval o X.env
     standAt apos.atName
     let (f, first) ← holding [ov] (getMethod ov m pl)
     callWith pos f first (backTo pos (starEach (e :: es) X.env)) (backToKw pos (keywordEach [] X.env))) := by rfl) :
   PE X (.Call (.Attribute o m apos) (e :: es) [] pos) (tMeth C m sp dvs E ta t) := by
 intro pins s σ H Q I h
 refine W.methodCall_KW (pl := pl) (thn (he pins s σ H _ I h) fun u s1 ⟨x, H1, I1, rx, a, dx, fs, ex, ea, l, q⟩ => ?_) ht
 subst ex
 obtain rfl : u = Value.ref a := rx
 refine getmeth_ok I1 ea c hm l ?_
 refine W.callWith_K (first := [.ref a]) (h₀ := X.base) I.ok.mod.kin hm.kp (thn (ha pos pins s1 σ H1 _ I1 q) fun us s2 ⟨vs, H2, I2, r, q2⟩ => ⟨I2.kIn, ?_⟩) hst hpl
 exact run_fn (us := .ref a :: us) (vs := .ref a :: vs) F hr hb hd hx I2 (.cons rfl r) q2
theorem pe_meth0 {pl : Sem Bool} (he : PE X o ta) (c : Cls X.K C) (hm : Meth X.K C m f) (F : FnOk X.prog X.w X.K X.mg X.base CX k f fd ps sp) (hr : Room k X.A) (hb : Binds X.K fd ps ds) (hd : Vals dvs ds) (hx : Passes CX X E)
   (ht : eval (.Call (.Attribute o m apos) [] [] pos) X.env = (do
     let ov ← eval o X.env
     standAt apos.atName
     let (f, first) ← holding [ov] (getMethod ov m pl)
     callWith pos f first (backTo pos (starEach [] X.env)) (backToKw pos (keywordEach [] X.env))) := by rfl) :
   PE X (.Call (.Attribute o m apos) [] [] pos) (tMeth C m sp dvs E ta tNil) := by
 intro pins s σ H Q I h
 refine W.methodCall_KW (pl := pl) (thn (he pins s σ H _ I h) fun u s1 ⟨x, H1, I1, rx, a, dx, fs, ex, ea, l, q⟩ => ?_) ht
 subst ex
 obtain rfl : u = Value.ref a := rx
 refine getmeth_ok I1 ea c hm l ?_
 exact W.callWith_K0 (first := [.ref a]) I1.kIn hm.kp (run_fn (us := [.ref a]) (vs := [.ref a]) F hr hb hd hx I1 (.cons rfl .nil) q)
structure Mk (K : W.Frag) (C f : Addr) : Prop where
 makes : W.makesIn K C = true
 init : W.findIn K (.ref C) "__init__" = some (some (.ref f))
 fn : W.isFn K (.ref f) = true
 kp : W.keepIn K (.ref C) = true
theorem run_make {pins : List (Addr × Obj)} {σ : St} {H : Hp} {s : Shared} {Q : VK} {us : List Value} {vs : List V} (M : Mk X.K C f) (F : FnOk X.prog X.w X.K X.mg X.base CX k f fd ps sp) (hr : Room (k + 1) X.A) (hb : Binds X.K fd ps ds) (hd : Vals dvs ds)
   (hx : Passes CX X E) (I : Inv X pins σ H s) (r : Vals vs us)
   (h : ∀ x dx, H x = none → H dx = none → dx ≠ x → sp (.ref x :: (vs ++ dvs)) (upd (upd H dx (.own x)) x (.ins C dx [])) (fun v H2 => v = .non ∧ Q (.ref x) H2) E) :
   wpAny (model X.prog X.w) X.A (call (.ref C) us) (EP X pins σ Q) X.xe s := by
 have hq := h (s.heap.objs.size + 1) s.heap.objs.size (I.hok.fresh (Nat.le_succ _)) (I.hok.fresh (Nat.le_refl _)) (Nat.ne_of_lt (Nat.lt_succ_self _))
 have I2 := Inv.made (C := C) I
 have r2 : Vals (V.ref (s.heap.objs.size + 1) :: (vs ++ dvs)) (Value.ref (s.heap.objs.size + 1) :: (us ++ ds)) := .cons rfl (r.append hd)
 have hl : (Value.ref (s.heap.objs.size + 1) :: us ++ ds).length = ps.length := by
   have e := r2.length
   rw [F.len _ _ _ _ hq] at e
   exact e.symm
 refine wpAny_call (make_map (f := f) I.kIn M.makes M.init (beq_iff_eq.mp M.fn) (codeAny_mono (F.run _ X.stack _ _ ⟨Value.ref (s.heap.objs.size + 1) :: us, []⟩ (Value.ref (s.heap.objs.size + 1) :: (us ++ ds)) _ _ E (hr.make C us [])
   (I2.env0.make C us []) (hb _ (Value.ref (s.heap.objs.size + 1) :: us) I2.kIn hl) r2 hq) fun r s' hq' => ?_))
 cases r with
 | error e => exact hx pins σ _ _ e s' I2 hq'
 | ok fl =>
   cases fl with
   | ret u =>
     obtain ⟨v, H', I3, rv, ev, q3⟩ := I2.after hq'
     subst ev
     exact ⟨rv, ⟨V.ref (s.heap.objs.size + 1), H', I3, rfl, q3⟩⟩
   | next => exact False.elim hq'
   | brk => exact False.elim hq'
   | cont => exact False.elim hq'
theorem pe_make (M : Mk X.K C f) (F : FnOk X.prog X.w X.K X.mg X.base CX k f fd ps sp) (hr : Room (k + 1) X.A) (hg : Gl X x) (hm : X.mg x = some (.ref C)) (hb : Binds X.K fd ps ds) (hd : Vals dvs ds) (hx : Passes CX X E)
   (ha : PA X (e :: es) t) (hdb : (x == ("__debug__" : Str)) = false := by decide) (he : starEach (e :: es) X.env = (false, eval e X.env) :: starEach es X.env := by rfl) (hpl : (backTo pos (starEach es X.env)).any (·.1) = false := by rfl) :
   PE X (.Call (.Name x p) (e :: es) [] pos) (tMake C sp dvs E t) := by
 intro pins s σ H Q I h
 refine wpAny_Call_Name_kw (ld_glob I hg hm ?_ hdb)
 refine W.callWith_K (h₀ := X.base) I.ok.mod.kin M.kp (thn (ha pos pins s σ H _ I h) fun us s1 ⟨vs, H1, I1, r, q⟩ => ⟨I1.kIn, ?_⟩) he hpl
 exact run_make M F hr hb hd hx I1 r q
end
section
variable {X : Cx} {CX : CXT} {k : Nat} {f C : Addr} {fd : FuncData} {ps ks : List Str} {sp : Sp} {E : XK} {x m : Str} {p pos apos kpos : Pos} {e o : Expr} {es : List Expr} {kws : List Keyword} {te ta : TE} {t tk : TA} {nm : Option Str}
structure KBinds (K : W.Frag) (fd : FuncData) (ps ks : List Str) (g : List Value → List Value → List Value) (gV : List V → List V → List V) : Prop where
 to : ∀ (s : Shared) (us ws : List Value), K.In s.heap → (g us ws).length = ps.length → BindsTo s fd ⟨us, ks.zip ws⟩ (ps.zip (g us ws))
 rel : ∀ {vs : List V} {us : List Value} {zs : List V} {ws : List Value}, Vals vs us → Vals zs ws → Vals (gV vs zs) (g us ws)
variable {g : List Value → List Value → List Value} {gV : List V → List V → List V}
end
structure fSc (N P : List Str) (sc : Scope) : Prop where
 kind : sc.kind = .function
 co : sc.isCoroutine = false
 gen : sc.isGenerator = false
 nd : N.Nodup
 pre : N.take P.length = P
 par : ∀ x ∈ P, sc.names.lookup x = some .local ∨ sc.names.lookup x = some .cell
 nofree : ∀ y ∈ sc.names, y.2 ≠ .free
theorem bindL_out {kindOf : Str → Option NameKind} {x : Str} : ∀ {binds : List (Str × Value)} {m : Str → Option Value}, (∀ v, (x, v) ∉ binds) → bindL kindOf binds m x = m x
 | [], _, _ => rfl
 | (n, v) :: r, m, h => by
   unfold bindL
   rw [bindL_out fun w hw => h w (List.mem_cons_of_mem _ hw)]
   split
   · have : x ≠ n := by rintro rfl; exact h v List.mem_cons_self
     simp [this]
   · rfl
theorem bindC_out {kindOf : Str → Option NameKind} {x : Str} : ∀ {binds : List (Str × Value)} {m : Str → Option Value}, (∀ v, (x, v) ∉ binds) → bindC kindOf binds m x = m x
 | [], _, _ => rfl
 | (n, v) :: r, m, h => by
   unfold bindC
   rw [bindC_out fun w hw => h w (List.mem_cons_of_mem _ hw)]
   split
   · rfl
   · have : x ≠ n := by rintro rfl; exact h v List.mem_cons_self
     simp [this]
theorem bindL_get {kindOf : Str → Option NameKind} {x : Str} {v : Value} : ∀ {P : List Str} {vs : List Value} {i : Nat} {m : Str → Option Value}, P.Nodup → P[i]? = some x → vs[i]? = some v → kindOf x = some .local →
   bindL kindOf (P.zip vs) m x = some v
 | [], _, _, _, _, h, _, _ => by simp at h
 | _ :: _, [], _, _, _, _, h, _ => by simp at h
 | p :: P, w :: vs, 0, m, nd, h1, h2, hk => by
   simp at h1 h2; subst h1; subst h2
   show bindL kindOf ((p, w) :: P.zip vs) m p = _
   unfold bindL
   rw [bindL_out fun v hv => (List.nodup_cons.mp nd).1 (List.of_mem_zip hv).1, if_pos hk]
   simp
 | p :: P, w :: vs, i + 1, m, nd, h1, h2, hk => by
   show bindL kindOf ((p, w) :: P.zip vs) m x = _
   unfold bindL
   exact bindL_get (i := i) (List.nodup_cons.mp nd).2 (by simpa using h1) (by simpa using h2) hk
theorem bindC_get {kindOf : Str → Option NameKind} {x : Str} {v : Value} : ∀ {P : List Str} {vs : List Value} {i : Nat} {m : Str → Option Value}, P.Nodup → P[i]? = some x → vs[i]? = some v → kindOf x ≠ some .local →
   bindC kindOf (P.zip vs) m x = some v
 | [], _, _, _, _, h, _, _ => by simp at h
 | _ :: _, [], _, _, _, _, h, _ => by simp at h
 | p :: P, w :: vs, 0, m, nd, h1, h2, hk => by
   simp at h1 h2; subst h1; subst h2
   show bindC kindOf ((p, w) :: P.zip vs) m p = _
   unfold bindC
   rw [bindC_out fun v hv => (List.nodup_cons.mp nd).1 (List.of_mem_zip hv).1, if_neg hk]
   simp
 | p :: P, w :: vs, i + 1, m, nd, h1, h2, hk => by
   show bindC kindOf ((p, w) :: P.zip vs) m x = _
   unfold bindC
   exact bindC_get (i := i) (List.nodup_cons.mp nd).2 (by simpa using h1) (by simpa using h2) hk
def start (N : List Str) (vs : List V) : St := vs.map some ++ List.replicate (N.length - vs.length) none
def cxOf (CX : CXT) (P : Program) (w : World) (K : W.Frag) (mg : Str → Option Value) (base : Heap) (N : List Str) (qual : Str) (scope : Scope) (f : Addr) (cd : Value) (A : Around) (outer : List Env) (s : Shared) (H : Hp) (E : XK) : Cx where
 prog := P
 w := w
 K := K
 mg := mg
 base := base
 A := A.deeper (envOfC qual scope s.heap.objs.size f cd)
 N := N
 s₀ := s
 H₀ := H
 env := envOfC qual scope s.heap.objs.size f cd
 outer := outer
 stack := envOfC qual scope s.heap.objs.size f cd :: outer
 ex := []
 calm := true
 fn := fun _ => true
 pn := []
 xe := fun e s' => wpAny (model P w) (A.deeper (envOfC qual scope s.heap.objs.size f cd)) (leaving (envOfC qual scope s.heap.objs.size f cd) e) (fun _ s'' => CX outer H s E e s'') (fun e' s'' => CX outer H s E e' s'') s'
theorem cell_has {sc : Scope} {n : Nat} {x : Str} (h : sc.names.lookup x = some .cell) : ∃ c, (cellsFrom n sc.names []).lookup x = some c := by
 have q := W.cellsFrom_some sc.names n [] (.inl h)
 exact Option.isSome_iff_exists.mp q
theorem inv_start {CX : CXT} {P : Program} {w : World} {K : W.Frag} {mg : Str → Option Value} {base : Heap} {N ps : List Str} {qual : Str} {scope : Scope} {f : Addr} {cd : Value} {A : Around} {outer : List Env} {s s1 : Shared} {H : Hp} {E : XK} {us : List Value} {vs : List V}
   (S : fSc N ps scope) (hd : A.handled = none) (e0 : Env0 P w K mg base A outer s H) (hl : vs.length = ps.length) (r : Vals vs us)
   (x : InCallC s s.heap.objs.size (bindL (envOfC qual scope s.heap.objs.size f cd).kindOf (ps.zip us) fun _ => none) (cellsFrom (s.heap.objs.size + 1) scope.names []) (bindC (envOfC qual scope s.heap.objs.size f cd).kindOf (ps.zip us) fun _ => none) s1) :
   Inv (cxOf CX P w K mg base N qual scope f cd A outer s H E) [] (start N vs) H s1 := by
 have hpl : ps.length ≤ N.length := by have := congrArg List.length S.pre; rw [List.length_take] at this; omega
 obtain ⟨h1, tk, rfl, hk⟩ := x.done
 have noA : ∀ b : Addr, b ∉ (cxOf CX P w K mg base N qual scope f cd A outer s H E).ex := fun b z => absurd (show b ∈ ([] : List Addr) from z) (by simp)
 refine ⟨⟨e0.mod, S.kind, rfl, rfl, Nat.le_refl _, fun y z c h1 h2 => ?_, fun y hy => ?_, fun y c _ h => ?_, fun _ => hd, Around.frames_deeper e0.frames, .inr ⟨rfl, rfl⟩, fun b z => absurd z (noA b), e0.bs, e0.bsz, fun b _ _ => noA b, fun b z => absurd z (noA b), e0.funs, e0.frf⟩,
   rfl, e0.bare, Un.kept hk, ⟨_, x.toInCall.ns, fun i y v h1 h2 h3 => ?_⟩, fun y c h => ⟨_, x.cell y c h⟩, e0.hok.fresh (Nat.le_refl _), fun y c h => ?_, fun p hp => absurd (show p ∈ ([] : List (Addr × Obj)) from hp) (by simp), e0.hok.kept hk, ?_⟩
 · exact name_of_addr x.apart (PySem.mem_of_lookup h1) (PySem.mem_of_lookup h2)
 · have hy : scope.names.lookup y = some .cell ∨ scope.names.lookup y = some .free := hy
   rcases hy with hy | hy
   · exact cell_has hy
   · exact absurd rfl (S.nofree _ (PySem.mem_of_lookup hy))
 · exact Nat.le_of_lt (x.above y c (PySem.mem_of_lookup h))
 · have hi : i < vs.length := by
     unfold start at h2
     by_cases hi : i < vs.length
     · exact hi
     · rw [List.getElem?_append_right (by simpa using hi)] at h2
       rw [List.getElem?_replicate] at h2
       split at h2 <;> cases h2
   have ha : vs[i]? = some v := by
     unfold start at h2
     rw [List.getElem?_append_left (by simpa using hi), List.getElem?_map] at h2
     cases e : vs[i]? with
     | none => rw [e] at h2; cases h2
     | some a => rw [e] at h2; cases h2; rfl
   obtain ⟨u, hu, rv⟩ := r.get ha
   have hp : ps[i]? = some y := by
     rw [← S.pre, List.getElem?_take_of_lt (by omega)]; exact h1
   have ndP : ps.Nodup := by rw [← S.pre]; exact S.nd.sublist (List.take_sublist _ _)
   refine ⟨u, rv, ?_⟩
   rcases S.par y (List.mem_of_getElem? hp) with k | k
   · exact .inl ⟨k, bindL_get ndP hp hu k⟩
   · obtain ⟨c, e⟩ := cell_has (n := s.heap.objs.size + 1) k
     refine .inr ⟨.inl k, c, e, ?_⟩
     have q := x.cell y c e
     rw [bindC_get ndP hp hu (by show scope.names.lookup y ≠ _; rw [k]; decide)] at q
     exact q
 · exact e0.hok.fresh (Nat.le_of_lt (x.above y c (PySem.mem_of_lookup h)))
 · unfold start
   show _ = N.length
   rw [List.length_append, List.length_map, List.length_replicate]
   omega
theorem fn_of {CX : CXT} {P : Program} {w : World} {K : W.Frag} {mg : Str → Option Value} {base : Heap} {k : Nat} {f : Addr} {name qual : Str} {params : Arguments} {body : List Stmt} {scope : Scope} {dV kV doc pm cdv ct oc : Value} {an od : Option Addr}
   {osl : Array (Option Value)} {N ps : List Str} {sp : Sp} (lk : K.lookup f = some ⟨oc, od, .func (W.fnOf name qual params body scope dV kV doc pm an cdv ct), osl⟩) (hcd : W.codeIn K cdv qual = true) (S : fSc N ps scope)
   (len : ∀ vs H Q E, sp vs H Q E → vs.length = ps.length)
   (hbody : ∀ (A : Around) (outer : List Env) (s : Shared) (H : Hp) (vs : List V) (Q : VK) (E : XK), Room k (A.deeper (envOfC qual scope s.heap.objs.size f cdv)) → sp vs H Q E →
     ∃ t, PSs (cxOf CX P w K mg base N qual scope f cdv A outer s H E) body t ∧ t { nx := fun _ H' => Q .non H', rt := Q } (start N vs) H) :
   FnOk P w K mg base CX (k + 1) f (W.fnOf name qual params body scope dV kV doc pm an cdv ct) ps sp := by
 refine ⟨len, fun A outer s H args us vs Q E hr e0 hb r hsp => ?_⟩
 have hl := len _ _ _ _ hsp
 have KX : K.In s.heap := e0.mod.kin.keeps fun b o e => (e0.bs b o e).1
 have lim : s.heap.NoLimit := e0.mod.nolimit.keeps fun b o e => (e0.bs b o e).1
 have hkind : ∀ y ∈ ps.zip us, scope.names.lookup y.1 = some .local ∨ (scope.names.lookup y.1 = some .cell ∧ ((cellsFrom (s.heap.objs.size + 1) scope.names []).lookup y.1).isSome = true) := fun ⟨n, v⟩ hy => by
   rcases S.par n (List.of_mem_zip hy).1 with q | q
   · exact .inl q
   · exact .inr ⟨q, W.cellsFrom_some _ _ _ (.inl q)⟩
 refine codeAny_call_function hr.depth (KX _ _ lk) rfl S.co S.gen rfl (W.codeRec_of KX hcd) (hb _ _ _ _ ?_)
 refine wpAny_newFunctionEnv_cells S.kind hkind fun env he s1 x => ?_
 subst he
 refine ⟨lim.keeps x.toInCall.keep, codeAny_func ?_⟩
 obtain ⟨t, ht, hq⟩ := hbody A outer s H vs Q E (hr.deeper _) hsp
 have I : Inv (cxOf CX P w K mg base N qual scope f cdv A outer s H E) [] (start N vs) H s1 := inv_start S hr.hd e0 hl r x
 refine wpAny_mono (ht [] s1 (start N vs) H _ I hq) (fun fl s' hs => ?_) fun e s' hs => hs
 have fin : ∀ {σ' : St} {H' : Hp} {v : V} {u : Value}, Inv (cxOf CX P w K mg base N qual scope f cdv A outer s H E) [] σ' H' s' → RelV v u → Q v H' → CE outer P w H s Q u s' :=
   fun {σ' H' v u} J rv q => ⟨v, H', J.os, J.bare, J.base, J.hok, rv, q⟩
 cases fl with
 | ret u =>
   obtain ⟨v, σ', H', J, rv, q⟩ := hs
   exact fin J rv q
 | next =>
   obtain ⟨σ', H', J, q⟩ := hs
   exact fin (v := V.non) (u := Value.none) J rfl q
 | brk =>
   obtain ⟨_, _, _, q⟩ := hs
   exact False.elim q
 | cont =>
   obtain ⟨_, _, _, q⟩ := hs
   exact False.elim q
end L2
namespace L2
open PySem PySem.Spec PyProof.Rows
section
variable {X : Cx} {x : Str} {p pos : Pos} {e : Expr} {es : List Expr} {t : TA} {id T : String} {r : List V → Hp → VK → Prop}
def tCB (r : List V → Hp → VK → Prop) (t : TA) : TE := fun σ H Q => t σ H fun vs H1 => r vs H1 Q
theorem eZ (hc : CallR X (.builtin id) r) (hg : Gl X x) (hm : X.mg x = none) (hv : bootBuiltins x = some (.builtin id)) (ha : PA X (e :: es) t) (hn : x ≠ "__name__" := by decide) (hdb : (x == ("__debug__" : Str)) = false := by decide)
   (he : starEach (e :: es) X.env = (false, eval e X.env) :: starEach es X.env := by rfl) (hpl : (backTo pos (starEach es X.env)).any (·.1) = false := by rfl) : PE X (.Call (.Name x p) (e :: es) [] pos) (tCB r t) := by
 intro pins s σ H Q I h
 refine wpAny_Call_Name_kw (ld_blt I hg hm hv ?_ hn hdb)
 exact PyProof.Rows.callWith_builtin1 (thn (ha pos pins s σ H _ I h) fun us s1 ⟨vs, H1, I1, r1, q1⟩ => hc pins s1 σ H1 vs us Q I1 r1 q1) he hpl
theorem eT (hc : CallR X (.type T) r) (hg : Gl X x) (hm : X.mg x = none) (hv : bootBuiltins x = some (.type T)) (ha : PA X (e :: es) t) (hn : x ≠ "__name__" := by decide) (hdb : (x == ("__debug__" : Str)) = false := by decide)
   (he : starEach (e :: es) X.env = (false, eval e X.env) :: starEach es X.env := by rfl) (hpl : (backTo pos (starEach es X.env)).any (·.1) = false := by rfl) : PE X (.Call (.Name x p) (e :: es) [] pos) (tCB r t) := by
 intro pins s σ H Q I h
 refine wpAny_Call_Name_kw (ld_blt I hg hm hv ?_ hn hdb)
 exact PyProof.Rows.callWith_type1 (thn (ha pos pins s σ H _ I h) fun us s1 ⟨vs, H1, I1, r1, q1⟩ => hc pins s1 σ H1 vs us Q I1 r1 q1) he hpl
end
end L2
namespace HT
open PySem PyProof.Rows
section
open PySem.SeqAt
open PySem.AutoSeq1 (wpAny_loadPart')
open PySem.MeetsSeq PySem.MeetsSeq2 PySem.MeetsSeq3
end
section
variable {prog : Program} {w : World} {A : Around} {E : Value → Shared → Prop} {s : Shared}
theorem cat_tup {t b : Addr} {vs ws : List Value} {Q : Value → Shared → Prop} (ht : IsTup s.heap t vs.toArray) (hb : IsTup s.heap b ws.toArray) (hv : vs ≠ [])
   (h1 : ws = [] → Q (.ref t) s) (h2 : ws ≠ [] → Q (.ref s.heap.objs.size) { s with heap := s.heap.push { cls := .type "tuple", data := .seq (vs ++ ws).toArray } })
   (hsz : vs.length + ws.length ≤ sizeLine) : wpAny (model prog w) A (binaryOp .Add (.ref t) (.ref b)) Q E s := by
 obtain ⟨⟨cls, dd, data, sl⟩, ho, hc, n, hd⟩ := id ht
 obtain ⟨⟨cls2, dd2, data2, sl2⟩, ho2, hc2, n2, hd2⟩ := id hb
 simp only at hc hd hc2 hd2
 subst hc hd hc2 hd2
 have e : vs.toArray ++ ws.toArray = (vs ++ ws).toArray := by simp
 by_cases hw : ws = []
 · exact concat_meets ⟨_, ho, rfl⟩ ⟨_, ho2, rfl⟩ noFill_tuple_add seq_tuple_add PySem.F.slot_tuple_add PySem.F.entry_tuple_add (PySem.F.args_tuple_add_2 _ _)
     (tuple_addW1 t b vs.toArray ws.toArray n n2 dd dd2 sl sl2 (by simpa using hv) (by simp [hw])) ⟨ho, ho2, h1 hw⟩
 · refine concat_meets ⟨_, ho, rfl⟩ ⟨_, ho2, rfl⟩ noFill_tuple_add seq_tuple_add PySem.F.slot_tuple_add PySem.F.entry_tuple_add (PySem.F.args_tuple_add_2 _ _)
     (tuple_addW2 t b vs.toArray ws.toArray n n2 dd dd2 sl sl2 (by simpa using hv) (by simpa using hw) (by rw [List.size_toArray, List.size_toArray]; exact hsz)) ⟨ho, ho2, ?_⟩
   rw [e]
   exact h2 hw
end
end HT
namespace L2
open PySem PySem.Spec PyProof.Rows
theorem intsAre_of {ns : List Int} : ∀ {us : List Value}, Vals (ns.map V.int) us → IntsAre us ns := by
 induction ns with
 | nil => intro us r; rw [List.map_nil] at r; cases r; exact .nil
 | cons n ns ih =>
   intro us r
   rw [List.map_cons] at r
   cases r with
   | cons r1 r2 =>
     obtain ⟨t, e⟩ := r1
     subst e
     exact .cons n t (ih r2)
section
variable {X : Cx} {e : Expr} {te : TE} {lo hi : Option Expr} {tl th : TO} {pos p2 : Pos}
def rCatT (K : W.Frag) : R2 := fun x y H Q => ∃ a b xs ys, x = .ref a ∧ y = .ref b ∧ SqT K H a xs ∧ SqT K H b ys ∧ xs ≠ [] ∧ xs.length + ys.length ≤ sizeLine ∧
 (ys = [] → Q (.ref a) H) ∧ (ys ≠ [] → ∀ p, H p = none → Q (.ref p) (upd H p (.tup (xs ++ ys))))
theorem Vals.nil_iff {xs : List V} {us : List Value} (r : Vals xs us) : us = [] ↔ xs = [] := by
 cases r with
 | nil => simp
 | cons _ _ => simp
theorem op_catT : OpR X (binaryOp .Add) (rCatT X.K) := by
 intro pins s σ H x y v u Q I rx ry h
 obtain ⟨a, b, xs, ys, rfl, rfl, ha, hb, hx, hz, q1, q2⟩ := h
 cases rx
 cases ry
 obtain ⟨its, r1, p1, _⟩ := I.tuple ha
 obtain ⟨its2, r2, p2, _⟩ := I.tuple hb
 refine HT.cat_tup p1 p2 (fun z => hx (r1.nil_iff.mp z)) (fun z => ⟨.ref a, H, I, rfl, q1 (r2.nil_iff.mp z)⟩) (fun z => ?_) (by rw [← r1.length, ← r2.length]; exact hz)
 refine ⟨.ref s.heap.objs.size, _, I.laid (t' := s.toks) (o := .tup (xs ++ ys)) (fun b ob q => Heap.get?_push_of_some _ q) (Nat.le_refl _) ?_, rfl, q2 (fun w => z (r2.nil_iff.mpr w)) _ (I.hok.fresh (Nat.le_refl _))⟩
 exact ⟨by rw [List.length_append]; exact hz, _, r1.append r2, IsTup.new _ _⟩
end
end L2
namespace L2
open PySem PySem.Spec PyProof.Rows
def ixN (n : Nat) (i : Int) : Option Nat := if 0 ≤ i then (if i < n then some i.toNat else none) else if -(n : Int) ≤ i then some (i + n).toNat else none
def atI {α : Type} (xs : List α) (i : Int) : Option α := (ixN xs.length i).bind fun j => xs[j]?
theorem ixN_seq {n : Nat} {i : Int} {j : Nat} (h : ixN n i = some j) : seqIndex? i n = some j ∧ j < n ∧ -(n : Int) ≤ i ∧ i < n := by
 unfold ixN at h
 by_cases h0 : 0 ≤ i
 · rw [if_pos h0] at h
   by_cases h1 : i < n
   · rw [if_pos h1] at h
     have e : i.toNat = j := Option.some.inj h
     exact ⟨by rw [seqIndex_of h0 h1, e], by omega, by omega, h1⟩
   · rw [if_neg h1] at h; cases h
 · rw [if_neg h0] at h
   by_cases h1 : -(n : Int) ≤ i
   · rw [if_pos h1] at h
     have e : (i + n).toNat = j := Option.some.inj h
     exact ⟨by rw [seqIndex_neg (by omega) h1, e], by omega, h1, by omega⟩
   · rw [if_neg h1] at h; cases h
theorem atI_get {α : Type} {xs : List α} {i : Int} {v : α} (h : atI xs i = some v) : ∃ j, seqIndex? i xs.length = some j ∧ xs[j]? = some v ∧ j < xs.length ∧ -(xs.length : Int) ≤ i ∧ i < xs.length := by
 unfold atI at h
 cases e : ixN xs.length i with
 | none => rw [e] at h; cases h
 | some j =>
   rw [e] at h
   obtain ⟨h1, h2, h3, h4⟩ := ixN_seq e
   exact ⟨j, h1, h, h2, h3, h4⟩
theorem atI_nat {α : Type} {xs : List α} {j : Nat} {v : α} (h : xs[j]? = some v) : atI xs (j : Int) = some v := by
 have hj : j < xs.length := (List.getElem?_eq_some_iff.mp h).1
 have e : ixN xs.length (j : Int) = some j := by
   unfold ixN
   rw [if_pos (by omega), if_pos (by omega)]; simp
 unfold atI; rw [e]; exact h
def PlainIx (b : Expr) : Prop := ∀ o i, subscripted b false o i = operate [o, i] (getItem o i)
def IxR (X : Cx) (r : R2) : Prop :=
 ∀ (value slice : Expr) (pins : List (Addr × Obj)) (s : Shared) (σ : St) (H : Hp) (x y : V) (v u : Value) (Q : VK), Inv X pins σ H s → RelV x v → RelV y u → r x y H Q →
   subscripted slice false v u = operate [v, u] (getItem v u) → wpAny (model X.prog X.w) X.A (subscriptTail value slice v u) (EP X pins σ Q) X.xe s
def MtR (X : Cx) (id : String) (r : V → List V → Hp → VK → Prop) : Prop :=
 ∀ (pins : List (Addr × Obj)) (s : Shared) (σ : St) (H : Hp) (x : V) (xs : List V) (v : Value) (us : List Value) (Q : VK), Inv X pins σ H s → RelV x v → Vals xs us → r x xs H Q →
   wpAny (model X.prog X.w) X.A (call (.builtin id) (v :: us)) (EP X pins σ Q) X.xe s
section
variable {X : Cx} {a b : Expr} {ta tb : TE} {pos : Pos}
theorem pe_ix {r : R2} (hr : IxR X r) (ha : PE X a ta) (hb : PE X b tb) (hs : PlainIx b) : PE X (.Subscript a b pos) (tOp r ta tb) := by
 intro pins s σ H Q I h
 exact Subscript_ (binT ha hb I h fun v u s2 x y H2 I2 rx ry q => hr a b pins s2 σ H2 x y v u Q I2 rx ry q (hs _ _))
def rIxL (K : W.Frag) : R2 := fun x y H Q => ∃ p xs i v, x = .ref p ∧ y = .int i ∧ SqL K H p xs ∧ atI xs i = some v ∧ Q v H
def rIxT (K : W.Frag) : R2 := fun x y H Q => ∃ p xs i v, x = .ref p ∧ y = .int i ∧ SqT K H p xs ∧ atI xs i = some v ∧ Q v H
theorem ix_list : IxR X (rIxL X.K) := by
 intro value slice pins s σ H x y v u Q I rx ry h hs
 obtain ⟨p, xs, i, z, rfl, rfl, hq, he, q⟩ := h
 cases rx
 obtain ⟨t, rfl⟩ := ry
 obtain ⟨its, r, pl, hz⟩ := I.list hq
 obtain ⟨j, h1, h2, h3, h4, h5⟩ := atI_get he
 obtain ⟨w, ew, rw'⟩ := r.get h2
 have hl := r.length
 have hn := line63
 have fin : EP X pins σ Q w s := ⟨z, H, I, rw', q⟩
 by_cases h0 : 0 ≤ i
 · have hj : i.toNat = j := by
     rw [seqIndex_of h0 h5] at h1
     exact Option.some.inj h1
   exact item_listR pl.isList h0 (by omega) (by rw [hj]; simpa using ew) fin hs
 · have hj : (i + (its.toArray.size : Int)).toNat = j := by
     rw [seqIndex_neg (by omega) h4] at h1
     rw [List.size_toArray, ← hl]
     exact Option.some.inj h1
   exact subscriptTail_builtinR (x := w) pl.isList.typeIs slot_list_getitem.lookup
     (wpAny_getItem_list_neg (Q := fun r s' => r = w ∧ EP X pins σ Q r s') pl.isList (by omega) (by rw [List.size_toArray] <;> omega) (by omega) (by rw [hj]; simpa using ew) ⟨rfl, fin⟩) hs
theorem ix_tup : IxR X (rIxT X.K) := by
 intro value slice pins s σ H x y v u Q I rx ry h hs
 obtain ⟨p, xs, i, z, rfl, rfl, hq, he, q⟩ := h
 cases rx
 obtain ⟨t, rfl⟩ := ry
 obtain ⟨its, r, pl, hz⟩ := I.tuple hq
 obtain ⟨j, h1, h2, h3, h4, h5⟩ := atI_get he
 obtain ⟨w, ew, rw'⟩ := r.get h2
 have hl := r.length
 have hn := line63
 have fin : EP X pins σ Q w s := ⟨z, H, I, rw', q⟩
 exact subscriptTail_builtinR (x := w) pl.typeIs slot_tuple_getitem.lookup
   (getItem_tuple (j := j) (Q := fun r s' => r = w ∧ EP X pins σ Q r s') pl (by omega) (by omega) (by rw [List.size_toArray, ← hl]; exact h1) (by simpa using ew) ⟨rfl, fin⟩) hs
theorem mapSeq_set (its : List Value) (n j : Nat) (u : Value) : Obj.mapSeq (·.setIfInBounds j u) { cls := .type "list", data := .seq its.toArray n } = { cls := .type "list", data := .seq (its.set j u).toArray n } := by
 simp [Obj.mapSeq]
theorem Inv.lst {pins : List (Addr × Obj)} {σ : St} {H : Hp} {s : Shared} {p : Addr} {xs : List V} (I : Inv X pins σ H s) (h : H p = some (.lst xs)) :
   ∃ (its : List Value) (n : Nat), Vals xs its ∧ s.heap.get? p = some { cls := .type "list", data := .seq its.toArray n } ∧ xs.length ≤ sizeLine := by
 obtain ⟨z, its, n, r, e⟩ := I.hok p _ h
 exact ⟨its, n, r, e, z⟩
theorem Inv.lstUpd {pins : List (Addr × Obj)} {σ : St} {H : Hp} {s : Shared} {p : Addr} {xs ys : List V} {its its' : List Value} {n n' : Nat} {f : Obj → Obj} (I : Inv X pins σ H s) (h : H p = some (.lst xs))
   (ho : s.heap.get? p = some { cls := .type "list", data := .seq its.toArray n }) (hf : f { cls := .type "list", data := .seq its.toArray n } = { cls := .type "list", data := .seq its'.toArray n' }) (r : Vals ys its') (hz : ys.length ≤ sizeLine) (t : Nat) :
   Inv X pins σ (upd H p (.lst ys)) { s with heap := s.heap.update p f, toks := t } := by
 have e : (s.heap.update p f).get? p = some { cls := .type "list", data := .seq its'.toArray n' } := by
   rw [Heap.get?_update_self f ho (by rw [hf] <;> rfl), hf]
 refine I.write (x := p) (e := p) (by rw [h]; trivial) (.inl rfl) (fun b u hb q => (Heap.get?_update_other _ _ (Ne.symm hb)).trans q) ⟨_, e⟩ ?_
 exact ⟨hz, its', n', r, e⟩
def rSetL : V → V → V → Hp → (Hp → Prop) → Prop := fun o i v H Q => ∃ p xs k j, o = .ref p ∧ i = .int k ∧ H p = some (.lst xs) ∧ ixN xs.length k = some j ∧ Q (upd H p (.lst (xs.set j v)))
theorem set_list : PSet X rSetL := by
 intro pins s σ H o i v ov iv u Q I ro ri rv h
 obtain ⟨p, xs, k, j, rfl, rfl, hp, hj, q⟩ := h
 cases ro
 obtain ⟨t, rfl⟩ := ri
 obtain ⟨its, n, r, ho, hz⟩ := I.lst hp
 obtain ⟨h1, h2, h3, h4⟩ := ixN_seq hj
 have hl := r.length
 have hn := line63
 have I' : Inv X pins σ (upd H p (.lst (xs.set j v))) { s with heap := s.heap.update p (Obj.mapSeq (·.setIfInBounds j u)) } :=
   I.lstUpd hp ho (mapSeq_set its n j u) (r.set rv j) (by rw [List.length_set]; exact hz) s.toks
 by_cases h0 : 0 ≤ k
 · have hk : k.toNat = j := by
     rw [seqIndex_of h0 h4] at h1
     exact Option.some.inj h1
   exact W.ki_setAt ho h0 (by omega) (by rw [List.size_toArray, ← hl]; exact h4) (by rw [hk]; exact ⟨_, I', q⟩)
 · have hk : (k + (its.toArray.size : Int)).toNat = j := by
     rw [seqIndex_neg (by omega) h3] at h1
     rw [List.size_toArray, ← hl]
     exact Option.some.inj h1
   exact W.ki_setBack ho (by omega) (by rw [List.size_toArray, ← hl]; exact h3) (by omega) (by rw [hk]; exact ⟨_, I', q⟩)
def flatV : V → Bool
 | .non => true
 | .bl _ => true
 | .int _ => true
 | .str _ => true
 | _ => false
def eqV : V → V → Bool
 | .non, .non => true
 | .bl a, .bl b => a == b
 | .bl a, .int b => (if a then 1 else 0) == b
 | .int a, .bl b => a == (if b then 1 else 0)
 | .int a, .int b => a == b
 | .str a, .str b => a == b
 | _, _ => false
theorem eqAt_V {A : Around} {s : Shared} {y x : V} {u v : Value} (ry : RelV y u) (rx : RelV x v) (fy : flatV y = true) (fx : flatV x = true) : SeqAt.EqAt A s u v (eqV y x) := by
 cases y with
 | non =>
   cases ry
   cases x with
   | non => cases rx; exact SeqAt.EqAt.same _
   | bl b => cases rx; exact SeqAt.EqAt.none_bool b
   | int b => obtain ⟨t, rfl⟩ := rx; exact SeqAt.EqAt.none_int b t
   | str b => obtain ⟨t, rfl⟩ := rx; exact SeqAt.EqAt.none_str b t
   | _ => exact absurd (show false = true from fx) Bool.false_ne_true
 | bl a =>
   cases ry
   cases x with
   | non => cases rx; exact SeqAt.EqAt.bool_none a
   | bl b => cases rx; exact SeqAt.EqAt.bool_bool a b
   | int b => obtain ⟨t, rfl⟩ := rx; exact SeqAt.EqAt.bool_int a b t
   | str b => obtain ⟨t, rfl⟩ := rx; exact SeqAt.EqAt.bool_str a b t
   | _ => exact absurd (show false = true from fx) Bool.false_ne_true
 | int a =>
   obtain ⟨t', rfl⟩ := ry
   cases x with
   | non => cases rx; exact SeqAt.EqAt.int_none a t'
   | bl b => cases rx; exact SeqAt.EqAt.int_bool a t' b
   | int b => obtain ⟨t, rfl⟩ := rx; exact SeqAt.EqAt.int_int a t' b t
   | str b => obtain ⟨t, rfl⟩ := rx; exact SeqAt.EqAt.int_str a t' b t
   | _ => exact absurd (show false = true from fx) Bool.false_ne_true
 | str a =>
   obtain ⟨t', rfl⟩ := ry
   cases x with
   | non => cases rx; exact SeqAt.EqAt.str_none a t'
   | bl b => cases rx; exact SeqAt.EqAt.str_bool a t' b
   | int b => obtain ⟨t, rfl⟩ := rx; exact SeqAt.EqAt.str_int a t' b t
   | str b => obtain ⟨t, rfl⟩ := rx; exact SeqAt.EqAt.str_str a t' b t
   | _ => exact absurd (show false = true from fx) Bool.false_ne_true
 | _ => exact absurd (show false = true from fy) Bool.false_ne_true
def eqU (x : V) (u : Value) : Bool := match u with
 | .none => eqV .non x
 | .bool b => eqV (.bl b) x
 | .int i _ => eqV (.int i) x
 | .str z _ => eqV (.str z) x
 | _ => false
theorem eqU_of {x y : V} {u : Value} (r : RelV y u) (f : flatV y = true) : eqU x u = eqV y x := by
 cases y with
 | non => cases r; rfl
 | bl b => cases r; rfl
 | int i => obtain ⟨t, rfl⟩ := r; rfl
 | str z => obtain ⟨t, rfl⟩ := r; rfl
 | _ => exact absurd (show false = true from f) Bool.false_ne_true
theorem any_eqU {x : V} : ∀ {xs : List V} {us : List Value}, Vals xs us → xs.all flatV = true → us.any (eqU x) = xs.any fun y => eqV y x
 | _, _, .nil, _ => rfl
 | y :: xs, u :: us, .cons r t, f => by
   rw [List.all_cons, Bool.and_eq_true] at f
   rw [List.any_cons, List.any_cons, eqU_of r f.1, any_eqU t f.2]
theorem mem_eqAt {A : Around} {s : Shared} {x : V} {v : Value} (rx : RelV x v) (fx : flatV x = true) : ∀ {xs : List V} {us : List Value}, Vals xs us → xs.all flatV = true → ∀ u ∈ us, SeqAt.EqAt A s u v (eqU x u)
 | _, _, .nil, _ => fun u hu => by cases hu
 | y :: xs, u :: us, .cons r t, f => fun u' hu => by
   rw [List.all_cons, Bool.and_eq_true] at f
   rcases List.mem_cons.mp hu with rfl | hu
   · rw [eqU_of r f.1]; exact eqAt_V r rx f.1 fx
   · exact mem_eqAt rx fx t f.2 u' hu
def inV (x : V) (xs : List V) : Bool := xs.any fun y => eqV y x
def rIn (K : W.Frag) (neg : Bool) : R2 := fun x y H Q => ∃ p xs, y = .ref p ∧ (SqL K H p xs ∨ SqT K H p xs) ∧ flatV x = true ∧ xs.all flatV = true ∧ Q (.bl (if neg then !inV x xs else inV x xs)) H
theorem op_in_seq : OpR X (compareOp .In) (rIn X.K false) := by
 intro pins s σ H x y v u Q I rx ry h
 obtain ⟨p, xs, rfl, hq, fx, fs, q⟩ := h
 cases ry
 rcases hq with hq | hq
 · obtain ⟨its, r, pl, hz⟩ := I.list hq
   refine SeqAt.in_listAt (eqU x) pl.isList (fun w hw => mem_eqAt rx fx r fs w (by simpa using hw)) ⟨.bl _, H, I, rfl, ?_⟩
   rw [show its.toArray.any (eqU x) = its.any (eqU x) by simp, any_eqU r fs]
   exact q
 · obtain ⟨its, r, pl, hz⟩ := I.tuple hq
   refine SeqAt.in_tupleAt (eqU x) pl (fun w hw => mem_eqAt rx fx r fs w (by simpa using hw)) ⟨.bl _, H, I, rfl, ?_⟩
   rw [show its.toArray.any (eqU x) = its.any (eqU x) by simp, any_eqU r fs]
   exact q
theorem call_len_seq : CallR X (.builtin "len") (fun xs H Q => ∃ p ys, xs = [.ref p] ∧ (SqL X.K H p ys ∨ SqT X.K H p ys) ∧ Q (.int ys.length) H) := by
 intro pins s σ H xs us Q I r h
 obtain ⟨p, ys, rfl, hq, q⟩ := h
 obtain ⟨u, rfl, rx⟩ := vals1 r
 cases rx
 have hn := line63
 rcases hq with hq | hq
 · obtain ⟨its, r', pl, hz⟩ := I.list hq
   have hlen := r'.length
   exact Calls.call_len_list pl.isList (by simp only [List.size_toArray] <;> omega) ⟨.int ys.length, H, I.tok _, ⟨s.toks + 1, by rw [List.size_toArray, hlen]⟩, q⟩
 · obtain ⟨its, r', pl, hz⟩ := I.tuple hq
   have hlen := r'.length
   exact len_tuple pl (by simp only [List.size_toArray] <;> omega) ⟨.int ys.length, H, I.tok _, ⟨s.toks + 1, by rw [List.size_toArray, hlen]⟩, q⟩
theorem cL : CallR X (.type "list") (fun xs H Q => ∃ p ys, xs = [.ref p] ∧ (SqL X.K H p ys ∨ SqT X.K H p ys) ∧ ∀ l, H l = none → Q (.ref l) (upd H l (.lst ys))) := by
 intro pins s σ H xs us Q I r h
 obtain ⟨p, ys, rfl, hq, q⟩ := h
 obtain ⟨u, rfl, rx⟩ := vals1 r
 cases rx
 have fin : ∀ (its : List Value), Vals ys its → ys.length ≤ sizeLine → ∀ (h' : Heap) (c' : Nat), (∀ b o', s.heap.get? b = some o' → h'.get? b = some o') →
     h'.get? s.heap.objs.size = some { cls := .type "list", dict := none, data := .seq its.toArray c', slots := #[] } → EP X pins σ Q (.ref s.heap.objs.size) { s with heap := h' } := fun its r' hz h' c' kp e =>
   ⟨.ref s.heap.objs.size, _, I.laid (t' := s.toks) kp (Nat.le_refl _) (show ObjOk X.prog X.w _ h' _ (.lst ys) from ⟨hz, its, c', r', e⟩), rfl, q _ (I.hok.fresh (Nat.le_refl _))⟩
 rcases hq with hq | hq
 · obtain ⟨its, r', pl, hz⟩ := I.list hq
   have hlen := r'.length
   obtain ⟨o, ho, hc, n, hd⟩ := pl.isList
   exact call_list_seq p (.inl rfl) ho hc hd (fun h' c' kp e => fin its r' hz h' c' kp e) (by simp only [List.size_toArray] <;> omega)
 · obtain ⟨its, r', pl, hz⟩ := I.tuple hq
   have hlen := r'.length
   obtain ⟨o, ho, hc, n, hd⟩ := pl
   exact call_list_seq p (.inr rfl) ho hc hd (fun h' c' kp e => fin its r' hz h' c' kp e) (by simp only [List.size_toArray] <;> omega)
theorem cT : CallR X (.type "tuple") (fun xs H Q => ∃ p ys, xs = [.ref p] ∧ ((SqL X.K H p ys ∧ ∀ l, H l = none → Q (.ref l) (upd H l (.tup ys))) ∨ (SqT X.K H p ys ∧ Q (.ref p) H))) := by
 intro pins s σ H xs us Q I r h
 obtain ⟨p, ys, rfl, h⟩ := h
 obtain ⟨u, rfl, rx⟩ := vals1 r
 cases rx
 rcases h with ⟨hq, q⟩ | ⟨hq, q⟩
 · obtain ⟨its, r', pl, hz⟩ := I.list hq
   have hlen := r'.length
   refine call_tuple_list pl.isList (fun h' kp => ?_) (by simp only [List.size_toArray] <;> omega)
   have I1 : Inv X pins σ H { s with heap := h' } := I.kept (t' := s.toks) kp
   have I2 : Inv X pins σ (upd H h'.objs.size (.tup ys)) { s with heap := h'.push { cls := .type "tuple", data := .seq its.toArray } } :=
     I1.laid (t' := s.toks) (fun b o e => Heap.get?_push_of_some _ e) (Nat.le_refl _) (show ObjOk X.prog X.w _ _ _ (.tup ys) from ⟨hz, its, r', IsTup.new _ _⟩)
   exact ⟨.ref h'.objs.size, _, I2, rfl, q _ (I1.hok.fresh (Nat.le_refl _))⟩
 · obtain ⟨its, r', pl, hz⟩ := I.tuple hq
   exact call_tuple_same pl ⟨.ref p, H, I, rfl, q⟩
def tyV (K : W.Frag) (T : String) (x : V) (H : Hp) : Prop := match x with
 | .str _ => T = "str"
 | .int _ => T = "int"
 | .ref p => (T = "list" ∧ ∃ xs, SqL K H p xs) ∨ (T = "tuple" ∧ ∃ o, K.lookup p = some o ∧ o.cls = .type "tuple" ∧ o.dict = none) ∨
     (T = "dict" ∧ ((∃ kvs, H p = some (.dK kvs)) ∨ ∃ kvs, H p = some (.dT kvs))) ∨ (T = "set" ∧ ∃ S n, H p = some (.set S n))
 | _ => False
theorem tyV_is {pins : List (Addr × Obj)} {σ : St} {H : Hp} {s : Shared} {T : String} {x : V} {v : Value} (I : Inv X pins σ H s) (r : RelV x v) (ty : tyV X.K T x H) :
   s.TypeIs v T ∧ ∀ a, v = .ref a → ∃ ob, s.heap.get? a = some ob ∧ ob.dict = none := by
 cases x with
 | str z =>
   obtain ⟨t, rfl⟩ := r
   cases (show T = "str" from ty)
   exact ⟨typeIs_str s z t, fun _ e => nomatch e⟩
 | int i =>
   obtain ⟨t, rfl⟩ := r
   cases (show T = "int" from ty)
   exact ⟨typeIs_int s i t, fun _ e => nomatch e⟩
 | ref p =>
   cases r
   rcases ty with ⟨rfl, xs, hq⟩ | ⟨rfl, o, hk, hc, hd⟩ | ⟨rfl, hk⟩ | ⟨rfl, S, n, hk⟩
   · obtain ⟨its, _, pl, _⟩ := I.list hq
     refine ⟨pl.isList.typeIs, fun a e => ?_⟩
     cases e
     obtain ⟨o, n, e, c, hd, _⟩ := pl
     exact ⟨o, e, hd⟩
   · refine ⟨⟨o, I.kIn p o hk, hc⟩, fun a e => ?_⟩
     cases e
     exact ⟨o, I.kIn _ o hk, hd⟩
   · have z : ∃ o, s.heap.get? p = some o ∧ o.ExactDict := by
       rcases hk with ⟨kvs, hk⟩ | ⟨kvs, hk⟩
       · obtain ⟨_, _, _, _, o, _, _, e, ex, _⟩ := I.hok p _ hk
         exact ⟨o, e, ex⟩
       · obtain ⟨_, _, _, _, o, _, _, e, ex, _⟩ := I.hok p _ hk
         exact ⟨o, e, ex⟩
     obtain ⟨o, e, ex⟩ := z
     refine ⟨⟨o, e, ex.1⟩, fun a e2 => ?_⟩
     cases e2
     exact ⟨o, e, ex.2.1⟩
   · obtain ⟨o, _, _, _, e, ex, _⟩ := I.hok p _ hk
     refine ⟨⟨o, e, ex.1⟩, fun a e2 => ?_⟩
     cases e2
     exact ⟨o, e, ex.2.1⟩
 | _ => exact False.elim ty
def tBM (K : W.Frag) (T : String) (r : V → List V → Hp → VK → Prop) (to : TE) (t : TA) : TE := fun σ H Q => to σ H fun x H1 => tyV K T x H1 ∧ t σ H1 fun xs H2 => r x xs H2 Q
variable {o e : Expr} {es : List Expr} {to : TE} {t : TA} {name : Str} {apos cpos : Pos} {T id : String} {r : V → List V → Hp → VK → Prop}
theorem pe_bm (pa : PlainAttrs T) (slot : Slot T name id) (hty : typeOf (.builtin id) = pure (.type "method_descriptor")) (hm : MtR X id r) (ho : PE X o to) (ha : PA X (e :: es) t)
   (hbase : attributeBase o name X.env (eval o X.env) = eval o X.env := by rfl)
   (hfew : ((backTo cpos (starEach (e :: es) X.env)).all (fun x => !x.1) && (backToKw cpos (keywordEach [] X.env)).all (fun x => x.1.isSome)
     && decide ((e :: es).length + ([] : List Keyword).length + (if ([] : List Keyword).isEmpty then 0 else 1) < 30)) = true := by rfl)
   (hline : (apos.endLine == cpos.line) = true := by rfl) (hs : starEach (e :: es) X.env = (false, eval e X.env) :: starEach es X.env := by rfl) (hplain : (backTo cpos (starEach es X.env)).any (·.1) = false := by rfl) :
   PE X (.Call (.Attribute o name apos) (e :: es) [] cpos) (tBM X.K T r to t) := by
 intro pins s σ H Q I h
 refine wpAny_Call_method_late hbase hfew hline rfl (thn (ho pins s σ H _ I h) fun v s1 ⟨x, H1, I1, r1, ty, q1⟩ => ?_)
 obtain ⟨h1, h2⟩ := tyV_is I1 r1 ty
 refine ⟨T, id, pa, slot, hty, h1, h2, ?_⟩
 have hA := ha cpos pins s1 σ H1 _ I1 q1
 rw [hs] at hA ⊢
 refine Calls.callWith_builtin (by show (false || (backTo cpos (starEach es X.env)).any (·.1)) = false; rw [hplain] <;> rfl) (Calls.evalArgs_plain ?_)
 exact thn hA fun us s2 ⟨vs, H2, I2, r2, q2⟩ => hm pins s2 σ H2 x vs v us Q I2 r1 r2 q2
/- xs.append(e), list.index on a module's tuple .. are MtR facts of 06m -/
end
end L2
namespace L2
open PySem PySem.Spec PyProof.Rows
def MtM (X : Cx) (id : String) (r : V → List V → Hp → VK → Prop) : Prop :=
 ∀ (pins : List (Addr × Obj)) (s : Shared) (σ : St) (H : Hp) (x : V) (xs : List V) (v : Value) (us : List Value) (Q : VK), Inv X pins σ H s → RelV x v → Vals xs us → r x xs H Q →
   wpAny (model X.prog X.w) X.A (call (.builtin id) (v :: us)) (EP X pins σ Q) X.xe s
theorem Vals.one : ∀ {x : V} {us : List Value}, Vals [x] us → ∃ u, us = [u] ∧ RelV x u
 | _, _, .cons r .nil => ⟨_, rfl, r⟩
section
variable {X : Cx} {pins : List (Addr × Obj)} {σ : St} {H : Hp} {s : Shared} {l b : Addr} {xs ys zs : List V}
theorem Inv.lset {its its' : List Value} {n : Nat} {f : Array Value → Array Value} {t' : Nat} (I : Inv X pins σ H s) (hH : H l = some (.lst xs))
   (e : s.heap.get? l = some { cls := .type "list", data := .seq its.toArray n }) (hf : f its.toArray = its'.toArray) (hv : Vals ys its') (hz : ys.length ≤ sizeLine) :
   Inv X pins σ (upd H l (.lst ys)) { s with heap := s.heap.update l (Obj.mapSeq f), toks := t' } := by
 have q := PySem.IsL.update e f
 rw [hf] at q
 refine I.write (x := l) (e := l) (by rw [hH]; exact trivial) (.inl rfl) (fun b' u hb hu => (Heap.get?_update_other s.heap (Obj.mapSeq f) (Ne.symm hb)).trans hu) ⟨_, q⟩ ?_
 exact ⟨hz, its', _, hv, q⟩
theorem Inv.lnew {its : List Value} {t' : Nat} (I : Inv X pins σ H s) (hv : Vals ys its) (hz : ys.length ≤ sizeLine) :
   Inv X pins σ (upd H s.heap.objs.size (.lst ys)) { s with heap := s.heap.push { cls := .type "list", data := .seq its.toArray }, toks := t' } :=
 I.laid (fun _ _ q => Heap.get?_push_of_some _ q) (Nat.le_refl _) ⟨hz, its, 0, hv, Heap.get?_push_size _ rfl⟩
theorem Inv.fresh (I : Inv X pins σ H s) : H s.heap.objs.size = none := I.hok.fresh (Nat.le_refl _)
theorem Inv.lstM (I : Inv X pins σ H s) (hH : H l = some (.lst xs)) : xs.length ≤ sizeLine ∧ ∃ (its : List Value) (n : Nat), Vals xs its ∧ xs.length = its.length ∧ s.heap.get? l = some { cls := .type "list", data := .seq its.toArray n } := by
 obtain ⟨z, its, n, r, e⟩ := I.hok l _ hH
 exact ⟨z, its, n, r, r.length, e⟩
theorem notLongL {n : Nat} (h : n ≤ sizeLine) : Builtin.List.listTooLong n = false := by
 unfold Builtin.List.listTooLong
 exact decide_eq_false (by omega)
end
section
variable {X : Cx}
def rAppend : V → List V → Hp → VK → Prop := fun x vs H Q => ∃ l xs y, x = .ref l ∧ vs = [y] ∧ H l = some (.lst xs) ∧ xs.length < sizeLine ∧ Q .non (upd H l (.lst (xs ++ [y])))
theorem mt_append : MtM X "list.append" rAppend := by
 intro pins s σ H x vs v us Q I rx rv h
 obtain ⟨l, xs, y, rfl, rfl, hH, hz, q⟩ := h
 cases rx
 obtain ⟨u, rfl, ru⟩ := rv.one
 obtain ⟨z, its, n, r, hl, e⟩ := I.lstM hH
 refine call_meets F.slot_list_append ⟨_, e, rfl⟩ F.entry_list_append (F.args_list_append_2 _ _) (PySem.list_append l its.toArray n u (by rw [List.size_toArray]; omega)) ⟨e, ?_⟩
 refine ⟨.non, _, I.lset (its' := its ++ [u]) hH e (by simp) (r.append (.cons ru .nil)) ?_, rfl, q⟩
 rw [List.length_append, List.length_singleton]
 omega
def rExtend : V → List V → Hp → VK → Prop := fun x vs H Q => ∃ l b xs zs, x = .ref l ∧ vs = [.ref b] ∧ H l = some (.lst xs) ∧ H b = some (.lst zs) ∧ xs.length + zs.length ≤ sizeLine ∧ Q .non (upd H l (.lst (xs ++ zs)))
theorem mt_extend : MtM X "list.extend" rExtend := by
 intro pins s σ H x vs v us Q I rx rv h
 obtain ⟨l, b, xs, zs, rfl, rfl, hH, hB, hz, q⟩ := h
 cases rx
 obtain ⟨u, rfl, ru⟩ := rv.one
 cases ru
 obtain ⟨z, its, n, r, hl, e⟩ := I.lstM hH
 obtain ⟨z2, its2, n2, r2, hl2, e2⟩ := I.lstM hB
 have hsz : its.toArray.size + its2.toArray.size ≤ sizeLine := by rw [List.size_toArray, List.size_toArray]; omega
 have hlong : ¬ (!its.toArray.isEmpty && Builtin.List.listTooLong (its.toArray.size + its2.toArray.size)) = true := by
   rw [notLongL hsz, Bool.and_false]
   exact Bool.false_ne_true
 refine call_meets F.slot_list_extend ⟨_, e, rfl⟩ F.entry_list_extend (F.args_list_extend_2 _ _)
   (AutoSeq1.list_extend_list_list_0 l its.toArray n b its2.toArray n2 hlong (by rw [List.size_toArray]; omega) (by omega)) ⟨e, e2, ?_⟩
 refine ⟨.non, _, I.lset (its' := its ++ its2) hH e (by simp) (r.append r2) ?_, rfl, q⟩
 rw [List.length_append]
 omega
def rCat : R2 := fun x y H Q => ∃ l b xs zs, x = .ref l ∧ y = .ref b ∧ H l = some (.lst xs) ∧ H b = some (.lst zs) ∧ xs.length + zs.length ≤ sizeLine ∧ ∀ p, H p = none → Q (.ref p) (upd H p (.lst (xs ++ zs)))
theorem op_cat : OpR X (binaryOp .Add) rCat := by
 intro pins s σ H x y v u Q I rx ry h
 obtain ⟨l, b, xs, zs, rfl, rfl, hH, hB, hz, q⟩ := h
 cases rx
 cases ry
 obtain ⟨z, its, n, r, hl, e⟩ := I.lstM hH
 obtain ⟨z2, its2, n2, r2, hl2, e2⟩ := I.lstM hB
 refine PySem.P.add_list e e2 ?_ (by rw [List.size_toArray, List.size_toArray]; omega)
 have ea : its.toArray ++ its2.toArray = (its ++ its2).toArray := by simp
 rw [ea]
 exact ⟨.ref _, _, I.lnew (t' := s.toks) (r.append r2) (by rw [List.length_append]; omega), rfl, q _ I.fresh⟩
end
section
variable {prog : Program} {w : World} {A : Around} {E : Value → Shared → Prop} {s : Shared}
end
section
variable {X : Cx}
end
end L2
namespace L2
open PySem PySem.Spec PyProof.Rows
section
variable {κ : Type} [DecidableEq κ]
def valV (kvs : List (κ × V)) (k : κ) : Option V := (kvs.find? fun kv => decide (kv.1 = k)).map (·.2)
def putK (kvs : List (κ × V)) (k : κ) (v : V) : List (κ × V) :=
 if (kvs.any fun kv => decide (kv.1 = k)) = true then kvs.map (fun kv => if kv.1 = k then (kv.1, v) else kv) else kvs ++ [(k, v)]
theorem valV_pos {p : κ × V} {r : List (κ × V)} {k : κ} (e : p.1 = k) : valV (p :: r) k = some p.2 := by simp [valV, List.find?_cons, e]
theorem valV_neg {p : κ × V} {r : List (κ × V)} {k : κ} (e : ¬ p.1 = k) : valV (p :: r) k = valV r k := by simp [valV, List.find?_cons, e]
theorem valV_any (k : κ) : ∀ kvs : List (κ × V), (kvs.any fun kv => decide (kv.1 = k)) = (valV kvs k).isSome
 | [] => rfl
 | p :: r => by
   rw [List.any_cons]
   by_cases e : p.1 = k
   · simp only [valV_pos e, decide_eq_true e, Bool.true_or, Option.isSome_some]
   · rw [valV_neg e, decide_eq_false e, Bool.false_or]; exact valV_any k r
theorem length_putK (kvs : List (κ × V)) (k : κ) (v : V) : (putK kvs k v).length ≤ kvs.length + 1 := by
 unfold putK
 split
 · rw [List.length_map]; omega
 · rw [List.length_append, List.length_cons, List.length_nil]; omega
theorem putK_new {kvs : List (κ × V)} {k : κ} (v : V) (h : valV kvs k = none) : putK kvs k v = kvs ++ [(k, v)] := by
 unfold putK
 rw [valV_any, h]
 exact if_neg (by decide)
theorem RelO.isSome_eq {o : Option V} {u : Option Value} (r : RelO o u) : o.isSome = u.isSome := by
 cases o with
 | none => cases u with
   | none => rfl
   | some _ => exact (show False from r).elim
 | some _ => cases u with
   | none => exact (show False from r).elim
   | some _ => rfl
theorem KV.val {kvs : List (κ × V)} {vs : List (κ × Value)} (r : KV kvs vs) (k : κ) : RelO (valV kvs k) (valueAt vs k) := by
 unfold KV at r
 induction r with
 | nil => exact True.intro
 | @cons p q ps qs h t ih =>
   obtain ⟨h1, h2⟩ := h
   by_cases e : p.1 = k
   · have e' : q.1 = k := h1.symm.trans e
     have b : valueAt (q :: qs) k = some q.2 := by simp [valueAt, List.find?_cons, e']
     rw [valV_pos e, b]; exact h2
   · have e' : ¬ q.1 = k := fun z => e (h1.trans z)
     have b : valueAt (q :: qs) k = valueAt qs k := by simp [valueAt, List.find?_cons, e']
     rw [valV_neg e, b]; exact ih
theorem KV.any {kvs : List (κ × V)} {vs : List (κ × Value)} (r : KV kvs vs) (k : κ) : (kvs.any fun kv => decide (kv.1 = k)) = vs.any fun kv => decide (kv.1 = k) := by
 unfold KV at r
 induction r with
 | nil => rfl
 | cons h t ih => rw [List.any_cons, List.any_cons, ih, h.1]
theorem KV.repl {kvs : List (κ × V)} {vs : List (κ × Value)} (r : KV kvs vs) (k : κ) {y : V} {u : Value} (ry : RelV y u) :
   KV (kvs.map fun kv => if kv.1 = k then (kv.1, y) else kv) (vs.map fun kv => if kv.1 = k then (kv.1, u) else kv) := by
 unfold KV at r ⊢
 induction r with
 | nil => exact .nil
 | @cons p q ps qs h t ih =>
   rw [List.map_cons, List.map_cons]
   refine .cons ?_ ih
   obtain ⟨h1, h2⟩ := h
   by_cases e : p.1 = k
   · rw [if_pos e, if_pos (h1.symm.trans e)]; exact ⟨h1, ry⟩
   · rw [if_neg e, if_neg (fun z => e (h1.trans z))]; exact ⟨h1, h2⟩
theorem KV.put {kvs : List (κ × V)} {vs : List (κ × Value)} (r : KV kvs vs) (k : κ) {y : V} {u : Value} (ry : RelV y u) : KV (putK kvs k y) (stored vs k u) := by
 unfold putK stored
 rw [r.any k]
 by_cases e : (vs.any fun kv => decide (kv.1 = k)) = true
 · rw [if_pos e, if_pos e]; exact r.repl k ry
 · rw [if_neg e, if_neg e]; exact Paired.snoc r ⟨rfl, ry⟩
theorem KV.length {kvs : List (κ × V)} {vs : List (κ × Value)} (r : KV kvs vs) : kvs.length = vs.length := Paired.length r
end
theorem kV_is {P : Program} {w : World} {k : Key} {u : Value} (r : RelV (kV k) u) : (mixKind P w).is k u = true := by
 cases k with
 | inl i => obtain ⟨t, e⟩ := (show ∃ t, u = Value.int i t from r); subst e; exact mixKind_int P w i t
 | inr x => obtain ⟨t, e⟩ := (show ∃ t, u = Value.str x t from r); subst e; exact mixKind_str P w x t
theorem items_are {P : Program} {w : World} : ∀ {ks : List Key} {us : List Value}, Vals (ks.map kV) us → ItemsAre (mixKind P w) ks us
 | [], _, r => by rw [List.map_nil] at r; cases r; exact .nil
 | k :: ks, _, r => by
   rw [List.map_cons] at r
   cases r with
   | cons h t => exact .cons (kV_is h) (items_are t)
abbrev KT (H : Hp) : List (List Key × V) → List (List Key × Addr × Value) → Prop := Paired fun p q => p.1 = q.1 ∧ H q.2.1 = some (.tup (p.1.map kV)) ∧ RelV p.2 q.2.2
theorem KT.val {H : Hp} {kvs : List (List Key × V)} {xs : List (List Key × Addr × Value)} (r : KT H kvs xs) (k : List Key) : RelO (valV kvs k) ((atKey xs k).map (·.2)) := by
 induction r with
 | nil => exact True.intro
 | @cons p q ps qs h t ih =>
   obtain ⟨h1, _, h2⟩ := h
   by_cases e : p.1 = k
   · have e' : q.1 = k := h1.symm.trans e
     have b : atKey (q :: qs) k = some q.2 := by simp [atKey, List.find?_cons, e']
     rw [valV_pos e, b]; exact h2
   · have e' : ¬ q.1 = k := fun z => e (h1.trans z)
     have b : atKey (q :: qs) k = atKey qs k := by simp [atKey, List.find?_cons, e']
     rw [valV_neg e, b]; exact ih
theorem KT.repl {H : Hp} {kvs : List (List Key × V)} {xs : List (List Key × Addr × Value)} (r : KT H kvs xs) (k : List Key) {y : V} {u : Value} (ry : RelV y u) :
   KT H (kvs.map fun kv => if kv.1 = k then (kv.1, y) else kv) (xs.map (putAt k u)) := by
 induction r with
 | nil => exact .nil
 | @cons p q ps qs h t ih =>
   rw [List.map_cons, List.map_cons]
   refine .cons ?_ ih
   obtain ⟨h1, h2, h3⟩ := h
   unfold putAt
   by_cases e : p.1 = k
   · rw [if_pos e, if_pos (h1.symm.trans e)]; exact ⟨h1, h2, ry⟩
   · rw [if_neg e, if_neg (fun z => e (h1.trans z))]; exact ⟨h1, h2, h3⟩
theorem KT.put {H : Hp} {kvs : List (List Key × V)} {xs : List (List Key × Addr × Value)} (r : KT H kvs xs) (k : List Key) {b : Addr} {y : V} {u : Value} (hb : H b = some (.tup (k.map kV))) (ry : RelV y u) :
   KT H (putK kvs k y) (storedH xs k b u) := by
 have e : (kvs.any fun kv => decide (kv.1 = k)) = (atKey xs k).isSome := by
   rw [valV_any, (r.val k).isSome_eq, Option.isSome_map]
 unfold putK storedH
 rw [e]
 by_cases q : (atKey xs k).isSome = true
 · rw [if_pos q, if_pos q]; exact r.repl k ry
 · rw [if_neg q, if_neg q]; exact Paired.snoc r ⟨rfl, hb, ry⟩
theorem KT.keeps {H H' : Hp} {kvs : List (List Key × V)} {xs : List (List Key × Addr × Value)} (r : KT H kvs xs) (ht : ∀ b ys, H b = some (.tup ys) → H' b = some (.tup ys)) : KT H' kvs xs :=
 Paired.mapP r fun _ _ z => ⟨z.1, ht _ _ z.2.1, z.2.2⟩
section
variable {P : Program} {w : World} {H : Hp} {h : Heap} {a : Addr}
theorem rd_of {u : HO} (ok : HOk P w H h) (e : Rd H a u) : ObjOk P w H h a u := e.ok ok
theorem dk_rd {kvs : List (Key × V)} (ok : HOk P w H h) (e : Rd H a (.dK kvs)) : kvs.length ≤ sizeLine ∧ (a == sysModules) = false ∧ ∃ vs, KV kvs vs ∧ h.DictOf (mixKind P w) a vs :=
 show ObjOk P w H h a (.dK kvs) from rd_of ok e
theorem dk_of {kvs : List (Key × V)} (ok : HOk P w H h) (e : H a = some (.dK kvs)) : kvs.length ≤ sizeLine ∧ (a == sysModules) = false ∧ ∃ vs, KV kvs vs ∧ h.DictOf (mixKind P w) a vs := dk_rd ok (.inl e)
theorem key_of {ks : List Key} (ok : HOk P w H h) (e : H a = some (.tup (ks.map kV))) : (tupleKind (mixKind P w)).is h ks a := by
 obtain ⟨_, its, r, o, h1, h2, n, h3⟩ := (show ObjOk P w H h a (.tup (ks.map kV)) from ok a _ e)
 exact ⟨o, its.toArray, n, h1, h2, h3, by simpa using items_are r⟩
theorem dt_rd {kvs : List (List Key × V)} (ok : HOk P w H h) (e : Rd H a (.dT kvs)) : kvs.length ≤ sizeLine ∧ (a == sysModules) = false ∧
   ∃ xs, KT H kvs xs ∧ h.DictOfH (tupleKind (mixKind P w)) a xs := by
 obtain ⟨z, y, xs, r, o, es, ep, h1, h2, h3, h4, h5⟩ := (show ObjOk P w H h a (.dT kvs) from rd_of ok e)
 refine ⟨z, y, xs, r, o, es, ep, h1, h2, h3, h4, fun x hx => ?_, h5⟩
 have all : ∀ {l : List (List Key × V)} {m : List (List Key × Addr × Value)}, KT H l m → ∀ x ∈ m, (tupleKind (mixKind P w)).is h x.1 x.2.1 := by
   intro l m q
   induction q with
   | nil => intro x hx; exact nomatch hx
   | @cons p q ps qs hq t ih =>
     intro x hx
     rcases List.mem_cons.mp hx with e | hx
     · subst e
       exact key_of ok (by rw [← hq.1]; exact hq.2.1)
     · exact ih x hx
 exact all r x hx
theorem dt_of {kvs : List (List Key × V)} (ok : HOk P w H h) (e : H a = some (.dT kvs)) : kvs.length ≤ sizeLine ∧ (a == sysModules) = false ∧
   ∃ xs, KT H kvs xs ∧ h.DictOfH (tupleKind (mixKind P w)) a xs := dt_rd ok (.inl e)
end
def DGet (H : Hp) (a : Addr) (y : V) (r : Option V) : Prop :=
 (∃ kvs k, Rd H a (.dK kvs) ∧ y = kV k ∧ r = valV kvs k) ∨ ∃ kvs k b, Rd H a (.dT kvs) ∧ y = .ref b ∧ H b = some (.tup (k.map kV)) ∧ r = valV kvs k
def DPut (H : Hp) (a : Addr) (y v : V) (H' : Hp) : Prop :=
 (∃ kvs k, H a = some (.dK kvs) ∧ y = kV k ∧ kvs.length < sizeLine ∧ H' = upd H a (.dK (putK kvs k v))) ∨
 ∃ kvs k b, H a = some (.dT kvs) ∧ y = .ref b ∧ H b = some (.tup (k.map kV)) ∧ kvs.length < sizeLine ∧ H' = upd H a (.dT (putK kvs k v))
theorem DGet.t {H : Hp} {a b : Addr} {kvs : List (List Key × V)} {k : List Key} (e : H a = some (.dT kvs)) (eb : H b = some (.tup (k.map kV))) : DGet H a (.ref b) (valV kvs k) := .inr ⟨kvs, k, b, .inl e, rfl, eb, rfl⟩
theorem DPut.t {H : Hp} {a b : Addr} {kvs : List (List Key × V)} {k : List Key} {v : V} (e : H a = some (.dT kvs)) (eb : H b = some (.tup (k.map kV))) (hl : kvs.length < sizeLine) :
   DPut H a (.ref b) v (upd H a (.dT (putK kvs k v))) := .inr ⟨kvs, k, b, e, rfl, eb, hl, rfl⟩
section
variable {X : Cx} {pins : List (Addr × Obj)} {σ : St} {H : Hp} {s : Shared} {a : Addr} {y v : V} {u r : Value} {o : Option V} {A : Around} {E : Value → Shared → Prop}
theorem Inv.big (I : Inv X pins σ H s) : sysModules < s.heap.objs.size := by
 have h : mainGlobals < s.heap.objs.size := (I.mod.glob.keeps I.bk).lt
 exact Nat.lt_trans (by decide) h
theorem d_notIn {Q : Value → Shared → Prop} (hu : A.units + 1 < cLine) (I : Inv X pins σ H s) (g : DGet H a y o) (ry : RelV y u) (h : ∀ s', Inv X pins σ H s' → Q (.bool (!o.isSome)) s') :
   wpAny (model X.prog X.w) A (compareOp .NotIn u (.ref a)) Q E s := by
 rcases g with ⟨kvs, k, e, ey, l⟩ | ⟨kvs, k, b, e, ey, eb, l⟩
 · subst ey
   obtain ⟨z, hd, vs, rel, dd⟩ := dk_rd I.hok e
   refine wpAny_notIn_of (kV_is ry) hd dd.mapOf ?_
   rw [← (rel.val k).isSome_eq, ← l]
   exact h _ (I.tok _)
 · subst ey
   cases (show u = Value.ref b from ry)
   obtain ⟨z, hd, xs, rel, dd⟩ := dt_rd I.hok e
   refine wpAny_notIn_heap (tupleKind_room_in1 hu) (key_of I.hok eb) hd dd ?_
   have q := (rel.val k).isSome_eq
   rw [Option.isSome_map] at q
   rw [← q, ← l]
   exact h _ (I.tok _)
theorem d_write {h' : Heap} {t' : Nat} {ob : HO} (I : Inv X pins σ H s) (mu : Mut (H a)) (hs : Heap.SameBut a s.heap h') (he : ∃ q, h'.get? a = some q) (new : ObjOk X.prog X.w (upd H a ob) h' a ob) :
   Inv X pins σ (upd H a ob) { s with heap := h', toks := t' } :=
 I.write (x := a) (e := a) mu (.inl rfl) (fun b q hb z => (hs.2 b hb).trans z) he new
theorem dk_new {P : Program} {w : World} {H' : Hp} {h' : Heap} {kvs : List (Key × V)} {vs : List (Key × Value)} (z : kvs.length ≤ sizeLine) (hd : (a == sysModules) = false) (rel : KV kvs vs) (dd : h'.DictOf (mixKind P w) a vs) :
   ObjOk P w H' h' a (.dK kvs) := ⟨z, hd, vs, rel, dd⟩
theorem d_setItem {H' : Hp} {Q : Unit → Shared → Prop} (hu : A.units + 1 < cLine) (I : Inv X pins σ H s) (g : DPut H a y v H') (ry : RelV y u) (rv : RelV v r) (h : ∀ s', Inv X pins σ H' s' → Q () s') :
   wpAny (model X.prog X.w) A (setItem (.ref a) u r) Q E s := by
 rcases g with ⟨kvs, k, e, ey, l, eH⟩ | ⟨kvs, k, b, e, ey, eb, l, eH⟩
 · subst ey eH
   obtain ⟨z, hd, vs, rel, dd⟩ := dk_of I.hok e
   have hz : vs.length ≤ sizeLine := by rw [← rel.length]; exact z
   have hl : (putK kvs k v).length ≤ sizeLine := by have := length_putK kvs k v; omega
   refine wpAny_setItem_pairs (hsz := hz) (kV_is ry) dd fun h' dd' hs => h _ ?_
   have he : ∃ q, h'.get? a = some q := let ⟨q, _, _, hq, _⟩ := dd'; ⟨q, hq⟩
   exact d_write I (by rw [e]; exact True.intro) hs he (dk_new hl hd (rel.put k rv) dd')
 · subst ey eH
   cases (show u = Value.ref b from ry)
   obtain ⟨z, hd, xs, rel, dd⟩ := dt_of I.hok e
   have hz : xs.length ≤ sizeLine := by rw [← Paired.length rel]; exact z
   have hl : (putK kvs k v).length ≤ sizeLine := by have := length_putK kvs k v; omega
   refine wpAny_setItem_heap (hsz := hz) (tupleKind_room_in1 hu) (key_of I.hok eb) dd fun h' dd' hs => h _ ?_
   obtain ⟨q, es, ep, hq, h2, h3, h4, _, h5⟩ := dd'
   refine d_write I (by rw [e]; exact True.intro) hs ⟨q, hq⟩ ⟨hl, hd, _, (rel.put k eb rv).keeps fun c ys ec => ?_, q, es, ep, hq, h2, h3, h4, h5⟩
   rw [uN (ne_of ec e (fun z => nomatch z))]
   exact ec
end
section
variable {X : Cx} {pins : List (Addr × Obj)} {σ : St} {H : Hp} {s : Shared} {a : Addr} {kvs : List (Key × V)} {k : Key} {u : Value} {A : Around} {E : Value → Shared → Prop}
end
def tDNotIn (ty td : TE) : TE := fun σ H Q => ty σ H fun y H1 => td σ H1 fun x H2 => ∃ a o, x = .ref a ∧ DGet H2 a y o ∧ Q (.bl (!o.isSome)) H2
def sDPut (td ty tv : TE) : TS := fun D σ H => tv σ H fun v H1 => td σ H1 fun x H2 => ty σ H2 fun y H3 => ∃ a H4, x = .ref a ∧ DPut H3 a y v H4 ∧ D.nx σ H4
section
variable {X : Cx} {o i e value : Expr} {pos pos' tpos : Pos} {td ty tv : TE}
theorem pc_dnotin (hu : X.A.units + 1 < cLine) (hi : PE X i ty) (ho : PE X o td) : PC X .NotIn i o (tDNotIn ty td) := by
 intro pins s σ H Q I h
 refine thn (hi pins s σ H _ I h) fun iv s1 ⟨y, H1, I1, ry, q1⟩ => thn (ho pins s1 σ H1 _ I1 q1) fun u s2 ⟨x, H2, I2, rx, a, ov, ex, g, q2⟩ => ?_
 subst ex
 obtain rfl : u = Value.ref a := rx
 exact d_notIn hu I2 g ry fun s3 I3 => ⟨.bl (!ov.isSome), H2, I3, rfl, q2⟩
theorem ps_dput (hu : X.A.units + 1 < cLine) (ho : PE X o td) (hi : PE X i ty) (hv : PE X value tv) (hs : swapsWith value (some (.Subscript o i pos')) pos.line X.env = pure false) :
   PS X (.Assign [.Subscript o i pos'] value pos) (sDPut td ty tv) := by
 intro pins s σ H D I h
 refine wpAny_Assign_Subscript (thn (hv pins s σ H _ I h) fun r s1 ⟨v, H1, I1, rv, q1⟩ => thn (ho pins s1 σ H1 _ I1 q1) fun u s2 ⟨x, H2, I2, rx, q2⟩ => thn (hi pins s2 σ H2 _ I2 q2) fun iv s3 ⟨y, H3, I3, ry, a, H4, ex, g, q3⟩ => ?_) hs
 subst ex
 obtain rfl : u = Value.ref a := rx
 exact d_setItem hu I3 g ry rv fun s4 I4 => ⟨σ, H4, I4, q3⟩
end
theorem dk_empty {P : Program} {w : World} {H : Hp} (h : Heap) (hb : sysModules < h.objs.size) : ObjOk P w H (h.push { cls := .type "dict", data := .dict #[] }) h.objs.size (.dK []) :=
 ⟨Nat.zero_le _, beq_eq_false_iff_ne.mpr (Ne.symm (Nat.ne_of_lt hb)), [], .nil, Heap.DictOf.new h⟩
theorem dt_empty {P : Program} {w : World} {H : Hp} (h : Heap) (hb : sysModules < h.objs.size) : ObjOk P w H (h.push { cls := .type "dict", data := .dict #[] }) h.objs.size (.dT []) :=
 ⟨Nat.zero_le _, beq_eq_false_iff_ne.mpr (Ne.symm (Nat.ne_of_lt hb)), [], .nil, _, #[], 0, Heap.get?_push_size _ rfl, ⟨rfl, rfl, rfl⟩, rfl, rfl, List.nodup_nil⟩
def tDNewK : TE := fun _ H Q => ∀ p, H p = none → Q (.ref p) (upd H p (.dK []))
section
variable {X : Cx} {pos : Pos}
theorem pe_dnewK : PE X (.Dict [] [] pos) tDNewK := fun pins s σ H Q I h =>
 wpAny_Dict_empty ⟨.ref s.heap.objs.size, _, I.laid (a := s.heap.objs.size) (o := .dK []) (t' := s.toks) (fun _ _ q => Heap.get?_push_of_some _ q) (Nat.le_refl _) (dk_empty s.heap I.big), rfl, h _ (I.hok.fresh (Nat.le_refl _))⟩
end
structure M1 (X : Cx) (o : Expr) (m : Str) (apos : Pos) (e : Expr) (cpos : Pos) : Prop where
 base : attributeBase o m X.env (eval o X.env) = eval o X.env
 few : ((backTo cpos (starEach [e] X.env)).all (fun x => !x.1) && (backToKw cpos (keywordEach [] X.env)).all (fun x => x.1.isSome)
   && decide (([e] : List Expr).length + ([] : List Keyword).length + (if ([] : List Keyword).isEmpty then 0 else 1) < 30)) = true
 line : (apos.endLine == cpos.line) = true
 trees : backTo cpos (starEach [e] X.env) = [(false, eval e X.env)]
structure M2 (X : Cx) (o : Expr) (m : Str) (apos : Pos) (e f : Expr) (cpos : Pos) : Prop where
 base : attributeBase o m X.env (eval o X.env) = eval o X.env
 few : ((backTo cpos (starEach [e, f] X.env)).all (fun x => !x.1) && (backToKw cpos (keywordEach [] X.env)).all (fun x => x.1.isSome)
   && decide (([e, f] : List Expr).length + ([] : List Keyword).length + (if ([] : List Keyword).isEmpty then 0 else 1) < 30)) = true
 line : (apos.endLine == cpos.line) = true
 trees : backTo cpos (starEach [e, f] X.env) = [(false, eval e X.env), (false, eval f X.env)]
section
variable {X : Cx} {pins : List (Addr × Obj)} {σ : St} {H : Hp} {s : Shared} {a : Addr} {y d : V} {u r : Value} {o : Option V} {A : Around} {E : Value → Shared → Prop}
end
section
variable {X : Cx} {o e f : Expr} {apos cpos : Pos} {td ty tx : TE}
end
section
variable {X : Cx} {pins : List (Addr × Obj)} {σ : St} {H : Hp} {s : Shared} {a : Addr} {kvs : List (Key × V)} {A : Around} {E : Value → Shared → Prop}
end
section
variable {X : Cx} {pins : List (Addr × Obj)} {σ : St} {H : Hp} {s : Shared} {a : Addr} {y : V} {u : Value} {A : Around} {E : Value → Shared → Prop}
end
end L2
namespace Att
open PySem PySem.W PySem.Calls PyProof.Rows
theorem ints_of_wellAll {P : Params} {h : Heap} : ∀ (ns : List Int) (vs : List Value), WellAll P h vs (ns.map WData.int) → IntsAre vs ns := by
 intro ns
 induction ns with
 | nil =>
   intro vs w
   rw [List.map_nil] at w
   cases w
   exact .nil
 | cons n ns ih =>
   intro vs w
   rw [List.map_cons] at w
   cases w with
   | cons a b =>
     cases a
     exact .cons _ _ (ih _ b)
theorem script_of {l : OpenLaw} {n : Nat} (hn : l.most = some n) {P : Params} {h : Heap} {args : List WData} {vals : List Value}
   (hpre : l.row.toRowW.claim.pre args = true) (hwl : WellAll P h vals args) :
   ∃ a vs ns, vals = [Value.ref a] ∧ args = [WData.list (ns.map WData.int)] ∧ h.get? a = some { cls := .type "list", data := .seq vs.toArray } ∧ IntsAre vs ns ∧ ns.length ≤ n := by
 have hsh : WShape.hasAll [] args [.list .int] = true := (pre_splitW hpre).1
 have hc : l.pre.holds [] { args := args } = true := (pre_splitW hpre).2
 obtain ⟨d, r, rfl, h1, h2⟩ := hasAllW_cons hsh
 obtain rfl := hasAllW_nil h2
 obtain ⟨xs, rfl, h3⟩ := hasW_list h1
 obtain ⟨ns, rfl⟩ := items_int h3
 have hlen : ns.length ≤ n := by
   unfold OpenLaw.pre at hc
   have h4 : (WTm.not (.lt (.lit (.int (n : Int))) (.len (.arg 0)))).holds [] { args := [.list (ns.map .int)] } = true := by
     have h4 := (holds_andW hc).1
     rw [hn] at h4
     exact h4
   have h5 := condW_of h4 (w_not (w_lt w_lit (w_len_list (w_arg rfl))))
   rw [List.length_map] at h5
   refine Nat.le_of_not_lt fun q => ?_
   have q' : (n : Int) < ((ns.length : Nat) : Int) := by omega
   first
     | (rw [decide_eq_true q'] at h5; exact absurd h5 (by decide))
     | (simp at h5; omega)
 cases hwl with
 | cons w1 w2 =>
   cases w2
   cases w1 with
   | list ho hall => exact ⟨_, _, ns, rfl, rfl, ho, ints_of_wellAll ns _ hall, hlen⟩
theorem post_true (l : OpenLaw) (args : List WData) : l.row.toRowW.claim.post args (.bool true) args = true :=
 postW_of (r := l.row.toRowW) (X := (true == true))
   (show WShape.has [] (.bool true) .bool = true by first | rfl | decide | simp [WShape.has, WShape.arms, WShape.armsAll])
   (show (WTm.eq .res (.lit (.bool true))).value [] { args := args, res := some (.bool true), after := args } = some (.bool (true == true)) from w_eq_bool (w_res rfl) w_lit) rfl
theorem attach_call {l : OpenLaw} {n : Nat} {q : Program} {loose : List Str} {XP : (Str → Option Value) → Heap → Prop} {YP : World → Heap → Prop} {d : DefRec}
   (hn : l.most = some n) (hdf : d.params.defaults = [])
   (call : ∀ (w : World) (s₀ s₁ : Shared) (mg mb : Str → Option Value) (fa : Addr) (o : Obj) (pm cd doc : Value) (a : Addr) (vs : List Value) (ns : List Int),
     Ground q loose [] XP w s₀ mg mb s₁.heap → YP w s₁.heap →
     s₁.heap.get? fa = some o → o.data = .func (docDef d.name d.params d.body d.scope pm cd doc) → s₁.heap.CodeRec cd d.name → mg d.name = some (.ref fa) →
     s₁.heap.get? a = some { cls := .type "list", data := .seq vs.toArray } → IntsAre vs ns → ns.length ≤ n → s₁.gens = #[] →
     codeAny (model l.prog w) callerA (.call (.ref fa) ⟨[.ref a], []⟩) (fun r s' => r = .ok (.ret (.bool true)) ∧ OldK s₁.heap s'.heap ∧ s'.os = s₁.os ∧ AllBare s'.gens) s₁) :
   WalkO q loose XP YP l.row.toRowW d [] (fun f vs => PySem.call f vs) := by
 intro w s₀ s₁ mg mb G Y fa o pm cd doc dV kV ho hd hcd hD hmg hg args vals as hpre hlay hrd hwl hlo
 obtain rfl : dV = .none := Dflts.none hD hdf
 obtain rfl : kV = .none := Dflts.noKw hD
 obtain ⟨a, vs, ns, rfl, rfl, hobj, hints, hlen⟩ := script_of hn hpre hwl
 refine enter_call (codeAny_mono (call w s₀ s₁ mg mb fa o pm cd doc a vs ns G Y ho (fd_plain hd) hcd hmg hobj hints hlen hg) fun r s' hq => ?_)
 obtain ⟨rfl, h2, h3, h4⟩ := hq
 exact ⟨.inl ⟨.bool true, .bool true, [], rfl, fun _ => rfl, .bool true, post_true l _, fun _ => ⟨List.Pairwise.nil, fun _ hm => (nomatch hm)⟩⟩, h2, h3, h4⟩
section
variable {prog : Program} {w : World} {A : Around} {E : Value → Shared → Prop} {s : Shared} {K : Frag}
end
end Att
namespace L2
open PySem PySem.Spec PyProof.Rows
theorem vals_ints : ∀ {vs : List Value} {ns : List Int}, IntsAre vs ns → Vals (ns.map V.int) vs
 | _, _, .nil => .nil
 | _, _, .cons n t h => .cons ⟨t, rfl⟩ (vals_ints h)
end L2
namespace L2
open PySem PySem.Spec PyProof.Rows
end L2
/- THE LAST THEOREM (shape; LID, My.* are yours):
  My.Adr: a structure of the addresses that your layer names (classes, functions); My.Txt K t: a structure (Prop) of the equations over K;
  My.txt_mk : {K} {implicit addresses ..} (e1 : nsIn K mainGlobals "law" = some (some (.ref f))) (e2 : K.lookup f = some ⟨oc, od, .func (fnOf "law" "law" params body scope dV kV doc pm an cdv ct), sl⟩) (e3 : codeIn K cdv "law" = true) .. : ∃ t, My.Txt K t
set_option maxHeartbeats 0 in
theorem PySem.Challenge.cw_LID_holds : PySem.Challenge.rw_LID.Holds := by
 w_on; o_law; k_head; (case hw => w_witness2)
 k_fill
 refine L2.walk_of (l := PySem.Challenge.rw_LID) (n := 63) (k := 40) (x := "script") (CX := fun w => ..) (sp := fun _ => My.sp_law) rfl (by decide) rfl ⟨rfl, by decide, by decide⟩ (fun w h Y => W.kIn_of Y) ?F ?S ?C
 case F =>
   intro w mg fa h KX G hmg
   have T : ∃ t, My.Txt (L2.KOf KX) t := by
     dsimp only [L2.KOf]                          -- K must stand as «<heap const> w.params» for k_is
     refine' My.txt_mk ?e1 ?e2 ?e3 ..
     (case e1 => W.k_is)                    -- in the order: a name -> its address -> its object -> its parts
     (case e2 => W.k_is)
     ..
   obtain ⟨t, T⟩ := T
   have e0 := hmg.symm.trans (W.mg_of KX G T.law)
   cases e0                                       -- fa is the law's own address
   exact ⟨_, fun s u => .of_eq rfl, fun base kb nb => My.law_fn T kb nb⟩     -- if «.of_eq rfl» comes too early: refine' ⟨_, ?b, fun base kb nb => My.law_fn T kb nb⟩; exact fun s u => .of_eq rfl
 case S => exact fun w H a ns hl hO hS => ..
 case C => exact ..
(the tactic k_is has no namespace: write k_is) -/
namespace L2
open PySem PySem.Spec PyProof.Rows
def inClass (s : Stmt) (j : Nat) : Stmt := match s with
 | .ClassDef _ _ _ body _ _ _ _ _ _ _ => body.getD j (.Pass ⟨0, 0, 0, 0⟩)
 | _ => .Pass ⟨0, 0, 0, 0⟩
def dA (s : Stmt) : Arguments := match s with
 | .FunctionDef _ a _ _ _ _ _ _ _ _ => a
 | _ => { posonlyargs := [], args := [], vararg := none, kwonlyargs := [], kw_defaults := [], kwarg := none, defaults := [] }
def dB (s : Stmt) : List Stmt := match s with
 | .FunctionDef _ _ b _ _ _ _ _ _ _ => b
 | _ => []
def dZ (s : Stmt) : Scope := match s with
 | .FunctionDef _ _ _ _ _ _ sc _ _ _ => sc
 | _ => { kind := .function, names := [], isGenerator := false, isCoroutine := false }
abbrev CX0 : CXT := fun _ _ _ _ _ _ => False
abbrev E0 : XK := fun _ _ _ => False
theorem pass0 {X : Cx} : Passes CX0 X E0 := fun _ _ _ _ _ _ _ h => h.elim
structure Fun (K : W.Frag) (x qual : Str) (st : Stmt) (f : Addr) (fd : FuncData) : Prop where
 ex : ∃ (oc : Value) (od : Option Addr) (kV doc pm : Value) (an : Option Addr) (cdv ct : Value) (osl : Array (Option Value)),
   fd = W.fnOf x qual (dA st) (dB st) (dZ st) .none kV doc pm an cdv ct ∧ K.lookup f = some ⟨oc, od, .func fd, osl⟩ ∧ W.codeIn K cdv qual = true
 kp : W.keepIn K (.ref f) = true
section
variable {P : Program} {w : World} {K : W.Frag} {mg : Str → Option Value} {base : Heap}
theorem Fun.ok {x qual : Str} {st : Stmt} {f : Addr} {fd : FuncData} {N ps : List Str} {k : Nat} {sp : Sp} (F : Fun K x qual st f fd) (S : fSc N ps (dZ st)) (len : ∀ vs H Q E, sp vs H Q E → vs.length = ps.length)
   (hbody : ∀ (cdv : Value) (A : Around) (outer : List Env) (s : Shared) (H : Hp) (vs : List V) (Q : VK) (E : XK), Room k (A.deeper (envOfC qual (dZ st) s.heap.objs.size f cdv)) → sp vs H Q E →
     ∃ t, PSs (cxOf CX0 P w K mg base N qual (dZ st) f cdv A outer s H E).nox (dB st) t ∧ t { nx := fun _ H' => Q .non H', rt := Q } (start N vs) H) : FnOk P w K mg base CX0 (k + 1) f fd ps sp := by
 obtain ⟨oc, od, kV, doc, pm, an, cdv, ct, osl, rfl, lk, hcd⟩ := F.ex
 refine fn_of lk hcd S len fun A outer s H vs Q E hr hsp => ?_
 obtain ⟨t, h, q⟩ := hbody cdv A outer s H vs Q E hr hsp
 exact ⟨t, h.nox, q⟩
theorem Fun.binds {x qual : Str} {st : Stmt} {f : Addr} {fd : FuncData} {ps : List Str} (F : Fun K x qual st f fd)
   (h : ∀ (kV doc pm : Value) (an : Option Addr) (cdv ct : Value) (us : List Value), us.length = ps.length → bindArgs (W.fnOf x qual (dA st) (dB st) (dZ st) .none kV doc pm an cdv ct) ⟨us, []⟩ = pure (ps.zip us)) : Binds K fd ps [] := by
 obtain ⟨oc, od, kV, doc, pm, an, cdv, ct, osl, rfl, lk, hcd⟩ := F.ex
 exact .all (h kV doc pm an cdv ct)
theorem fMk {x qual : Str} {st : Stmt} {f : Addr} {oc : Value} {od an : Option Addr} {osl : Array (Option Value)} {kV doc pm cdv ct : Value} (l : K.lookup f = some ⟨oc, od, .func (W.fnOf x qual (dA st) (dB st) (dZ st) .none kV doc pm an cdv ct), osl⟩)
   (c : W.codeIn K cdv qual = true) (k : W.keepIn K (.ref f) = true) : Fun K x qual st f (W.fnOf x qual (dA st) (dB st) (dZ st) .none kV doc pm an cdv ct) := ⟨⟨oc, od, kV, doc, pm, an, cdv, ct, osl, rfl, l, c⟩, k⟩
end
theorem small1000 {n : Nat} (h : n ≤ 1000) : n < sizeLine := Nat.lt_of_le_of_lt h (by decide)
section
variable {X : Cx}
theorem pv (i : Nat) {x : Str} {pos : Pos} (hN : X.N[i]? = some x := by rfl) (hv : Vis X.env.scope x := by first | exact Or.inl rfl | exact Or.inr (Or.inl rfl) | exact Or.inr (Or.inr rfl)) (hd : (x == ("__debug__" : Str)) = false := by decide)
   (hcd : (x == ("__classdict__" : Str)) = false := by decide) : PE X (.Name x pos) (tVar i) := pe_var hN hv hd hcd
end
theorem iteF {A B : Prop} (h : B) : if false = true then A else B := by
 rw [if_neg Bool.false_ne_true]
 exact h
theorem iteT {A B : Prop} (h : A) : if true = true then A else B := by
 rw [if_pos rfl]
 exact h
theorem ite2 {c A B : Prop} [Decidable c] (h1 : c → A) (h2 : ¬ c → B) : if c then A else B := by
 by_cases h : c
 · rw [if_pos h]
   exact h1 h
 · rw [if_neg h]
   exact h2 h
theorem iteNS {c A B : Prop} [Decidable c] (hc : c) (h : B) : if (!decide c) = true then A else B := by
 rw [decide_eq_true hc]
 exact iteF h
def Same (H H' : Hp) : Prop := ∀ b o, H b = some o → H' b = some o
theorem Same.refl (H : Hp) : Same H H := fun _ _ h => h
theorem Same.trans {H H1 H2 : Hp} (a : Same H H1) (b : Same H1 H2) : Same H H2 := fun c o h => b c o (a c o h)
theorem Same.free {H H' : Hp} (e : Same H H') {l : Addr} (h : H' l = Option.none) : H l = Option.none := by
 cases q : H l with
 | none => rfl
 | some o =>
   rw [e l o q] at h
   cases h
section
variable {κ : Type} [DecidableEq κ]
end
end L2
set_option maxHeartbeats 4000000
namespace L2
open PySem PySem.Spec PyProof.Rows
def cxC (X : Cx) (scope : Scope) (cl : List (Str × Addr)) (C : Addr) (N' : List Str) (s : Shared) (H : Hp) (fp : List Addr) (E : Value → Shared → Prop) : Cx where
 prog := X.prog
 w := X.w
 K := X.K
 mg := X.mg
 base := X.base
 A := X.A
 N := N'
 s₀ := s
 H₀ := H
 env := compEnvC scope cl C X.env
 outer := X.stack
 stack := X.stack
 ex := fp
 fn := fun _ => false
 calm := X.calm
 pn := []
 xe := E
theorem forIn_cells {env : Env} (f : Str × NameKind → List (Str × Addr) → Sem (ForInStep (List (Str × Addr)))) (hf : ∀ n k cs, f (n, k) cs = if (k == NameKind.free) = true then (cellOf env n >>= fun a => pure (ForInStep.yield ((n, a) :: cs))) else pure (ForInStep.yield cs)) :
   ∀ (l : List (Str × NameKind)) (cs : List (Str × Addr)), (∀ n, (n, NameKind.free) ∈ l → ∃ c, env.cells.lookup n = some c) → (∀ n c, cs.lookup n = some c → env.cells.lookup n = some c) →
     ∃ cl, forIn l cs f = (pure cl : Sem _) ∧ (∀ n c, cl.lookup n = some c → env.cells.lookup n = some c) ∧ (∀ n, (n, NameKind.free) ∈ l → ∃ c, cl.lookup n = some c) ∧ (∀ n c, cs.lookup n = some c → ∃ c', cl.lookup n = some c')
 | [], cs, _, hc => ⟨cs, rfl, hc, fun n hn => absurd hn (by simp), fun n c e => ⟨c, e⟩⟩
 | (n, k) :: l, cs, h, hc => by
   have hl : ∀ m, (m, NameKind.free) ∈ l → ∃ c, env.cells.lookup m = some c := fun m hm => h m (List.mem_cons_of_mem _ hm)
   by_cases hk : k = .free
   · subst hk
     obtain ⟨c, ec⟩ := h n List.mem_cons_self
     have hc' : ∀ m d, ((n, c) :: cs).lookup m = some d → env.cells.lookup m = some d := fun m d e => by
       rw [List.lookup_cons] at e
       by_cases q : m == n
       · rw [q] at e
         have := beq_iff_eq.mp q
         subst this
         rw [ec]; exact e
       · rw [Bool.eq_false_iff.mpr q] at e
         exact hc m d e
     obtain ⟨cl, e1, e2, e3, e4⟩ := forIn_cells f hf l ((n, c) :: cs) hl hc'
     refine ⟨cl, ?_, e2, fun m hm => ?_, fun m d e => ?_⟩
     · rw [List.forIn_cons, hf, if_pos (show (NameKind.free == NameKind.free) = true from rfl)]
       have : cellOf env n = pure c := by unfold cellOf; rw [ec]
       rw [this]
       exact e1
     · rcases List.mem_cons.mp hm with z | z
       · cases z
         exact e4 n c (by rw [List.lookup_cons]; simp)
       · exact e3 m z
     · by_cases q : m = n
       · subst q; exact e4 m c (by rw [List.lookup_cons]; simp)
       · exact e4 m d (by rw [List.lookup_cons, beq_eq_false_iff_ne.mpr q]; exact e)
   · obtain ⟨cl, e1, e2, e3, e4⟩ := forIn_cells f hf l cs hl hc
     refine ⟨cl, ?_, e2, fun m hm => ?_, e4⟩
     · rw [List.forIn_cons, hf, if_neg (by simpa using hk)]
       exact e1
     · rcases List.mem_cons.mp hm with z | z
       · cases z; exact absurd rfl hk
       · exact e3 m z
theorem closure_of {env : Env} {scope : Scope} (h : ∀ n, (n, NameKind.free) ∈ scope.names → ∃ c, env.cells.lookup n = some c) :
   ∃ cl, closureFor scope env = pure cl ∧ (∀ n c, cl.lookup n = some c → env.cells.lookup n = some c) ∧ (∀ n, (n, NameKind.free) ∈ scope.names → ∃ c, cl.lookup n = some c) := by
 obtain ⟨cl, e1, e2, e3, _⟩ := forIn_cells (env := env) (fun x __s => match x with
   | (name, kind) => if (kind == NameKind.free) = true then (do let a ← cellOf env name; pure (ForInStep.yield ((name, a) :: __s))) else pure (ForInStep.yield __s)) (fun n k cs => rfl) scope.names [] h (fun n c e => nomatch e)
 refine ⟨cl, ?_, e2, e3⟩
 unfold closureFor
 dsimp only
 rw [e1]
 all_goals rfl
def PIf (X : Cx) (ifs : List Expr) (t : TT) : Prop :=
 ∀ (pins : List (Addr × Obj)) (s : Shared) (σ : St) (H : Hp) (Q : Bool → Hp → Prop), Inv X pins σ H s → t σ H Q →
   wpAny (model X.prog X.w) X.A (forIn ifs true fun c r => if r = true then do let ok ← isTrue c X.env (eval c X.env); pure (ForInStep.yield ok) else pure (ForInStep.yield r)) (TP X pins σ Q) X.xe s
def tYes : TT := fun _ H Q => Q true H
theorem tYes_of {σ : St} {H : Hp} {A B : Hp → Prop} (h : A H) : tYes σ H fun b H3 => if b = true then A H3 else B H3 := by
 show if true = true then A H else B H
 rw [if_pos rfl]
 exact h
theorem pif_nil {X : Cx} : PIf X [] tYes := fun _ _ _ H _ I h => wpAny_tests_nil ⟨H, I, h⟩
theorem compLoop_any {prog : Program} {w : World} {A : Around} {R : Result → Shared → Prop} {s : Shared} {elt target iter : Expr} {ifs : List Expr} {scope : Scope} {pos : Pos} {it acc : Value} {env : Env} (I : Nat → Shared → Prop)
   (turn : ∀ n s, I n s → wpAny (model prog w) A (pyNext it) (fun r s₁ => match r with
     | none => R (.ok .next) s₁
     | some v => wpAny (model prog w) A (letOwnedTupleGo target it v) (fun _ s₁' => wpAny (model prog w) A (assign target env v) (fun _ s₂ =>
         wpAny (model prog w) A (forIn ifs true fun c r => if r = true then do let ok ← isTrue c env (eval c env); pure (ForInStep.yield ok) else pure (ForInStep.yield r)) (fun ok s₃ =>
           if ok = true then wpAny (model prog w) A (eval elt env) (fun x s₄ =>
             wpAny (model prog w) A (call (.builtin "list.append") [acc, x]) (fun _ s₅ => ∃ m, m < n ∧ I m s₅) (notedBy (model prog w) A env fun e s' => R (.error e) s') s₄) (notedBy (model prog w) A env fun e s' => R (.error e) s') s₃
           else ∃ m, m < n ∧ I m s₃) (notedBy (model prog w) A env fun e s' => R (.error e) s') s₂) (notedBy (model prog w) A env fun e s' => R (.error e) s') s₁') (notedBy (model prog w) A env fun e s' => R (.error e) s') s₁) (notedBy (model prog w) A env fun e s' => R (.error e) s') s)
   (n : Nat) (h : I n s) :
   codeAny (model prog w) A (.compLoop (.ListComp elt [⟨target, iter, ifs, 0⟩] scope pos) 0 it acc env) R s := by
 refine codeAny_loop rfl I (fun n s hI => ?_) n h
 show wpAny _ A ((compTurn (.ListComp elt [⟨target, iter, ifs, 0⟩] scope pos) 0 it acc env).onRaise (fun x => do noteFrame x env; theTreesLotGoes x)) _ _ s
 refine wpAny_noted ?_
 rw [compTurn_list]
 refine wpAny_bind (wpAny_standAt (wpAny_bind (wpAny_mono (turn n s hI) (fun r s₁ h₁ => ?_) fun _ _ h' => h')))
 cases r with
 | none => exact wpAny_pure h₁
 | some v =>
   refine wpAny_bind (wpAny_mono h₁ (fun _ s₁' h₁' => ?_) fun _ _ h' => h')
   refine wpAny_bind (wpAny_mono h₁' (fun _ s₂ h₂ => wpAny_bind (wpAny_mono h₂ (fun ok s₃ h₃ => ?_) fun _ _ h' => h')) fun _ _ h' => h')
   cases ok with
   | false => exact wpAny_pure ⟨rfl, h₃⟩
   | true =>
     exact wpAny_bind (wpAny_bind (wpAny_mono h₃ (fun x s₄ h₄ => wpAny_bind (wpAny_mono h₄ (fun _ s₅ h₅ => wpAny_pure (wpAny_pure ⟨rfl, h₅⟩)) fun _ _ h' => h')) fun _ _ h' => h'))
theorem lookup_relabel_free {env : Env} : ∀ {names : List (Str × NameKind)} {x : Str}, names.lookup x = some .free →
   (names.map fun (n, k) => if (k == NameKind.free && env.scope.kind == .function && env.kindOf n == some .cell) then (n, NameKind.cell) else (n, k)).lookup x = some .cell ∨
   (names.map fun (n, k) => if (k == NameKind.free && env.scope.kind == .function && env.kindOf n == some .cell) then (n, NameKind.cell) else (n, k)).lookup x = some .free
 | [], _, h => by simp at h
 | (n, k) :: r, x, h => by
   have ih := @lookup_relabel_free env r x
   show List.lookup x ((if (k == NameKind.free && env.scope.kind == .function && env.kindOf n == some .cell) = true then (n, NameKind.cell) else (n, k)) :: _) = _ ∨ List.lookup x ((if (k == NameKind.free && env.scope.kind == .function && env.kindOf n == some .cell) = true then (n, NameKind.cell) else (n, k)) :: _) = _
   cases hx : x == n with
   | true =>
     simp only [List.lookup_cons, hx] at h
     cases h
     split <;> simp [List.lookup_cons, hx]
   | false =>
     simp only [List.lookup_cons, hx] at h
     by_cases hc : (k == NameKind.free && env.scope.kind == .function && env.kindOf n == some .cell) = true
     · rw [if_pos hc]; simp only [List.lookup_cons, hx]; exact ih h
     · rw [if_neg hc]; simp only [List.lookup_cons, hx]; exact ih h
theorem relabel_cf {env : Env} : ∀ {names : List (Str × NameKind)} {x : Str}, (∀ y ∈ names, y.2 ≠ .cell) →
   ((names.map fun (n, k) => if (k == NameKind.free && env.scope.kind == .function && env.kindOf n == some .cell) then (n, NameKind.cell) else (n, k)).lookup x = some .cell ∨
   (names.map fun (n, k) => if (k == NameKind.free && env.scope.kind == .function && env.kindOf n == some .cell) then (n, NameKind.cell) else (n, k)).lookup x = some .free) → (x, NameKind.free) ∈ names
 | [], _, _, h => by simp at h
 | (n, k) :: r, x, hn, h => by
   have ih := @relabel_cf env r x (fun y hy => hn y (List.mem_cons_of_mem _ hy))
   have h : List.lookup x ((if (k == NameKind.free && env.scope.kind == .function && env.kindOf n == some .cell) = true then (n, NameKind.cell) else (n, k)) :: _) = _ ∨ List.lookup x ((if (k == NameKind.free && env.scope.kind == .function && env.kindOf n == some .cell) = true then (n, NameKind.cell) else (n, k)) :: _) = _ := h
   cases hx : x == n with
   | true =>
     have e := beq_iff_eq.mp hx
     subst e
     have hk : k = .free := by
       by_cases hc : (k == NameKind.free && env.scope.kind == .function && env.kindOf x == some .cell) = true
       · simp only [Bool.and_eq_true, beq_iff_eq] at hc
         exact hc.1.1
       · rw [if_neg hc] at h
         simp only [List.lookup_cons, hx] at h
         rcases h with h | h
         · exact absurd (Option.some.inj h) (hn (x, k) List.mem_cons_self)
         · exact Option.some.inj h
     subst hk
     exact List.mem_cons_self
   | false =>
     refine List.mem_cons_of_mem _ (ih ?_)
     by_cases hc : (k == NameKind.free && env.scope.kind == .function && env.kindOf n == some .cell) = true
     · rw [if_pos hc] at h; simp only [List.lookup_cons, hx] at h; exact h
     · rw [if_neg hc] at h; simp only [List.lookup_cons, hx] at h; exact h
def capN (N : List Str) (js : List Nat) : List Str := js.map fun j => N.getD j Str.empty
def capSt (σ : St) (js : List Nat) : St := js.map fun j => (σ[j]?).getD none
def capOk (N : List Str) (osc sc : Scope) (js : List Nat) : Bool :=
 js.all fun j => decide (j < N.length) && (osc.names.lookup (N.getD j Str.empty) == some .cell || osc.names.lookup (N.getD j Str.empty) == some .free) && sc.names.lookup (N.getD j Str.empty) == some .free
def scOk (osc sc : Scope) (x : Str) : Bool :=
 sc.kind == .function && sc.names.all (fun y => y.2 != .cell) && sc.names.all (fun y => y.2 != .local || sc.names.lookup y.1 == some .local) && sc.names.lookup x == some .local &&
   sc.names.all (fun y => y.2 != .free || (osc.names.lookup y.1 == some .cell || osc.names.lookup y.1 == some .free))
def LcLoop (J : It) (cap : St) (tt : TT) (te : TE) (H : Hp) (P : List V → Hp → Prop) : Prop :=
 ∃ W : Nat → Nat → List V → Hp → Prop, (∃ m, W 0 m [] H) ∧ ∀ i m ys H, W i m ys H →
   (J.stop i H ∧ ys.length ≤ sizeLine ∧ P ys H) ∨ (J.go i H ∧ ys.length < sizeLine ∧ ∃ Nx : List V → Hp → Prop, (∀ ys' H', Nx ys' H' → ∃ m', m' < m ∧ W (i + 1) m' ys' H') ∧
     ∀ x H', J.yld i H x H' → tt (some x :: cap) H' fun b H3 => if b = true then te (some x :: cap) H3 fun v H4 => Nx (ys ++ [v]) H4 else Nx ys H3)
theorem Un.track {fs ex : List Addr} {H H1 : Hp} {h h1 : Heap} {D : Addr} {o : HO} (u : Un fs ex H H1 h h1) (hp : h.objs.size ≤ D) (hn : H1 D = none) : Un fs ex H (upd H1 D o) h h1 where
 keep := u.keep
 slot := u.slot
 free := fun b ob q n hx => by rw [uN (Nat.ne_of_lt (Nat.lt_of_lt_of_le (Heap.lt_size q) hp))]; exact u.free b ob q n hx
 there := u.there
 tups := fun b xs q => by have z := u.tups b xs q; rw [uN (nN z hn)]; exact z
 frzs := fun b ob xs q => by have z := u.frzs b ob xs q; rw [uN (nN z hn)]; exact z
 tbls := fun b ps q => by obtain ⟨more, z⟩ := u.tbls b ps q; exact ⟨more, by rw [uN (nN z hn)]; exact z⟩
theorem HOk.track {P : Program} {w : World} {H : Hp} {h : Heap} {D : Addr} {o : HO} (x : HOk P w H h) (hn : H D = none) (new : ObjOk P w (upd H D o) h D o) : HOk P w (upd H D o) h := fun b u e => by
 by_cases hb : b = D
 · subst hb; rw [uS] at e; cases e; exact new
 · rw [uN hb] at e
   exact (x b u e).stay (fun c v _ q => q) (fun c q => by rw [uN (nN q hn)]; exact q) fun c xs q => by rw [uN (nN q hn)]; exact q
section
variable {X : Cx} {x : Str} {px : Pos} {iter elt : Expr} {ifs : List Expr} {scope : Scope} {pos : Pos} {js : List Nat} {N : List Str} {osc : Scope} {tt : TT} {te : TE} {cl : List (Str × Addr)}
theorem comp_core {RR : Value → Addr → Result → Shared → Prop} {E : Value → Shared → Prop} {pins : List (Addr × Obj)} {σ : St} {H2 : Hp} {s2 : Shared} {it : Addr} {fp : List Addr} {tn : Nat → Heap → Prop} {J : It} {P : List V → Hp → Prop}
   (hN : X.N = N) (hsc : X.env.scope = osc) (hcap : capOk N osc scope js = true) (hs1 : scOk osc scope x = true) (hnd : (x :: capN N js).Nodup) (hc : X.calm = true)
   (hin : ∀ C s H fp E, PIf (cxC X scope cl C (x :: capN N js) s H fp E) ifs tt ∧ PE (cxC X scope cl C (x :: capN N js) s H fp E) elt te)
   (I2 : Inv X pins σ H2 s2) (T : Turn X.prog X.w X.K (.Name x px) J fp it tn) (st : tn 0 s2.heap) (f2 : ∀ b ∈ fp, FpOk X pins H2 b)
   (cl1 : ∀ n c, cl.lookup n = some c → X.env.cells.lookup n = some c) (cl2 : ∀ n, (n, NameKind.free) ∈ scope.names → ∃ c, cl.lookup n = some c)
   (h : LcLoop J (capSt σ js) tt te H2 P)
   (hRR : ∀ D C ys H' s', P ys H' → H' D = none → Inv X pins σ (upd H' D (.lst ys)) s' → (∃ m, s'.heap.Ns C m) → C ≠ X.env.locals → X.s₀.heap.objs.size ≤ C → (∀ y c, X.env.cells.lookup y = some c → c ≠ C) → (∀ p ∈ X.pn ++ pins, p.1 ≠ C) →
     (upd H' D (.lst ys)) C = none → RR (.ref D) C (.ok .next) s') :
   wpAny (model X.prog X.w) X.A (newList []) (fun acc s₃ => wpAny (model X.prog X.w) X.A (newFunctionEnv scope X.env.globals cl [] X.env.qual none .none (some X.env)) (fun cenv s₄ =>
     codeAny (model X.prog X.w) X.A (.compStart (.ListComp elt [⟨.Name x px, iter, ifs, 0⟩] scope pos) 0 (.ref it) acc { cenv with scope := relabel scope X.env }) (RR acc cenv.locals) s₄) E s₃) E s2 := by
 unfold scOk at hs1
 simp only [Bool.and_eq_true, beq_iff_eq, List.all_eq_true] at hs1
 obtain ⟨⟨⟨⟨hkind, hcell0⟩, hnames0⟩, hxl⟩, hfr0⟩ := hs1
 have hcell : ∀ y ∈ scope.names, y.2 ≠ .cell := fun y hy e => by
   have := hcell0 y hy
   rw [e] at this
   simp at this
 refine wpAny_newObj_type (wpAny_newFunctionEnv hcell (by intro y hy; simp at hy) (fun h₁ hns₁ hsb₁ => ?_) hkind)
 dsimp only at hns₁ hsb₁ ⊢
 generalize hHp : s2.heap.push { cls := .type "list", dict := none, data := .seq ([] : List Value).toArray } = Hh at hns₁ hsb₁ ⊢
 have hC : Hh.objs.size = s2.heap.objs.size + 1 := by rw [← hHp, Heap.size_push]
 generalize hD : s2.heap.objs.size = D at hC ⊢
 generalize hCC : Hh.objs.size = C at hC hns₁ hsb₁ ⊢
 have hDC : D ≠ C := by omega
 have below : ∀ b o, s2.heap.get? b = some o → b < D := fun b o e => by rw [← hD]; exact Heap.lt_size e
 have old : ∀ b o, s2.heap.get? b = some o → h₁.get? b = some o := fun b o e =>
   hsb₁.extBut b o (Nat.ne_of_lt (by rw [hC]; exact Nat.lt_succ_of_lt (below b o e))) (Heap.get?_push_of_some _ (by rw [← hHp]; exact Heap.get?_push_of_some _ e))
 have hacc : h₁.get? D = some { cls := .type "list", data := .seq ([] : List Value).toArray } :=
   hsb₁.extBut D _ hDC (Heap.get?_push_of_some _ (by rw [← hHp, ← hD]; exact Heap.get?_push_size _ rfl))
 have fpD : ∀ b ∈ fp, b < D := fun b hb => by
   obtain ⟨o, e, _⟩ := T.obj _ _ st b hb
   exact below b o e
 have ltC : ∀ b : Addr, b < D → b ≠ C := fun b hb => Nat.ne_of_lt (by rw [hC]; exact Nat.lt_succ_of_lt hb)
 have hLt : X.env.locals < D := by rw [← hD]; exact I2.lt
 have cellLt : ∀ y c, X.env.cells.lookup y = some c → c < D := fun y c e => by
   obtain ⟨v, q⟩ := I2.cell y c e
   rw [← hD]; exact q.lt
 have frLt : ∀ b, b ∈ frs X.stack → b < D := fun b hb => by
   obtain ⟨_, o, ho, _⟩ := I2.stack.mem hb
   exact below b o ho
 let E' : Value → Shared → Prop := notedBy (model X.prog X.w) X.A (compEnvC scope cl C X.env) (fun e s' => RR (.ref D) C (.error e) s')
 let X' : Cx := cxC X scope cl C (x :: capN N js) s2 H2 fp E'
 have hok : X'.Ok := {
     mod := I2.ok.mod
     kind := hkind
     glob := I2.ok.glob
     blt := I2.ok.blt
     above := by show s2.heap.objs.size ≤ C; omega
     inj := fun a b c e1 e2 => I2.ok.inj a b c (cl1 _ _ e1) (cl1 _ _ e2)
     has := fun y hy => cl2 y (relabel_cf hcell hy)
     cab := fun _ _ e => nomatch e
     hd := I2.ok.hd
     frames := I2.ok.frames
     stk := .inl rfl
     exf := fun b hb => ⟨ltC b (fpD b hb), fun y c e => (f2 b hb).2.2.2.2.1 y c (cl1 _ _ e)⟩
     bs := I2.bs
     bsz := Nat.le_trans I2.ok.bsz I2.sz
     noex := fun b o e hb => by
       rcases (f2 b hb).2.2.2.1 with z | z
       · exact I2.ok.noex b o e z
       · have := Nat.lt_of_lt_of_le (Heap.lt_size e) I2.ok.bsz
         omega
     exfs := fun b hb z => by
       rcases List.mem_cons.mp (I2.stkSub b z) with e | e
       · exact (f2 b hb).2.1 e
       · exact (f2 b hb).2.2.1 e
     funs := I2.stack
     frf := I2.stkFree }
 have hl0 : (none :: capSt σ js : St).length = X'.N.length := by
   show _ = (x :: capN N js).length
   simp [capSt, capN]
 have nC2 : H2 C = none := I2.hok.fresh (by omega)
 have nD2 : H2 D = none := I2.hok.fresh (by omega)
 have I0 : Inv X' [] (none :: capSt σ js) H2 { s2 with heap := h₁, toks := s2.toks + ([] : List (Str × Value)).length } := by
   refine ⟨hok, rfl, I2.bare, Un.kept old, ⟨_, hns₁, fun i y v h1 h2 h3 => ?_⟩, fun y c e => ?_, nC2, fun y c e => I2.freeC y c (cl1 y c e), fun p hp => absurd (show p ∈ ([] : List (Addr × Obj)) from hp) (by simp), I2.hok.kept old, hl0⟩
   · cases i with
     | zero => simp at h2
     | succ i =>
       have h1' : (capN N js)[i]? = some y := by
         have z : (x :: capN N js)[i + 1]? = some y := h1
         simpa using z
       have h2' : (capSt σ js)[i]? = some (some v) := by simpa using h2
       unfold capN at h1'
       unfold capSt at h2'
       rw [List.getElem?_map] at h1' h2'
       cases ej : js[i]? with
       | none => rw [ej] at h1'; cases h1'
       | some j =>
         rw [ej] at h1' h2'
         have e1 : N.getD j Str.empty = y := Option.some.inj h1'
         have e2 : (σ[j]?).getD none = some v := Option.some.inj h2'
         have hσ : σ[j]? = some (some v) := by
           cases q : σ[j]? with
           | none => rw [q] at e2; cases e2
           | some o => rw [q] at e2; rw [show o = some v from e2]
         have hcj := (List.all_eq_true.mp hcap) j (List.mem_of_getElem? ej)
         simp only [Bool.and_eq_true, Bool.or_eq_true, beq_iff_eq, decide_eq_true_eq] at hcj
         obtain ⟨⟨hjl, hok1⟩, hok2⟩ := hcj
         rw [e1] at hok1 hok2
         have hNj : X.N[j]? = some y := by
           rw [hN, ← e1, List.getD_eq_getElem?_getD]
           simp [hjl]
         obtain ⟨m, hm, hl⟩ := I2.loc
         have hvis : Vis X.env.scope y := by
           rw [hsc]
           rcases hok1 with z | z
           · exact .inr (.inl z)
           · exact .inr (.inr z)
         obtain ⟨u, ru, look⟩ := hl j y v hNj hσ hvis
         refine ⟨u, ru, .inr ⟨lookup_relabel_free hok2, ?_⟩⟩
         rcases look with ⟨lk, _⟩ | ⟨_, c, ec, hcl⟩
         · have lk' : X.env.scope.names.lookup y = some .local := lk
           rw [hsc] at lk'
           rcases hok1 with z | z <;> (rw [z] at lk'; cases lk')
         · obtain ⟨c', ec'⟩ := cl2 y (PySem.mem_of_lookup hok2)
           have := cl1 y c' ec'
           rw [ec] at this
           cases this
           exact ⟨c, ec', let ⟨o, ho, hd⟩ := hcl; ⟨o, old c o ho, hd⟩⟩
   · obtain ⟨v, o, ho, hd⟩ := I2.cell y c (cl1 y c e)
     exact ⟨v, o, old c o ho, hd⟩
 have DfsX : D ∉ X'.fs := fun z => absurd (frLt D z) (Nat.lt_irrefl _)
 have Dfp : D ∉ fp := fun z => absurd (fpD D z) (Nat.lt_irrefl _)
 have Dcell : ∀ y c, X'.env.cells.lookup y = some c → c ≠ D := fun y c e => Nat.ne_of_lt (cellLt y c (cl1 y c e))
 have D0 : X'.s₀.heap.objs.size ≤ D := by show s2.heap.objs.size ≤ D; omega
 have fpOk : ∀ {H : Hp} {pl : List (Addr × Obj)}, (∀ b ∈ fp, H b = none) → (∀ p ∈ pl, p.1 ∉ fp) → ∀ b ∈ fp, FpOk X' pl H b := fun {H pl} hn hp b hb => by
   refine ⟨hn b hb, ltC b (fpD b hb), fun z => ?_, .inl hb, fun y c e => (f2 b hb).2.2.2.2.1 y c (cl1 y c e), fun p q => ?_⟩
   · rcases List.mem_cons.mp (I2.stkSub b z) with e | e
     · exact (f2 b hb).2.1 e
     · exact (f2 b hb).2.2.1 e
   · intro e
     rcases List.mem_append.mp q with q | q
     · exact absurd (show p ∈ ([] : List (Addr × Obj)) from q) (by simp)
     · exact hp p q (by rw [e]; exact hb)
 have hif : PIf X' ifs tt := (hin C s2 H2 fp E').1
 have helt : PE X' elt te := (hin C s2 H2 fp E').2
 obtain ⟨W, ⟨m0, w0⟩, turn⟩ := h
 have loop : ∀ s₃ : Shared, s₃ = { s2 with heap := h₁, toks := s2.toks + ([] : List (Str × Value)).length } →
     codeAny (model X.prog X.w) X.A (.compLoop (.ListComp elt [⟨.Name x px, iter, ifs, 0⟩] scope pos) 0 (.ref it) (.ref D) (compEnvC scope cl C X.env)) (RR (.ref D) C) s₃ := by
   rintro s₃ rfl
   refine compLoop_any (fun n s' => ∃ i ys its nn H', Inv X' [] (none :: capSt σ js) H' s' ∧ tn i s'.heap ∧ (∀ b ∈ fp, H' b = none) ∧ s'.heap.get? D = some { cls := .type "list", data := .seq (its : List Value).toArray nn } ∧ H' D = none ∧ Vals ys its ∧ W i n ys H') ?_ m0
     ⟨0, [], [], 0, H2, I0, T.keep _ _ _ st fun b _ o e => old b o e, fun b hb => (f2 b hb).1, hacc, nD2, .nil, w0⟩
   rintro n s3 ⟨i, ys, its, nn, H3, I3, st3, fr3, hD3, nD3, rv, w3⟩
   have hlen : ys.length = its.length := rv.length
   let ob : Obj := { cls := .type "list", data := .seq its.toArray nn }
   have nocell : ∀ v, ob.data ≠ .cell v := fun v z => nomatch z
   have I3p : Inv X' [(D, ob)] (none :: capSt σ js) H3 s3 := I3.pins_of fun p hp => by
     have e : p = (D, ob) := by simpa using hp
     subst e
     exact ⟨hD3, nD3, hDC, DfsX, nocell⟩
   have pfp : ∀ p ∈ [(D, ob)], p.1 ∉ fp := fun p hp => by
     have e : p = (D, ob) := by simpa using hp
     subst e
     exact Dfp
   rcases turn i n ys H3 w3 with ⟨stop, hz, q⟩ | ⟨go, hz, Nx, hNx, step⟩
   · refine wpAny_mono (T.done X' rfl rfl rfl hc i [(D, ob)] s3 _ H3 E' I3p (fpOk fr3 pfp) st3 stop) (fun r s4 ⟨hr, I4⟩ => ?_) fun _ _ e => e
     subst hr
     have hD4 : s4.heap.get? D = some ob := (I4.pin (D, ob) (by simp)).1
     have un : Un (frs X.stack) fp H2 H3 s2.heap s4.heap := I4.base
     obtain ⟨m, hm, _⟩ := I4.loc
     have nC3 : H3 C = none := I4.free
     refine hRR D C ys H3 s4 q nD3 ?_ ⟨m, hm⟩ (Ne.symm (ltC _ hLt)) (by have := I2.sz; omega) (fun y c e => ltC c (cellLt y c e)) (fun p hp => ?_) (by rw [uN hDC.symm]; exact nC3)
     · refine I2.call' I4.os (un.track (by omega) nD3) (I4.hok.track nD3 ⟨hz, its, nn, rv, hD4⟩) I4.bare fun b hb => ?_
       obtain ⟨_, a2, _, a4, a5, a6⟩ := f2 b hb
       exact ⟨a4, a2, a5, a6⟩
     · exact ltC _ (below _ _ (I2.pin p hp).1)
   · refine wpAny_mono (T.item X' rfl rfl rfl hc i [(D, ob)] s3 _ H3 E' I3p (fpOk fr3 pfp) st3 go) (fun r s4 ⟨u, hr, h4⟩ => ?_) fun _ _ e => e
     subst hr
     refine wpAny_mono h4 (fun _ s5 ⟨xv, H5, I5, r5, y5, st5, fr5⟩ => ?_) fun _ _ e => e
     have I5' := I5.pinned (fpOk fr5 pfp) (T.obj _ _ st5)
     refine wpAny_assign_Name (store_ok (X := X') (i := 0) (x := x) I5' hnd rfl (.inl (lookup_relabel_local hxl)) r5 (fun s6 I6 => ?_) (.inr (lookup_relabel_local hxl)))
     have next : ∀ {s7 : Shared} {H7 : Hp}, Inv X' ([(D, ob)] ++ pinsAt fp s5.heap) (some xv :: capSt σ js) H7 s7 →
         Inv X' [] (none :: capSt σ js) H7 s7 ∧ tn (i + 1) s7.heap ∧ (∀ b ∈ fp, H7 b = none) ∧ s7.heap.get? D = some ob ∧ H7 D = none := fun {s7 H7} I7 => by
       have pD := I7.pin (D, ob) (List.mem_append_right _ (List.mem_append_left _ (by simp)))
       refine ⟨(I7.weak (σ' := none :: capSt σ js) (by simp) fun j v e => ?_).pins_of (fun p hp => nomatch hp), T.keep _ _ _ st5 fun b hb o e => (I7.pin (b, o) (List.mem_append_right _ (List.mem_append_right _ (mem_pinsAt hb e)))).1, fun b hb => ?_, pD.1, pD.2.1⟩
       · cases j with
         | zero => simp at e
         | succ j => simpa using e
       · obtain ⟨o, e, d⟩ := T.obj _ _ st5 b hb
         exact (I7.pin (b, o) (List.mem_append_right _ (List.mem_append_right _ (mem_pinsAt hb e)))).2.1
     refine wpAny_mono (hif _ s6 _ H5 _ I6 (step xv H5 y5)) (fun b s7 ⟨H7, I7, q7⟩ => ?_) fun _ _ e => e
     cases b with
     | false =>
       rw [if_neg Bool.false_ne_true] at q7 ⊢
       obtain ⟨m', hm, w7⟩ := hNx ys H7 q7
       obtain ⟨a1, a2, a3, a4, a5⟩ := next I7
       exact ⟨m', hm, i + 1, ys, its, nn, H7, a1, a2, a3, a4, a5, rv, w7⟩
     | true =>
       rw [if_pos rfl] at q7 ⊢
       refine wpAny_mono (helt _ s7 _ H7 _ I7 q7) (fun uv s8 ⟨v, H8, I8, r8, q8⟩ => ?_) fun _ _ e => e
       obtain ⟨m', hm, w8⟩ := hNx _ H8 q8
       obtain ⟨a1, a2, a3, a4, a5⟩ := next I8
       refine call_meets F.slot_list_append ⟨_, a4, rfl⟩ F.entry_list_append (F.args_list_append_2 _ _) (PySem.list_append D its.toArray nn uv (by rw [List.size_toArray]; omega)) ⟨a4, ?_⟩
       have q := PySem.IsL.update a4 (·.push uv)
       have e2 : its.toArray.push uv = (its ++ [uv]).toArray := by simp
       rw [e2] at q
       have kk : ∀ b o, b ≠ D → s8.heap.get? b = some o → (s8.heap.update D (Obj.mapSeq (·.push uv))).get? b = some o := fun b o hb e => (Heap.get?_update_other s8.heap _ (Ne.symm hb)).trans e
       refine ⟨m', hm, i + 1, ys ++ [v], its ++ [uv], _, H8, a1.turned (t' := s8.toks) kk a5 hDC (.inr D0) Dcell (fun p hp => ?_), T.keep _ _ _ a2 fun b hb o e => kk b o (fun z => Dfp (z ▸ hb)) e, a3, q, a5, rv.append (.cons r8 .nil), w8⟩
       · exact absurd (show p ∈ ([] : List (Addr × Obj)) from hp) (by simp)
 exact codeAny_compStart_list (loop _ rfl) (T.self X.A 0 _ _ _ (T.keep _ _ _ st fun b _ o e => old b o e) (loop _ rfl))
def tLC (wi : TI) (js : List Nat) (tt : TT) (te : TE) : TE := fun σ H Q => wi σ H fun J H1 => LcLoop J (capSt σ js) tt te H1 fun ys H2 => ∀ D, H2 D = none → Q (.ref D) (upd H2 D (.lst ys))
theorem frees_of (hs1 : scOk osc scope x = true) (hsc : X.env.scope = osc) {pins : List (Addr × Obj)} {σ : St} {H : Hp} {s : Shared} (I : Inv X pins σ H s) : ∀ n, (n, NameKind.free) ∈ scope.names → ∃ c, X.env.cells.lookup n = some c := fun n hn => by
 unfold scOk at hs1
 simp only [Bool.and_eq_true, beq_iff_eq, List.all_eq_true] at hs1
 have h := hs1.2 _ hn
 simp only [bne_self_eq_false, Bool.false_or, Bool.or_eq_true, beq_iff_eq] at h
 refine I.ok.has n ?_
 show X.env.scope.names.lookup n = _ ∨ X.env.scope.names.lookup n = _
 rw [hsc]; exact h
theorem scOk.kind (hs1 : scOk osc scope x = true) : scope.kind = .function := by
 unfold scOk at hs1
 simp only [Bool.and_eq_true, beq_iff_eq, List.all_eq_true] at hs1
 exact hs1.1.1.1.1
theorem scOk.names (hs1 : scOk osc scope x = true) : ∀ y ∈ scope.names, y.2 = .local → scope.names.lookup y.1 = some .local := fun y hy e => by
 unfold scOk at hs1
 simp only [Bool.and_eq_true, beq_iff_eq, List.all_eq_true] at hs1
 have := hs1.1.1.2 y hy
 rw [e] at this
 simpa using this
theorem pe_lc {wi : TI} {ps : List Str} (_S : fSc N ps osc) (js : List Nat) (hi : PI X (.Name x px) iter wi)
   (hin : ∀ cl C s H fp E, PIf (cxC X scope cl C (x :: capN N js) s H fp E) ifs tt ∧ PE (cxC X scope cl C (x :: capN N js) s H fp E) elt te)
   (hN : X.N = N := by rfl) (hsc : X.env.scope = osc := by rfl) (hcap : capOk N osc scope js = true := by decide +kernel) (hs1 : scOk osc scope x = true := by decide +kernel) (hnd : (x :: capN N js).Nodup := by decide +kernel) (hc : X.calm = true := by rfl)
   (hs : ∀ v, foldedSetIterable iter X.env v = pure v := by intro _; rfl) :
   PE X (.ListComp elt [⟨.Name x px, iter, ifs, 0⟩] scope pos) (tLC wi js tt te) := by
 intro pins s σ H Q I h
 obtain ⟨cl, hcl, cl1, cl2⟩ := closure_of (frees_of hs1 hsc I)
 rw [eval_ListComp]
 refine wpAny_comprehension_free (use := none) rfl hs hcl (scOk.kind hs1) (scOk.names hs1) (thn (hi pins s σ H _ I h) fun v s1 h1 => thn h1 fun itv s2 h2 => ?_)
 obtain ⟨it, fp, tn, J, H2, e, I2, T, st2, f2, lp⟩ := h2
 subst e
 refine comp_core (RR := fun acc C => compPost (model X.prog X.w) X.A X.xe none (EP X pins σ Q) acc C) hN hsc hcap hs1 hnd hc (hin cl) I2 T st2 f2 cl1 cl2 lp ?_
 intro D C ys H' s' q nD I' hm hL h0 hce hpi hfree
 refine ⟨hm.choose, hm.choose_spec, fun h' hs' => ⟨.ref D, _, I'.turned (t' := s'.toks) (fun b o hb e => hs'.extBut b o hb e) hfree hL (.inr h0) hce hpi, rfl, q D nD⟩⟩
end
end L2
namespace L2
open PySem PySem.Spec PyProof.Rows
section
variable {X : Cx}
inductive ClV : V → Value → Prop where
 | ty (n : String) : ClV (.ty n) (.type n)
 | ref (a : Addr) : ClV (.ref a) (.ref a)
theorem ClV.rel {c : V} {cv u : Value} (h : ClV c cv) (r : RelV c u) : u = cv := by
 cases h with
 | ty n => exact r
 | ref a => exact r
theorem call_isinst : CallR X (.builtin "isinstance") (fun xs H Q => ∃ x c t cv b, xs = [x, c] ∧ ClV c cv ∧ TyOf X.K H x t ∧ W.kitOne X.K t cv = some b ∧ Q (.bl b) H) := by
 intro pins s σ H xs us Q I r h
 obtain ⟨x, c, t, cv, b, rfl, hc, ht, he, q⟩ := h
 cases r with
 | cons r1 r' =>
   cases r' with
   | cons r2 r'' =>
     cases r''
     obtain rfl := hc.rel r2
     exact isinst_ok I r1 ht he fun tk => ⟨.bl b, H, I.tok tk, rfl, q⟩
theorem isinst_tup {pins : List (Addr × Obj)} {σ : St} {H : Hp} {s : Shared} {A : Around} {E : Value → Shared → Prop} {Q : Value → Shared → Prop} {x : V} {u t : Value} {tp : Addr} {cs : List V} {cvs : List Value} {b : Bool}
   (I : Inv X pins σ H s) (rx : RelV x u) (ty : TyOf X.K H x t) (ht : H tp = some (.tup cs)) (hcs : Paired ClV cs cvs) (e : W.kitAny X.K t cvs = some b) (h : ∀ tk, Q (.bool b) { s with toks := tk }) :
   wpAny (model X.prog X.w) A (call (.builtin "isinstance") [u, .ref tp]) Q E s := by
 obtain ⟨_, its, rv, p⟩ := (show ObjOk X.prog X.w H s.heap tp (.tup cs) from I.hok tp _ ht)
 have eits : its = cvs := by
   have : ∀ {cs : List V} {its cvs : List Value}, Vals cs its → Paired ClV cs cvs → its = cvs := by
     intro cs
     induction cs with
     | nil => intro its cvs a b; cases a; cases b; rfl
     | cons c cs ih =>
       intro its cvs a b
       cases a with
       | cons a1 a2 =>
         cases b with
         | cons b1 b2 => rw [b1.rel a1, ih a2 b2]
   exact this rv hcs
 subst eits
 obtain ⟨⟨oc, od, odt, osl⟩, h1, h2, n, h3⟩ := p
 cases h2
 cases h3
 cases ty with
 | non => cases (show u = Value.none from rx); exact W.kia_tup W.kitx_none I.kIn True.intro h1 e (fun z => nomatch z) h
 | bl y => cases (show u = Value.bool y from rx); exact W.kia_tup W.kitx_bool I.kIn True.intro h1 e (fun z => nomatch z) h
 | int i => obtain ⟨t, q⟩ := (show ∃ t, u = Value.int i t from rx); cases q; exact W.kia_tup W.kitx_int I.kIn True.intro h1 e (fun z => nomatch z) h
 | str y => obtain ⟨t, q⟩ := (show ∃ t, u = Value.str y t from rx); cases q; exact W.kia_tup W.kitx_str I.kIn True.intro h1 e (fun z => nomatch z) h
 | flt y => obtain ⟨t, q⟩ := (show ∃ t, u = Value.float y t from rx); cases q; exact W.kia_tup W.kitx_float I.kIn True.intro h1 e (fun z => nomatch z) h
 | @lst a xs ea =>
   cases (show u = Value.ref a from rx)
   obtain ⟨_, _, n, _, h1'⟩ := (show ObjOk X.prog X.w H s.heap a (.lst xs) from I.hok a _ ea)
   exact W.kia_tup W.kitx_list I.kIn ⟨_, h1', rfl⟩ h1 e (fun z => nomatch z) h
 | @frz a ob xs ea =>
   cases (show u = Value.ref a from rx)
   obtain ⟨_, _, _, n, _, h1'⟩ := (show ObjOk X.prog X.w H s.heap a (.frz ob (.lst xs)) from I.hok a _ ea)
   exact W.kia_tup W.kitx_list I.kIn ⟨_, h1', rfl⟩ h1 e (fun z => nomatch z) h
 | @tup a xs ea =>
   cases (show u = Value.ref a from rx)
   obtain ⟨_, _, _, p⟩ := (show ObjOk X.prog X.w H s.heap a (.tup xs) from I.hok a _ ea)
   obtain ⟨o, h1', h2, _⟩ := p
   exact W.kia_tup W.kitx_tuple I.kIn ⟨o, h1', h2⟩ h1 e (fun z => nomatch z) h
 | @dK a kvs ea =>
   cases (show u = Value.ref a from rx)
   obtain ⟨_, _, vs, _, p⟩ := (show ObjOk X.prog X.w H s.heap a (.dK kvs) from I.hok a _ ea)
   obtain ⟨o, es, ep, h1', h2, _⟩ := p
   exact W.kia_tup W.kitx_dict I.kIn ⟨o, h1', h2.1⟩ h1 e (fun z => nomatch z) h
 | @dT a kvs ea =>
   cases (show u = Value.ref a from rx)
   obtain ⟨_, _, xs, _, o, es, ep, h1', h2, _⟩ := (show ObjOk X.prog X.w H s.heap a (.dT kvs) from I.hok a _ ea)
   exact W.kia_tup W.kitx_dict I.kIn ⟨o, h1', h2.1⟩ h1 e (fun z => nomatch z) h
 | @ins a C dx fs ea cl ha hn htk hm =>
   cases (show u = Value.ref a from rx)
   obtain ⟨mA, O, _⟩ := ins_get I.hok ea
   obtain ⟨od, J, _⟩ := O.look
   exact W.kia_tup (W.kitx_own (cl.get _) cl.hd ha hn htk hm) I.kIn J h1 e (fun z => nomatch z) h
theorem call_isinstT : CallR X (.builtin "isinstance") (fun xs H Q => ∃ x tp cs t cvs b, xs = [x, .ref tp] ∧ H tp = some (.tup cs) ∧ Paired ClV cs cvs ∧ TyOf X.K H x t ∧ W.kitAny X.K t cvs = some b ∧ Q (.bl b) H) := by
 intro pins s σ H xs us Q I r h
 obtain ⟨x, tp, cs, t, cvs, b, rfl, htp, hcs, ht, he, q⟩ := h
 cases r with
 | cons r1 r' =>
   cases r' with
   | cons r2 r'' =>
     cases r''
     cases r2
     exact isinst_tup I r1 ht htp hcs he fun tk => ⟨.bl b, H, I.tok tk, rfl, q⟩
end
def EqD (X : Cx) (H : Hp) (d : Nat) (x y : V) (b : Bool) : Prop :=
 ∀ (A : Around) (s : Shared) (pins : List (Addr × Obj)) (σ : St) (u v : Value), Inv X pins σ H s → A.units + d < cLine → RelV x u → RelV y v → SeqAt.EqAt A s u v b
def RcD (X : Cx) (H : Hp) (d : Nat) (x y : V) (b : Bool) : Prop :=
 ∀ (A : Around) (s : Shared) (pins : List (Addr × Obj)) (σ : St) (u v : Value), Inv X pins σ H s → A.units + d < cLine → RelV x u → RelV y v → SeqAt.RcAt A s u v b ∧ SeqAt.RcNeAt A s u v (!b)
structure EqR (X : Cx) (H : Hp) (d : Nat) {α : Type} [DecidableEq α] (R : V → α → Prop) : Prop where
 eq : ∀ x y a b, R x a → R y b → EqD X H d x y (decide (a = b))
 rc : ∀ x y a b, R x a → R y b → RcD X H d x y (decide (a = b))
 one : ∀ x a b, R x a → R x b → (∃ pins σ s, Inv X pins σ H s) → a = b
section
variable {X : Cx} {H : Hp} {d : Nat}
def isI : V → Int → Prop := fun v i => v = .int i
def isB : V → Bool → Prop := fun v i => v = .bl i
theorem EqR.int : EqR X H d isI := ⟨fun x y a b ha hb A s pins σ u v I hu ru rv => by
   cases ha; cases hb
   obtain ⟨t, rfl⟩ := ru
   obtain ⟨t', rfl⟩ := rv
   rw [show decide (a = b) = (a == b) from rfl]
   exact SeqAt.EqAt.int_int a t b t', fun x y a b ha hb A s pins σ u v I hu ru rv => by
   cases ha; cases hb
   obtain ⟨t, rfl⟩ := ru
   obtain ⟨t', rfl⟩ := rv
   rw [show decide (a = b) = (a == b) from rfl]
   exact ⟨SeqAt.RcAt.int_int a t b t', SeqAt.RcNeAt.int_int a t b t'⟩, fun x a b ha hb _ => by cases ha; cases hb; rfl⟩
theorem EqR.bl : EqR X H d isB := ⟨fun x y a b ha hb A s pins σ u v I hu ru rv => by
   cases ha; cases hb
   cases ru; cases rv
   rw [show decide (a = b) = (a == b) by cases a <;> cases b <;> rfl]
   exact SeqAt.EqAt.bool_bool a b, fun x y a b ha hb A s pins σ u v I hu ru rv => by
   cases ha; cases hb
   cases ru; cases rv
   rw [show decide (a = b) = (a == b) by cases a <;> cases b <;> rfl]
   exact ⟨SeqAt.RcAt.bool_bool a b, SeqAt.RcNeAt.bool_bool a b⟩, fun x a b ha hb _ => by cases ha; cases hb; rfl⟩
variable {α : Type} [DecidableEq α] {R : V → α → Prop}
def isT (K : W.Frag) (H : Hp) (R : V → α → Prop) : V → List α → Prop := fun v as => ∃ a xs, v = .ref a ∧ SqT K H a xs ∧ Paired R xs as
def isL (K : W.Frag) (H : Hp) (R : V → α → Prop) : V → List α → Prop := fun v as => ∃ a xs, v = .ref a ∧ SqL K H a xs ∧ Paired R xs as
theorem Paired.get {β γ : Type} {F : β → γ → Prop} : ∀ {xs : List β} {ys : List γ} {i : Nat} {x : β}, Paired F xs ys → xs[i]? = some x → ∃ y, ys[i]? = some y ∧ F x y
 | _, _, _, _, .nil, e => by simp at e
 | _, _, 0, _, .cons r _, e => by simp at e; subst e; exact ⟨_, rfl, r⟩
 | _, _, i + 1, x, .cons _ t, e => by
   obtain ⟨u, h1, h2⟩ := Paired.get (i := i) (x := x) t (by simpa using e)
   exact ⟨u, by simpa using h1, h2⟩
theorem paired_one {X : Cx} {H : Hp} {d : Nat} (h : EqR X H d R) (I : ∃ pins σ s, Inv X pins σ H s) : ∀ {xs : List V} {as bs : List α}, Paired R xs as → Paired R xs bs → as = bs
 | _, _, _, .nil, .nil => rfl
 | _, _, _, .cons r t, .cons r' t' => by rw [h.one _ _ _ r r' I, paired_one h I t t']
theorem all_range_eq {as bs : List α} (hl : as.length = bs.length) : (List.range as.length).all (fun j => decide (as[j]? = bs[j]?)) = decide (as = bs) := by
 rw [Bool.eq_iff_iff, List.all_eq_true, decide_eq_true_iff]
 constructor
 · intro h
   apply List.ext_getElem?
   intro j
   by_cases hj : j < as.length
   · exact of_decide_eq_true (h j (List.mem_range.mpr hj))
   · rw [List.getElem?_eq_none_iff.mpr (by omega), List.getElem?_eq_none_iff.mpr (by omega)]
 · intro h j _
   rw [h]; simp
theorem EqR.tup (h : EqR X H d R) : EqR X H (d + 1) (isT X.K H R) := by
 have rc : ∀ x y a b, isT X.K H R x a → isT X.K H R y b → RcD X H (d + 1) x y (decide (a = b)) := by
   rintro x y as bs ⟨a, xs, rfl, hx, pa⟩ ⟨b, ys, rfl, hy, pb⟩ A s pins σ u v I hu ru rv
   cases ru; cases rv
   obtain ⟨its, r1, t1, _⟩ := I.tuple hx
   obtain ⟨jts, r2, t2, _⟩ := I.tuple hy
   have l1 := r1.length
   have l2 := r2.length
   have l3 := pa.length
   have l4 := pb.length
   have hu1 : A.units < cLine := by omega
   have he : ∀ j (h1 : j < its.toArray.size) (h2 : j < jts.toArray.size), SeqAt.EqAt A.in1 s its.toArray[j] jts.toArray[j] (decide (as[j]? = bs[j]?)) := fun j h1 h2 => by
     simp only [List.size_toArray] at h1 h2
     obtain ⟨xv, ex⟩ : ∃ xv, xs[j]? = some xv := ⟨xs[j]'(by omega), List.getElem?_eq_getElem (by omega)⟩
     obtain ⟨yv, ey⟩ : ∃ yv, ys[j]? = some yv := ⟨ys[j]'(by omega), List.getElem?_eq_getElem (by omega)⟩
     obtain ⟨u1, q1, w1⟩ := r1.get ex
     obtain ⟨u2, q2, w2⟩ := r2.get ey
     obtain ⟨a1, p1, z1⟩ := Paired.get pa ex
     obtain ⟨a2, p2, z2⟩ := Paired.get pb ey
     have g1 : its.toArray[j]'(by simpa using h1) = u1 := by
       have := List.getElem?_eq_some_iff.mp q1
       simpa using this.2
     have g2 : jts.toArray[j]'(by simpa using h2) = u2 := by
       have := List.getElem?_eq_some_iff.mp q2
       simpa using this.2
     rw [g1, g2, p1, p2]
     have := h.eq xv yv a1 a2 z1 z2 A.in1 s pins σ u1 u2 I (by show A.units + 1 + d < cLine; omega) w1 w2
     rw [show decide (some a1 = some a2) = decide (a1 = a2) by simp]
     exact this
   have hb : ((List.range (min its.toArray.size jts.toArray.size)).all (fun j => decide (as[j]? = bs[j]?)) && its.toArray.size == jts.toArray.size) = decide (as = bs) := by
     simp only [List.size_toArray]
     by_cases hl : as.length = bs.length
     · have e1 : its.length = jts.length := by omega
       have e2 : min its.length jts.length = as.length := by omega
       rw [e2, all_range_eq hl, e1]; simp
     · have : (its.length == jts.length) = false := by simp; omega
       rw [this, Bool.and_false]
       exact (decide_eq_false fun e => hl (by rw [e])).symm
   have z1 := SeqAt.RcAt.tuples (A := A) (s := s) t1 t2 hu1 he
   have z2 := SeqAt.RcNeAt.tuples (A := A) (s := s) t1 t2 hu1 he
   rw [hb] at z1 z2
   exact ⟨z1, z2⟩
 refine ⟨?_, rc, ?_⟩
 · rintro x y as bs hx hy A s pins σ u v I hu ru rv
   obtain ⟨a, xs, rfl, hx', pa⟩ := id hx
   obtain ⟨b, ys, rfl, hy', pb⟩ := id hy
   cases ru; cases rv
   by_cases e : a = b
   · subst e
     have : xs = ys := I.tuple_inj hx' hy'
     subst this
     rw [paired_one h ⟨pins, σ, s, I⟩ pa pb, decide_eq_true rfl]
     exact SeqAt.EqAt.same _
   · exact SeqAt.EqAt.of_refs e (rc _ _ as bs hx hy A s pins σ _ _ I hu rfl rfl).1
 · rintro x as bs ⟨a, xs, rfl, hx, pa⟩ ⟨b, ys, e, hy, pb⟩ ⟨pins, σ, s, I⟩
   cases e
   have : xs = ys := I.tuple_inj hx hy
   subst this
   exact paired_one h ⟨pins, σ, s, I⟩ pa pb
theorem EqR.lst (h : EqR X H d R) : EqR X H (d + 1) (isL X.K H R) := by
 have rc : ∀ x y a b, isL X.K H R x a → isL X.K H R y b → RcD X H (d + 1) x y (decide (a = b)) := by
   rintro x y as bs ⟨a, xs, rfl, hx, pa⟩ ⟨b, ys, rfl, hy, pb⟩ A s pins σ u v I hu ru rv
   cases ru; cases rv
   obtain ⟨its, r1, t1, _⟩ := I.list hx
   obtain ⟨jts, r2, t2, _⟩ := I.list hy
   have l1 := r1.length
   have l2 := r2.length
   have l3 := pa.length
   have l4 := pb.length
   have hu1 : A.units < cLine := by omega
   by_cases hl : as.length = bs.length
   · have he : ∀ j (h1 : j < its.toArray.size) (h2 : j < jts.toArray.size), SeqAt.EqAt A.in1 s its.toArray[j] jts.toArray[j] (decide (as[j]? = bs[j]?)) := fun j h1 h2 => by
       simp only [List.size_toArray] at h1 h2
       obtain ⟨xv, ex⟩ : ∃ xv, xs[j]? = some xv := ⟨xs[j]'(by omega), List.getElem?_eq_getElem (by omega)⟩
       obtain ⟨yv, ey⟩ : ∃ yv, ys[j]? = some yv := ⟨ys[j]'(by omega), List.getElem?_eq_getElem (by omega)⟩
       obtain ⟨u1, q1, w1⟩ := r1.get ex
       obtain ⟨u2, q2, w2⟩ := r2.get ey
       obtain ⟨a1, p1, z1⟩ := Paired.get pa ex
       obtain ⟨a2, p2, z2⟩ := Paired.get pb ey
       have g1 : its.toArray[j]'(by simpa using h1) = u1 := by
         have := List.getElem?_eq_some_iff.mp q1
         simpa using this.2
       have g2 : jts.toArray[j]'(by simpa using h2) = u2 := by
         have := List.getElem?_eq_some_iff.mp q2
         simpa using this.2
       rw [g1, g2, p1, p2]
       have := h.eq xv yv a1 a2 z1 z2 A.in1 s pins σ u1 u2 I (by show A.units + 1 + d < cLine; omega) w1 w2
       rw [show decide (some a1 = some a2) = decide (a1 = a2) by simp]
       exact this
     have hsz : its.toArray.size = jts.toArray.size := by simp; omega
     have hb : (List.range its.toArray.size).all (fun j => decide (as[j]? = bs[j]?)) = decide (as = bs) := by
       simp only [List.size_toArray]
       rw [show its.length = as.length by omega, all_range_eq hl]
     have z1 := SeqAt.RcAt.lists (A := A) (s := s) t1.isList t2.isList hsz hu1 he
     have z2 := SeqAt.RcNeAt.lists (A := A) (s := s) t1.isList t2.isList hsz hu1 he
     rw [hb] at z1 z2
     exact ⟨z1, z2⟩
   · have hsz : (its.toArray.size != jts.toArray.size) = true := by simp; omega
     rw [decide_eq_false fun e => hl (by rw [e])]
     exact ⟨SeqAt.RcAt.lists_lengths t1.isList t2.isList hsz hu1, SeqAt.RcNeAt.lists_lengths t1.isList t2.isList hsz hu1⟩
 refine ⟨?_, rc, ?_⟩
 · rintro x y as bs hx hy A s pins σ u v I hu ru rv
   obtain ⟨a, xs, rfl, hx', pa⟩ := id hx
   obtain ⟨b, ys, rfl, hy', pb⟩ := id hy
   cases ru; cases rv
   by_cases e : a = b
   · subst e
     have : xs = ys := I.list_inj hx' hy'
     subst this
     rw [paired_one h ⟨pins, σ, s, I⟩ pa pb, decide_eq_true rfl]
     exact SeqAt.EqAt.same _
   · exact SeqAt.EqAt.of_refs e (rc _ _ as bs hx hy A s pins σ _ _ I hu rfl rfl).1
 · rintro x as bs ⟨a, xs, rfl, hx, pa⟩ ⟨b, ys, e, hy, pb⟩ ⟨pins, σ, s, I⟩
   cases e
   have : xs = ys := I.list_inj hx hy
   subst this
   exact paired_one h ⟨pins, σ, s, I⟩ pa pb
def rEqD (X : Cx) : R2 := fun x y H Q => ∃ b, RcD X H 20 x y b ∧ Q (.bl b) H
def rNeD (X : Cx) : R2 := fun x y H Q => ∃ b, RcD X H 20 x y b ∧ Q (.bl (!b)) H
theorem op_eqD (hu : X.A.units + 20 < cLine) : OpR X (compareOp .Eq) (rEqD X) := by
 intro pins s σ H x y v u Q I rx ry h
 obtain ⟨b, hb, q⟩ := h
 exact (hb X.A s pins σ v u I hu rx ry).1 X.prog X.w X.xe _ ⟨.bl b, H, I, rfl, q⟩
theorem op_neD (hu : X.A.units + 20 < cLine) : OpR X (compareOp .NotEq) (rNeD X) := by
 intro pins s σ H x y v u Q I rx ry h
 obtain ⟨b, hb, q⟩ := h
 exact (hb X.A s pins σ v u I hu rx ry).2 X.prog X.w X.xe _ ⟨.bl (!b), H, I, rfl, q⟩
open Classical in
open Classical in
end
end L2
namespace L2
open PySem PySem.Spec PyProof.Rows
section
variable {X : Cx} {pins : List (Addr × Obj)} {σ : St} {H : Hp} {s : Shared} {h' : Heap}
theorem Inv.turnedL {t' : Nat} {ch : List Addr} (I : Inv X pins σ H s) (k : ∀ b o, b ∉ ch → s.heap.get? b = some o → h'.get? b = some o) (hf : ∀ b ∈ ch, FpOk X pins H b) : Inv X pins σ H { s with heap := h', toks := t' } := by
 have nit : ∀ b u, H b = some u → b ∉ ch := fun b u e z => by rw [(hf b z).1] at e; cases e
 refine I.step (g' := s.gens) (d' := s.drawn) (ch := ch) (fun b hb => ?_) (fun b o _ _ hc e _ => k b o hc e) (fun b o _ _ hc e _ => ⟨o.slots, k b o hc e⟩) (fun _ _ _ _ n => n)
   (fun b o hc e => ⟨o, k b o hc e⟩) (fun _ _ e => e) (fun _ _ _ e => e) (fun b ps e => ⟨#[], by rw [e]; simp⟩) (fun m hm => ?_) (fun b u e => ?_) I.bare
 · obtain ⟨_, a2, _, a4, a5, a6⟩ := hf b hb
   exact ⟨a4, a2, a5, a6⟩
 · obtain ⟨o, es, ep, ho, r⟩ := hm
   exact ⟨o, es, ep, k _ o (fun z => (hf _ z).2.1 rfl) ho, r⟩
 · refine (I.hok b u e).stay (fun c v hc q => k c v ?_ q) (fun _ q => q) fun _ _ q => q
   rcases hc with z | z
   · rw [z]; exact nit b u e
   · exact nit c _ z
theorem Inv.track {a : Addr} {o : HO} {t' : Nat} (I : Inv X pins σ H s) (hf : FpOk X pins H a) (new : ObjOk X.prog X.w (upd H a o) s.heap a o) : Inv X pins σ (upd H a o) { s with toks := t' } := by
 have hn := hf.1
 refine I.step (h' := s.heap) (g' := s.gens) (d' := s.drawn) (ch := [a]) (fun b hb => ?_) (fun b o _ _ _ e _ => e) (fun b o _ _ _ e _ => ⟨o.slots, e⟩) (fun b ob hc e n => ?_)
   (fun b o _ e => ⟨o, e⟩) (fun b xs e => by rw [uN (nN e hn)]; exact e) (fun b ob u e => by rw [uN (nN e hn)]; exact e) (fun b ps e => ⟨#[], by rw [uN (nN e hn), e]; simp⟩) (fun m hm => hm) (I.hok.track hn new) I.bare
 · have e : b = a := by simpa using hb
   subst e
   obtain ⟨_, a2, _, a4, a5, a6⟩ := hf
   exact ⟨a4, a2, a5, a6⟩
 · rw [uN (fun z => hc (by simp [z]))]; exact n
end
def Itz (K : W.Frag) (l1 l2 : Addr) : It :=
 ⟨fun i H => ∃ xs ys x y, SqL K H l1 xs ∧ SqL K H l2 ys ∧ xs[i]? = some x ∧ ys[i]? = some y,
  fun i H v H' => ∃ T x y, v = .ref T ∧ H T = none ∧ H' = upd H T (.tup [x, y]) ∧ (∀ xs, SqL K H l1 xs → xs[i]? = some x) ∧ (∀ ys, SqL K H l2 ys → ys[i]? = some y),
  fun i H => ∃ xs ys, SqL K H l1 xs ∧ SqL K H l2 ys ∧ (xs.length ≤ i ∨ ys.length ≤ i)⟩
theorem turn_zip {P : Program} {w : World} {K : W.Frag} {es : List Expr} {k : Nat} {pos : Pos} {z TI TO i1 i2 l1 l2 : Addr} (D : ZipApart z TI TO i1 i2 l1 l2) :
   Turn P w K (.Tuple es k pos) (Itz K l1 l2) [z, TI, TO, i1, i2] z (fun i h => IsZip h z TI TO .none ∧ IsPair h TI (.ref i1) (.ref i2) ∧ (∃ a b, IsPair h TO a b) ∧ h.IsListIter i1 l1 i ∧ h.IsListIter i2 l2 i) where
 mem := by simp
 obj := fun i h st b hb => by
   obtain ⟨hz, hTI, ⟨a', b', hTO⟩, ⟨o1, e1, c1, d1⟩, ⟨o2, e2, c2, d2⟩⟩ := st
   simp only [List.mem_cons, List.not_mem_nil, or_false] at hb
   rcases hb with rfl | rfl | rfl | rfl | rfl
   · exact ⟨_, hz, fun v z => nomatch z⟩
   · exact ⟨_, hTI, fun v z => nomatch z⟩
   · exact ⟨_, hTO, fun v z => nomatch z⟩
   · exact ⟨o1, e1, fun v z => by rw [d1] at z; cases z⟩
   · exact ⟨o2, e2, fun v z => by rw [d2] at z; cases z⟩
 keep := fun i h h' st kk => by
   obtain ⟨hz, hTI, ⟨a', b', hTO⟩, h1, h2⟩ := st
   exact ⟨kk z (by simp) _ hz, kk TI (by simp) _ hTI, ⟨a', b', kk TO (by simp) _ hTO⟩, h1.at fun o e => kk i1 (by simp) o e, h2.at fun o e => kk i2 (by simp) o e⟩
 item := by
   intro X hP hw hK hc i pins s σ H E I hf st hg
   subst hP hw hK
   obtain ⟨xs, ys, x, y, hq1, hq2, hx, hy⟩ := hg
   obtain ⟨its, rv, p1, _⟩ := I.list hq1
   obtain ⟨jts, rw', p2, _⟩ := I.list hq2
   obtain ⟨u1, hu1, ru1⟩ := rv.get hx
   obtain ⟨u2, hu2, ru2⟩ := rw'.get hy
   obtain ⟨hz, hTI, ⟨a, b, hTO⟩, h1, h2⟩ := st
   refine wpAny_pyNext_zip_item D hz hTI hTO h1 h2 p1.isList p2.isList (x := u1) (y := u2) (by simpa using hu1) (by simpa using hu2) fun h' a1 a2 a3 a4 a5 a6 hk => ?_
   refine ⟨_, rfl, wpAny_letOwnedTupleGo_zip a1 fun h'' hz'' hs'' => ?_⟩
   have hne : ∀ c, c ∈ [z, TI, TO, i1, i2] → s.heap.objs.size ≠ c := fun c hc => by
     have : ∃ o, s.heap.get? c = some o := by
       simp only [List.mem_cons, List.not_mem_nil, or_false] at hc
       obtain ⟨o1, e1, _⟩ := id h1
       obtain ⟨o2, e2, _⟩ := id h2
       rcases hc with rfl | rfl | rfl | rfl | rfl
       · exact ⟨_, hz⟩
       · exact ⟨_, hTI⟩
       · exact ⟨_, hTO⟩
       · exact ⟨_, e1⟩
       · exact ⟨_, e2⟩
     obtain ⟨o, e⟩ := this
     exact Nat.ne_of_gt (Heap.lt_size e)
   have I1 : Inv X pins σ H { s with heap := h'' } := I.turnedL (t' := s.toks) (ch := [z, TI, TO, i1, i2]) (fun c o hc e => hs''.extBut _ _ (fun q => hc (by simp [q])) (hk c o (fun q => hc (by simp [q])) (fun q => hc (by simp [q])) (fun q => hc (by simp [q])) (fun q => hc (by simp [q])) e)) hf
   have hT : h''.get? s.heap.objs.size = some { cls := .type "tuple", data := .seq #[u1, u2] } := hs''.extBut _ _ (hne z (by simp)) a5
   have I2 : Inv X pins σ (upd H s.heap.objs.size (.tup [x, y])) { s with heap := h'' } := I1.track (t' := s.toks) (I.fpOk (Nat.le_refl _) (I.hok.fresh (Nat.le_refl _))) ⟨by show 2 ≤ sizeLine; decide, [u1, u2], .cons ru1 (.cons ru2 .nil), ⟨_, hT, rfl, _, rfl⟩⟩
   refine ⟨.ref s.heap.objs.size, _, I2, rfl, ⟨_, x, y, rfl, I.hok.fresh (Nat.le_refl _), rfl, fun xs' h => by rw [I.list_inj h hq1]; exact hx, fun ys' h => by rw [I.list_inj h hq2]; exact hy⟩, ⟨hz'', hs''.extBut _ _ D.TIz (hk _ _ D.TIz D.TITO D.TIi1 D.TIi2 hTI), ⟨_, _, hs''.extBut _ _ D.TOz a2⟩, a3.extBut hs''.extBut D.i1z, a4.extBut hs''.extBut D.i2z⟩, fun c hc => ?_⟩
   rw [uN (Ne.symm (hne c hc))]
   exact (hf c hc).1
 done := by
   intro X hP hw hK hc i pins s σ H E I hf st hg
   subst hP hw hK
   obtain ⟨xs, ys, hq1, hq2, hx⟩ := hg
   obtain ⟨its, rv, p1, _⟩ := I.list hq1
   obtain ⟨jts, rw', p2, _⟩ := I.list hq2
   obtain ⟨hz, hTI, ⟨a, b, hTO⟩, h1, h2⟩ := st
   have l1 := rv.length
   have l2 := rw'.length
   refine wpAny_pyNext_zip_end (I.ok.hd hc) D hz hTI hTO h1 h2 p1.isList p2.isList ?_ fun h' hk => ⟨rfl, ?_⟩
   · rcases hx with z | z
     · exact .inl (by simp; omega)
     · exact .inr (by simp; omega)
   · exact I.turnedL (t' := s.toks) (ch := [z, TI, TO, i1, i2]) (fun c o hc e => hk c o (fun q => hc (by simp [q])) (fun q => hc (by simp [q])) (fun q => hc (by simp [q])) (fun q => hc (by simp [q])) e) hf
 self := fun _ _ _ _ _ st h => wpAny_pyIter_zip st.1 h
def iZip (K : W.Frag) (ta : TA) : TI := fun σ H R => ta σ H fun vs H1 => ∃ l1 l2 xs ys, vs = [.ref l1, .ref l2] ∧ SqL K H1 l1 xs ∧ SqL K H1 l2 ys ∧ R (Itz K l1 l2) H1
theorem pi_zip {X : Cx} {a b : Expr} {ta : TA} {p pos : Pos} {es : List Expr} {k : Nat} {pt : Pos} (hg : Gl X "zip") (hm : X.mg "zip" = none) (ha : PA X [a, b] ta)
   (hs : starEach [a, b] X.env = [(false, eval a X.env), (false, eval b X.env)] := by rfl) (hs2 : starEach [b] X.env = [(false, eval b X.env)] := by rfl) (hv : bootBuiltins "zip" = some (.type "zip") := by decide +kernel) :
   PI X (.Tuple es k pt) (.Call (.Name "zip" p) [a, b] [] pos) (iZip X.K ta) := by
 intro pins s σ H R I h
 refine Call_ (ld_blt I hg hm hv (PyProof.Rows.callWith_type1 (thn (ha pos pins s σ H _ I h) fun us s1 ⟨vs, H1, I1, r1, q1⟩ => ?_) (by rw [hs, hs2]) (by rw [hs2]; rfl)))
 obtain ⟨l1, l2, xs, ys, e, hq1, hq2, q⟩ := q1
 subst e
 cases r1 with
 | cons r rr =>
   cases rr with
   | cons r' rr =>
     cases rr
     cases r
     cases r'
     obtain ⟨its, rv, p1, _⟩ := I1.list hq1
     obtain ⟨jts, rw', p2, _⟩ := I1.list hq2
     have lt1 : l1 < s1.heap.objs.size := by obtain ⟨o, n, e, _⟩ := p1; exact Heap.lt_size e
     have lt2 : l2 < s1.heap.objs.size := by obtain ⟨o, n, e, _⟩ := p2; exact Heap.lt_size e
     refine call_zip_2 p1.isList p2.isList fun h' hz hTI hTO hi1 hi2 hsz hk => wpAny_pyIter_zip hz ?_
     refine ⟨_, [_, _, _, _, _], _, Itz X.K l1 l2, H1, rfl, I1.kept (t' := s1.toks) hk, turn_zip (zipApart_new lt1 lt2), ⟨hz, hTI, ⟨_, _, hTO⟩, hi1, hi2⟩, fun b hb => ?_, q⟩
     have hb' : s1.heap.objs.size ≤ b := by
       simp only [List.mem_cons, List.not_mem_nil, or_false] at hb
       rcases hb with rfl | rfl | rfl | rfl | rfl <;> omega
     exact I1.fpOk hb' (I1.hok.fresh hb')
theorem for_zip {K : W.Frag} {l1 l2 : Addr} {xs ys : List V} {g : TG} {tb : TS} {D : Ends} {σ : St} {H : Hp} (hlen : xs.length = ys.length) (Pv : Nat → St → Hp → Prop) (h0 : Pv 0 σ H) (hl : ∀ i σ H, i ≤ xs.length → Pv i σ H → SqL K H l1 xs ∧ SqL K H l2 ys)
   (hs : ∀ i x y T σ H, xs[i]? = some x → ys[i]? = some y → H T = none → Pv i σ H → g (.ref T) σ (upd H T (.tup [x, y])) fun σ2 H2 => tb { D with nx := Pv (i + 1), ct := Pv (i + 1), bk := D.nx } σ2 H2) (hd : ∀ σ H, Pv xs.length σ H → D.nx σ H) :
   ∃ W : Nat → Nat → St → Hp → Prop, (∃ m, W 0 m σ H) ∧ ∀ i m σ H, W i m σ H →
     ((Itz K l1 l2).stop i H ∧ D.nx σ H) ∨ ((Itz K l1 l2).go i H ∧ ∃ N : St → Hp → Prop, (∀ σ' H', N σ' H' → ∃ m', m' < m ∧ W (i + 1) m' σ' H') ∧ ∀ x H', (Itz K l1 l2).yld i H x H' → g x σ H' fun σ2 H2 => tb { D with nx := N, ct := N, bk := D.nx } σ2 H2) := by
 refine ⟨fun i m σ H => m = xs.length - i ∧ i ≤ xs.length ∧ Pv i σ H, ⟨xs.length, by simp, Nat.zero_le _, h0⟩, ?_⟩
 rintro i m σ H ⟨rfl, hi, p⟩
 obtain ⟨q1, q2⟩ := hl i σ H hi p
 by_cases hlt : i < xs.length
 · refine .inr ⟨⟨xs, ys, xs[i], ys[i], q1, q2, by simp [hlt], by simp [← hlen, hlt]⟩, Pv (i + 1), fun σ' H' p' => ⟨xs.length - (i + 1), by omega, rfl, hlt, p'⟩, fun x H' y => ?_⟩
   obtain ⟨T, a, b, e1, hn, e2, ya, yb⟩ := y
   subst e1 e2
   exact hs i a b T σ _ (ya xs q1) (yb ys q2) hn p
 · have e : i = xs.length := by omega
   subst e
   exact .inl ⟨⟨xs, ys, q1, q2, .inl (Nat.le_refl _)⟩, hd σ H p⟩
theorem lc_range {lo : Int} {n : Nat} {cap : St} {tt : TT} {te : TE} {H : Hp} {P : List V → Hp → Prop} (Pv : Nat → List V → Hp → Prop) (h0 : Pv 0 [] H) (hn : n < sizeLine) (hb : ∀ i ys H, Pv i ys H → ys.length ≤ i)
   (hs : ∀ i ys H, i < n → Pv i ys H → tt (some (.int (lo + i)) :: cap) H fun b H3 => if b = true then te (some (.int (lo + i)) :: cap) H3 fun v H4 => Pv (i + 1) (ys ++ [v]) H4 else Pv (i + 1) ys H3) (hd : ∀ ys H, Pv n ys H → P ys H) :
   LcLoop (Itr lo n) cap tt te H P := by
 refine ⟨fun i m ys H => m = n - i ∧ i ≤ n ∧ Pv i ys H, ⟨n, by simp, Nat.zero_le _, h0⟩, ?_⟩
 rintro i m ys H ⟨rfl, hi, p⟩
 have hl := hb i ys H p
 by_cases hlt : i < n
 · refine .inr ⟨hlt, by omega, Pv (i + 1), fun σ' H' p' => ⟨n - (i + 1), by omega, rfl, hlt, p'⟩, fun x H' y => ?_⟩
   obtain ⟨e, y⟩ := y
   subst e y
   exact hs i ys _ hlt p
 · have e : i = n := by omega
   subst e
   exact .inl ⟨Nat.le_refl _, by omega, hd ys H p⟩
theorem lc_tup {K : W.Frag} {a : Addr} {xs : List V} {cap : St} {tt : TT} {te : TE} {H : Hp} {P : List V → Hp → Prop} (Pv : Nat → List V → Hp → Prop) (h0 : Pv 0 [] H) (hn : xs.length < sizeLine) (hb : ∀ i ys H, Pv i ys H → ys.length ≤ i) (hl : ∀ i ys H, i ≤ xs.length → Pv i ys H → SqT K H a xs)
   (hs : ∀ i x ys H, xs[i]? = some x → Pv i ys H → tt (some x :: cap) H fun b H3 => if b = true then te (some x :: cap) H3 fun v H4 => Pv (i + 1) (ys ++ [v]) H4 else Pv (i + 1) ys H3) (hd : ∀ ys H, Pv xs.length ys H → P ys H) :
   LcLoop (Itt K a) cap tt te H P := by
 refine ⟨fun i m ys H => m = xs.length - i ∧ i ≤ xs.length ∧ Pv i ys H, ⟨xs.length, by simp, Nat.zero_le _, h0⟩, ?_⟩
 rintro i m ys H ⟨rfl, hi, p⟩
 have hyl := hb i ys H p
 have q := hl i ys H hi p
 by_cases hlt : i < xs.length
 · refine .inr ⟨⟨xs, xs[i], q, by simp [hlt]⟩, by omega, Pv (i + 1), fun σ' H' p' => ⟨xs.length - (i + 1), by omega, rfl, hlt, p'⟩, fun x H' y => ?_⟩
   obtain ⟨e, y⟩ := y
   subst e
   exact hs i x ys _ (y xs q) p
 · have e : i = xs.length := by omega
   subst e
   exact .inl ⟨⟨xs, q, Nat.le_refl _⟩, by omega, hd ys H p⟩
section
variable (P : Program) (w : World) (K : W.Frag) (mg : Str → Option Value) (base : Heap) (k : Nat)
def FnB (x : Str) (ps : List Str) (sp : Sp) : Prop := ∃ f fd, FnOk P w K mg base CX0 k f fd ps sp ∧ mg x = some (.ref f) ∧ W.keepIn K (.ref f) = true ∧ Binds K fd ps []
def MeB (C : Addr) (m : Str) (ps : List Str) (sp : Sp) : Prop := ∃ f fd, FnOk P w K mg base CX0 k f fd ps sp ∧ Meth K C m f ∧ Binds K fd ps [] ∧ Cls K C
def MkB (x : Str) (C : Addr) (ps : List Str) (sp : Sp) : Prop := ∃ f fd, FnOk P w K mg base CX0 k f fd ps sp ∧ mg x = some (.ref C) ∧ Mk K C f ∧ Binds K fd ps []
end
section
variable {X : Cx} {k : Nat} {x m : Str} {C : Addr} {ps : List Str} {sp : Sp} {p pos apos : Pos} {e o : Expr} {es : List Expr} {ta : TE} {t : TA}
theorem eF (F : FnB X.prog X.w X.K X.mg X.base k x ps sp) (hr : Room k X.A) (ha : PA X (e :: es) t) (hg : Gl X x := by rfl) (hdb : (x == ("__debug__" : Str)) = false := by decide) (he : starEach (e :: es) X.env = (false, eval e X.env) :: starEach es X.env := by rfl) (hpl : (backTo pos (starEach es X.env)).any (·.1) = false := by rfl) :
   PE X (.Call (.Name x p) (e :: es) [] pos) (tCall sp [] E0 t) := by
 obtain ⟨f, fd, F, hm, hk, hb⟩ := F
 exact pe_call F hr hg hm hk hb .nil pass0 ha hdb he hpl
theorem pe_fn0 (F : FnB X.prog X.w X.K X.mg X.base k x ps sp) (hr : Room k X.A) (hg : Gl X x := by rfl) (hdb : (x == ("__debug__" : Str)) = false := by decide) : PE X (.Call (.Name x p) [] [] pos) (tCall sp [] E0 tNil) := by
 obtain ⟨f, fd, F, hm, hk, hb⟩ := F
 exact pe_call0 F hr hg hm hk hb .nil pass0 hdb
theorem pe_me {pl : Sem Bool} (M : MeB X.prog X.w X.K X.mg X.base k C m ps sp) (he : PE X o ta) (hr : Room k X.A) (ha : PA X (e :: es) t)
   (hst : starEach (e :: es) X.env = (false, eval e X.env) :: starEach es X.env := by rfl) (hpl : (backTo pos (starEach es X.env)).any (·.1) = false := by rfl)
   (ht : eval (.Call (.Attribute o m apos) (e :: es) [] pos) X.env = (do
     let ov ← eval o X.env
     standAt apos.atName
     let (f, first) ← holding [ov] (getMethod ov m pl)
     callWith pos f first (backTo pos (starEach (e :: es) X.env)) (backToKw pos (keywordEach [] X.env))) := by rfl) :
   PE X (.Call (.Attribute o m apos) (e :: es) [] pos) (tMeth C m sp [] E0 ta t) := by
 obtain ⟨f, fd, F, hm, hb, hc⟩ := M
 exact pe_meth he hc hm F hr hb .nil pass0 ha hst hpl ht
theorem pe_me0 {pl : Sem Bool} (M : MeB X.prog X.w X.K X.mg X.base k C m ps sp) (he : PE X o ta) (hr : Room k X.A)
   (ht : eval (.Call (.Attribute o m apos) [] [] pos) X.env = (do
     let ov ← eval o X.env
     standAt apos.atName
     let (f, first) ← holding [ov] (getMethod ov m pl)
     callWith pos f first (backTo pos (starEach [] X.env)) (backToKw pos (keywordEach [] X.env))) := by rfl) :
   PE X (.Call (.Attribute o m apos) [] [] pos) (tMeth C m sp [] E0 ta tNil) := by
 obtain ⟨f, fd, F, hm, hb, hc⟩ := M
 exact pe_meth0 he hc hm F hr hb .nil pass0 ht
theorem pe_mk (M : MkB X.prog X.w X.K X.mg X.base k x C ps sp) (hr : Room (k + 1) X.A) (ha : PA X (e :: es) t) (hg : Gl X x := by rfl) (hdb : (x == ("__debug__" : Str)) = false := by decide) (he : starEach (e :: es) X.env = (false, eval e X.env) :: starEach es X.env := by rfl) (hpl : (backTo pos (starEach es X.env)).any (·.1) = false := by rfl) :
   PE X (.Call (.Name x p) (e :: es) [] pos) (tMake C sp [] E0 t) := by
 obtain ⟨f, fd, F, hm, hM, hb⟩ := M
 exact pe_make hM F hr hg hm hb .nil pass0 ha hdb he hpl
end
theorem Room.u20 {k : Nat} {A : Around} (r : Room k A) : A.units + 20 < cLine := by have := r.un; omega
theorem Same.new {H : Hp} {a : Addr} {o : HO} (h : H a = none) : Same H (upd H a o) := fun b u e => by rw [uN (nN e h)]; exact e
theorem Same.lay {H H' : Hp} {a : Addr} {o : HO} (s : Same H H') (h : H' a = none) : Same H (upd H' a o) := s.trans (Same.new h)
theorem Same.put {H H' : Hp} {a : Addr} {o : HO} (s : Same H H') (h : H a = none) : Same H (upd H' a o) := fun b u e => by rw [uN (nN e h)]; exact s b u e
def rCatU : R2 := fun x y H Q => ∃ a b xs ys, x = .ref a ∧ y = .ref b ∧ H a = some (.tup xs) ∧ H b = some (.tup ys) ∧ xs.length + ys.length ≤ sizeLine ∧ ∀ p H', Same H H' → H' p = some (.tup (xs ++ ys)) → Q (.ref p) H'
theorem op_catU {X : Cx} : OpR X (binaryOp .Add) rCatU := by
 intro pins s σ H x y v u Q I rx ry h
 obtain ⟨a, b, xs, ys, rfl, rfl, ha, hb, hz, q⟩ := h
 by_cases hx : xs = []
 · subst hx
   cases rx
   cases ry
   obtain ⟨its, r1, p1, _⟩ := I.tuple (SqT.of (K := X.K) ha)
   obtain ⟨its2, r2, p2, _⟩ := I.tuple (SqT.of (K := X.K) hb)
   cases r1
   obtain ⟨⟨cls, dd, data, sl⟩, ho, hc, n, hd⟩ := id p1
   obtain ⟨⟨cls2, dd2, data2, sl2⟩, ho2, hc2, n2, hd2⟩ := id p2
   simp only at hc hd hc2 hd2
   subst hc hd hc2 hd2
   refine concat_meets ⟨_, ho, rfl⟩ ⟨_, ho2, rfl⟩ noFill_tuple_add seq_tuple_add PySem.F.slot_tuple_add PySem.F.entry_tuple_add (PySem.F.args_tuple_add_2 _ _)
     (tuple_addW0 a b _ _ n n2 dd dd2 sl sl2 (by simp)) ⟨ho, ho2, ⟨.ref b, H, I, rfl, q b H (Same.refl _) (by simpa using hb)⟩⟩
 · refine op_catT pins s σ H (.ref a) (.ref b) v u Q I rx ry ⟨a, b, xs, ys, rfl, rfl, SqT.of ha, SqT.of hb, hx, hz, fun e => ?_, fun e p hp => ?_⟩
   · subst e
     exact q a H (Same.refl _) (by simpa using ha)
   · exact q p _ (Same.new hp) uS
end L2
namespace L2
open PySem PySem.Spec PyProof.Rows
section
variable {X : Cx} {k : Nat} {x m : Str} {ps : List Str} {sp : Sp} {p pos apos : Pos} {e o : Expr} {es : List Expr} {ta : TE} {t : TA}
def tMethU (S : Addr → Prop) (m : Str) (sp : Sp) (ta : TE) (t : TA) : TE := fun σ H Q => ta σ H fun x H1 => ∃ C a dx fs, S C ∧ x = .ref a ∧ H1 a = some (.ins C dx fs) ∧ fs.lookup m = none ∧
 t σ H1 fun vs H2 => sp (x :: (vs ++ [])) H2 Q E0
theorem pe_meU {pl : Sem Bool} {S : Addr → Prop} (M : ∀ C, S C → MeB X.prog X.w X.K X.mg X.base k C m ps sp) (he : PE X o ta) (hr : Room k X.A) (ha : PA X (e :: es) t)
   (hst : starEach (e :: es) X.env = (false, eval e X.env) :: starEach es X.env := by rfl) (hpl : (backTo pos (starEach es X.env)).any (·.1) = false := by rfl)
   (ht : eval (.Call (.Attribute o m apos) (e :: es) [] pos) X.env = (do
     let ov ← eval o X.env
     standAt apos.atName
     let (f, first) ← holding [ov] (getMethod ov m pl)
     callWith pos f first (backTo pos (starEach (e :: es) X.env)) (backToKw pos (keywordEach [] X.env))) := by rfl) :
   PE X (.Call (.Attribute o m apos) (e :: es) [] pos) (tMethU S m sp ta t) := by
 intro pins s σ H Q I h
 refine W.methodCall_KW (pl := pl) (thn (he pins s σ H _ I h) fun u s1 ⟨x, H1, I1, rx, C, a, dx, fs, hS, ex, ea, l, q⟩ => ?_) ht
 subst ex
 obtain rfl : u = Value.ref a := rx
 obtain ⟨f, fd, F, hm, hb, c⟩ := M C hS
 refine getmeth_ok I1 ea c hm l ?_
 refine W.callWith_K (first := [.ref a]) (h₀ := X.base) I.ok.mod.kin hm.kp (thn (ha pos pins s1 σ H1 _ I1 q) fun us s2 ⟨vs, H2, I2, r, q2⟩ => ⟨I2.kIn, ?_⟩) hst hpl
 exact run_fn (us := .ref a :: us) (vs := .ref a :: vs) F hr hb .nil pass0 I2 (.cons rfl r) q2
end
theorem vals_strs : ∀ {ss : List Str} {us : List Value}, Vals (ss.map V.str) us → StrsAre us ss
 | [], us, r => by cases r; exact .nil
 | x :: ss, us, r => by
   cases r with
   | cons r rr =>
     obtain ⟨t, rfl⟩ := r
     exact .cons _ _ (vals_strs rr)
section
variable {X : Cx}
def rJoin (K : W.Frag) : V → List V → Hp → VK → Prop := fun x vs H Q => ∃ sep l ss, x = .str sep ∧ vs = [.ref l] ∧ SqL K H l (ss.map V.str) ∧ (ss.map (·.length)).sum + ss.length * sep.length ≤ 16777216 ∧ Q (.str (Txt.join sep ss)) H
theorem mt_join : MtR X "str.join" (rJoin X.K) := by
 intro pins s σ H x vs v us Q I rx rv h
 obtain ⟨sep, l, ss, rfl, rfl, hl, hz, q⟩ := h
 obtain ⟨t, rfl⟩ := rx
 obtain ⟨u, rfl, ru⟩ := rv.one
 cases ru
 obtain ⟨its, r, pl, _⟩ := I.list hl
 exact join_list pl.isList (by simpa using vals_strs r) hz fun t' k => ⟨.str _, H, I.tok k, ⟨t', rfl⟩, q⟩
open Builtin Builtin.Str in
end
theorem for_rangeN {n : Nat} {g : TG} {tb : TS} {D : Ends} {σ : St} {H : Hp} (Pv : Nat → St → Hp → Prop) (h0 : Pv 0 σ H)
   (hs : ∀ (i : Nat) σ H, i < n → Pv i σ H → g (.int (i : Int)) σ H fun σ2 H2 => tb { D with nx := Pv (i + 1), ct := Pv (i + 1), bk := D.nx } σ2 H2) (hd : ∀ σ H, Pv n σ H → D.nx σ H) :
   ∃ W : Nat → Nat → St → Hp → Prop, (∃ m, W 0 m σ H) ∧ ∀ i m σ H, W i m σ H →
     ((Itr 0 n).stop i H ∧ D.nx σ H) ∨ ((Itr 0 n).go i H ∧ ∃ N : St → Hp → Prop, (∀ σ' H', N σ' H' → ∃ m', m' < m ∧ W (i + 1) m' σ' H') ∧ ∀ x H', (Itr 0 n).yld i H x H' → g x σ H' fun σ2 H2 => tb { D with nx := N, ct := N, bk := D.nx } σ2 H2) :=
 for_range (lo := 0) (n := n) Pv h0 (fun i σ H hi p => by rw [Int.zero_add]; exact hs i σ H hi p) hd
theorem lc_rangeN {n : Nat} {cap : St} {tt : TT} {te : TE} {H : Hp} {P : List V → Hp → Prop} (Pv : Nat → List V → Hp → Prop) (h0 : Pv 0 [] H) (hn : n < sizeLine) (hb : ∀ i ys H, Pv i ys H → ys.length ≤ i)
   (hs : ∀ (i : Nat) ys H, i < n → Pv i ys H → tt (some (.int (i : Int)) :: cap) H fun b H3 => if b = true then te (some (.int (i : Int)) :: cap) H3 fun v H4 => Pv (i + 1) (ys ++ [v]) H4 else Pv (i + 1) ys H3) (hd : ∀ ys H, Pv n ys H → P ys H) :
   LcLoop (Itr 0 n) cap tt te H P := lc_range (lo := 0) (n := n) Pv h0 hn hb (fun i ys H hi p => by rw [Int.zero_add]; exact hs i ys H hi p) hd
theorem small2000 {n : Nat} (h : n ≤ 3000) : n < sizeLine := Nat.lt_of_le_of_lt h (by decide)
section
variable {X : Cx} {a e : Expr} {ta te : TE} {apos cpos : Pos}
theorem pe_append (ha : PE X a ta) (he : PE X e te) (hbase : attributeBase a "append" X.env (eval a X.env) = eval a X.env := by rfl)
   (hfew : ((backTo cpos (starEach [e] X.env)).all (fun x => !x.1) && (backToKw cpos (keywordEach [] X.env)).all (fun x => x.1.isSome)
     && decide (([e] : List Expr).length + ([] : List Keyword).length + (if ([] : List Keyword).isEmpty then 0 else 1) < 30)) = true := by rfl)
   (hline : (apos.endLine == cpos.line) = true := by rfl) (hs : starEach [e] X.env = (false, eval e X.env) :: starEach [] X.env := by rfl) (hplain : (backTo cpos (starEach [] X.env)).any (·.1) = false := by rfl) :
   PE X (.Call (.Attribute a "append" apos) [e] [] cpos) (tBM X.K "list" rAppend ta (tCons te tNil)) :=
 pe_bm PySem.F.plainAttrs_list PySem.F.slot_list_append PySem.F.type_list_append mt_append ha (pK he pN hs) hbase hfew hline hs hplain
theorem pe_extend (ha : PE X a ta) (he : PE X e te) (hbase : attributeBase a "extend" X.env (eval a X.env) = eval a X.env := by rfl)
   (hfew : ((backTo cpos (starEach [e] X.env)).all (fun x => !x.1) && (backToKw cpos (keywordEach [] X.env)).all (fun x => x.1.isSome)
     && decide (([e] : List Expr).length + ([] : List Keyword).length + (if ([] : List Keyword).isEmpty then 0 else 1) < 30)) = true := by rfl)
   (hline : (apos.endLine == cpos.line) = true := by rfl) (hs : starEach [e] X.env = (false, eval e X.env) :: starEach [] X.env := by rfl) (hplain : (backTo cpos (starEach [] X.env)).any (·.1) = false := by rfl) :
   PE X (.Call (.Attribute a "extend" apos) [e] [] cpos) (tBM X.K "list" rExtend ta (tCons te tNil)) :=
 pe_bm PySem.F.plainAttrs_list PySem.F.slot_list_extend PySem.F.type_list_extend mt_extend ha (pK he pN hs) hbase hfew hline hs hplain
theorem pe_join (ha : PE X a ta) (he : PE X e te) (hbase : attributeBase a "join" X.env (eval a X.env) = eval a X.env := by rfl)
   (hfew : ((backTo cpos (starEach [e] X.env)).all (fun x => !x.1) && (backToKw cpos (keywordEach [] X.env)).all (fun x => x.1.isSome)
     && decide (([e] : List Expr).length + ([] : List Keyword).length + (if ([] : List Keyword).isEmpty then 0 else 1) < 30)) = true := by rfl)
   (hline : (apos.endLine == cpos.line) = true := by rfl) (hs : starEach [e] X.env = (false, eval e X.env) :: starEach [] X.env := by rfl) (hplain : (backTo cpos (starEach [] X.env)).any (·.1) = false := by rfl) :
   PE X (.Call (.Attribute a "join" apos) [e] [] cpos) (tBM X.K "str" (rJoin X.K) ta (tCons te tNil)) :=
 pe_bm PySem.F.plainAttrs_str PySem.F.slot_str_join PySem.F.type_str_join mt_join ha (pK he pN hs) hbase hfew hline hs hplain
end
end L2
namespace L2
open PySem PySem.Spec PyProof.Rows
section
variable {X : Cx}
theorem call_rangeR : CallR X (.type "range") (fun xs H Q => ∃ j : Int, xs = [.int j] ∧ ∀ p, H p = none → Q (.ref p) (upd H p (.rng 0 j))) := by
 intro pins s σ H xs us Q I r h
 obtain ⟨j, rfl, q⟩ := h
 obtain ⟨u, rfl, t, rfl⟩ := vals1 r
 refine call_range_1 ⟨.ref s.heap.objs.size, _, I.laid (o := .rng 0 j) (fun b o e => Heap.get?_push_of_some _ e) (Nat.le_refl _) ⟨_, _, _, Heap.get?_push_size _ rfl⟩, rfl, q _ I.fresh⟩
theorem vals_items {F : Nat → Int} : ∀ (l : List Value) (n : Nat), l.length = n → (∀ i v, l[i]? = some v → ∃ t, v = Value.int (F i) t) → Vals ((List.range n).map fun k => V.int (F k)) l := by
 intro l n hl h
 have : ∀ (l : List Value) (k n : Nat), l.length = n → (∀ i v, l[i]? = some v → ∃ t, v = Value.int (F (k + i)) t) → Vals ((List.range' k n).map fun k => V.int (F k)) l := by
   intro l
   induction l with
   | nil => intro k n hl _; subst hl; exact .nil
   | cons a l ih =>
     intro k n hl h
     cases n with
     | zero => cases hl
     | succ n =>
       rw [List.range'_succ, List.map_cons]
       refine .cons ?_ (ih (k + 1) n (by simpa using hl) fun i v e => ?_)
       · exact h 0 a rfl
       · have := h (i + 1) v (by simpa using e)
         rw [Nat.add_assoc, Nat.add_comm 1 i]
         exact this
 rw [List.range_eq_range']
 exact this l 0 n hl fun i v e => by rw [Nat.zero_add]; exact h i v e
theorem call_list_rng (hc : X.calm = true) : CallR X (.type "list") (fun xs H Q => ∃ p hi, xs = [.ref p] ∧ H p = some (.rng 0 hi) ∧ -(2 ^ 62) ≤ hi ∧ hi ≤ 16777216 ∧ ∀ l, H l = none → Q (.ref l) (upd H l (.lst ((List.range hi.toNat).map fun (k : Nat) => V.int (k : Int))))) := by
 intro pins s σ H xs us Q I r h
 obtain ⟨p, hi, rfl, hp, h1, h2, q⟩ := h
 obtain ⟨u, rfl, ru⟩ := vals1 r
 cases ru
 obtain ⟨t, u, v, e⟩ := (show ObjOk X.prog X.w H s.heap p (.rng 0 hi) from I.hok p _ hp)
 have e2 : Builtin.Range.rangeSize 0 hi 1 = ((hi.toNat : Nat) : Int) := by rw [rangeSize_one]; split <;> omega
 refine call_list_range (I.ok.hd hc) e (small_one (by decide) (by decide) h1 (by omega)) e2 (by omega) fun h' tk acc' c' hk hS hacc => ?_
 refine ⟨.ref s.heap.objs.size, _, I.laid (t' := tk) (o := .lst ((List.range hi.toNat).map fun (k : Nat) => V.int (k : Int))) hk (Nat.le_refl _) ⟨?_, acc'.toList, c', ?_, ?_⟩, rfl, q _ I.fresh⟩
 · rw [List.length_map, List.length_range]; show _ ≤ 2 ^ 24; omega
 · refine vals_items (F := fun k => (k : Int)) acc'.toList _ (by simpa using hacc.1) fun i v e => ?_
   obtain ⟨t', rfl⟩ := hacc.2 i v (by simpa using e)
   exact ⟨t', by simp⟩
 · simpa using hS
end
end L2
namespace L2
open PySem PySem.Spec PyProof.Rows
section
variable {X : Cx}
end
section
variable {X : Cx} {K : W.Frag}
theorem ix_listK (K : W.Frag) (hK : X.K = K := by rfl) : IxR X (rIxL K) := by subst hK; exact ix_list
end
end L2
namespace L2
open PySem PySem.Spec PyProof.Rows
def Cx.catch (X : Cx) (E : Value → Shared → Prop) : Cx := { X with xe := E }
section
variable {X : Cx}
theorem Inv.catch {E : Value → Shared → Prop} {pins : List (Addr × Obj)} {σ : St} {H : Hp} {s : Shared} (I : Inv X pins σ H s) : Inv (X.catch E) pins σ H s :=
 ⟨⟨I.ok.mod, I.ok.kind, I.ok.glob, I.ok.blt, I.ok.above, I.ok.inj, I.ok.has, I.ok.cab, I.ok.hd, I.ok.frames, I.ok.stk, I.ok.exf, I.ok.bs, I.ok.bsz, I.ok.noex, I.ok.exfs, I.ok.funs, I.ok.frf⟩, I.os, I.bare, I.base, I.loc, I.cell, I.free, I.freeC, I.pin, I.hok, I.len⟩
theorem Inv.uncatch {E : Value → Shared → Prop} {pins : List (Addr × Obj)} {σ : St} {H : Hp} {s : Shared} (I : Inv (X.catch E) pins σ H s) : Inv X pins σ H s :=
 ⟨⟨I.ok.mod, I.ok.kind, I.ok.glob, I.ok.blt, I.ok.above, I.ok.inj, I.ok.has, I.ok.cab, I.ok.hd, I.ok.frames, I.ok.stk, I.ok.exf, I.ok.bs, I.ok.bsz, I.ok.noex, I.ok.exfs, I.ok.funs, I.ok.frf⟩, I.os, I.bare, I.base, I.loc, I.cell, I.free, I.freeC, I.pin, I.hok, I.len⟩
theorem SP.uncatch {E : Value → Shared → Prop} {pins : List (Addr × Obj)} {D : Ends} {f : Flow} {s : Shared} (h : SP (X.catch E) pins D f s) : SP X pins D f s := by
 cases f with
 | next => obtain ⟨σ, H, I, q⟩ := h; exact ⟨σ, H, I.uncatch, q⟩
 | brk => obtain ⟨σ, H, I, q⟩ := h; exact ⟨σ, H, I.uncatch, q⟩
 | cont => obtain ⟨σ, H, I, q⟩ := h; exact ⟨σ, H, I.uncatch, q⟩
 | ret u => obtain ⟨v, σ, H, I, r, q⟩ := h; exact ⟨v, σ, H, I.uncatch, r, q⟩
theorem ps_try {body : List Stmt} {h₀ : ExceptHandler} {hs : List ExceptHandler} {pos : Pos} {t : TS} (hb : ∀ E, PSs (X.catch E) body t) : PS X (.Try body (h₀ :: hs) [] [] pos) t := by
 intro pins s σ H D I h
 refine wpAny_Try_except (wpAny_mono (hb (fun e s₁ => wpAny (model X.prog X.w) X.A (noteFrame e X.env) (fun _ s₂ => wpAny (model X.prog X.w) X.A (setFlight e none) (fun _ s₃ => wpAny (model X.prog X.w) X.A (handleBy e X.env (h₀ :: hs)) (SP X pins D) X.xe s₃) X.xe s₂) X.xe s₁) pins s σ H D I.catch h) (fun f s1 q => ?_) fun _ _ e => e)
 have q' := SP.uncatch q
 cases f with
 | next => exact wpAny_execs_nil q'
 | brk => exact q'
 | cont => exact q'
 | ret u => exact q'
def rSum (K : W.Frag) : List V → Hp → VK → Prop := fun xs H Q => ∃ (l : Addr) (ns : List Int), xs = [.ref l] ∧ SqL K H l (ns.map V.int) ∧ Q (.int ns.sum) H
theorem call_sum (hc : X.calm = true) : CallR X (.builtin "sum") (rSum X.K) := by
 intro pins s σ H xs us Q I r h
 obtain ⟨l, ns, rfl, hl, q⟩ := h
 obtain ⟨u, rfl, ru⟩ := vals1 r
 cases ru
 obtain ⟨its, rv, pl, _⟩ := I.list hl
 have hi := intsAre_of rv
 obtain ⟨xs, hx⟩ := hi.allInts.items
 have hl' : s.heap.IsList l (intItems xs) := hx ▸ pl.isList
 refine sum_intListG (I.ok.hd hc) hl' fun h' tk t' hk => ?_
 have e1 : ns = xs.toList.map (·.1) := by
   rw [← nums_intItems, ← hx]
   exact (show numsOf its.toArray.toList = ns from hi.numsOf).symm
 have e2 : preSum (numAt xs) xs.size = ns.sum := by
   rw [preSum_eq, List.take_of_length_le (by simp), e1]
 rw [e2]
 exact ⟨.int _, H, I.kept (t' := tk) hk, ⟨t', rfl⟩, q⟩
theorem dedup_full : ∀ (ns acc : List Int), (acc ++ ns).Nodup → ns.foldl step_dedup acc = acc ++ ns
 | [], acc, _ => by simp
 | n :: ns, acc, h => by
   have hn : ¬ (acc.any (· == n) = true) := by
     intro e
     obtain ⟨x, hx, e2⟩ := List.any_eq_true.mp e
     have : x = n := by simpa using e2
     subst this
     have := (List.nodup_append.mp h).2.2 x hx x List.mem_cons_self
     exact this rfl
   rw [List.foldl_cons]
   have e : step_dedup acc n = acc ++ [n] := by unfold step_dedup; rw [if_neg hn]
   rw [e, dedup_full ns (acc ++ [n]) (by rw [List.append_assoc]; exact h), List.append_assoc]
   rfl
theorem firstMet_full {ns : List Int} (h : ns.Nodup) : (firstMet (fun i => ns.getD i 0) ns.length).length = ns.length := by
 unfold firstMet
 have e : (List.range ns.length).map (fun i => ns.getD i 0) = ns := by
   apply List.ext_getElem?
   intro i
   by_cases hi : i < ns.length
   · simp [hi]
   · simp [hi]
 rw [e, dedup_full ns [] (by simpa using h)]
 simp
def tLenSet (K : W.Frag) (te : TE) : TE := fun σ H Q => te σ H fun x H1 => ∃ (l : Addr) (ns : List Int), x = .ref l ∧ SqL K H1 l (ns.map V.int) ∧ ns.Nodup ∧ ns.length < 1000 ∧ Q (.int ns.length) H1
theorem pe_lenset {e : Expr} {te : TE} {p p' pos pos' : Pos} (hc : X.calm = true) (hg : Gl X "len") (hm : X.mg "len" = none) (hg' : Gl X "set") (hm' : X.mg "set" = none) (he : PE X e te)
   (hs : starEach [e] X.env = (false, eval e X.env) :: starEach [] X.env := by rfl)
   (hs2 : starEach [Expr.Call (.Name "set" p') [e] [] pos'] X.env = (false, eval (.Call (.Name "set" p') [e] [] pos') X.env) :: starEach [] X.env := by rfl)
   (hv : bootBuiltins "set" = some (.type "set") := by decide +kernel) :
   PE X (.Call (.Name "len" p) [.Call (.Name "set" p') [e] [] pos'] [] pos) (tLenSet X.K te) := by
 intro pins s σ H Q I h
 refine wpAny_Call_Name_kw (ld_blt I hg hm PySem.boot_len ?_)
 refine PyProof.Rows.callWith_builtin1 ?_ hs2
 rw [hs2]
 show wpAny _ _ (spliced ((false, eval (.Call (.Name "set" p') [e] [] pos') X.env) :: backTo pos (starEach [] X.env))) _ _ s
 refine Calls.spliced_cons (wpAny_Call_Name_kw (ld_blt I hg' hm' hv ?_))
 refine PyProof.Rows.callWith_type1 ?_ hs
 rw [hs]
 show wpAny _ _ (spliced ((false, eval e X.env) :: backTo pos' (starEach [] X.env))) _ _ s
 refine Calls.spliced_cons (thn (he pins s σ H _ I h) fun u s1 ⟨x, H1, I1, r1, l, ns, e1, hl, hnd, hlt, q⟩ => Calls.spliced_nil ?_)
 subst e1
 cases r1
 obtain ⟨its, rv, pl, _⟩ := I1.list hl
 have hi := intsAre_of rv
 have hlen := rv.length
 rw [List.length_map] at hlen
 refine PySem.call_set_list (items := its.toArray) (ns := ns) (I1.ok.hd hc) pl.isList (by simpa using hi) (by rw [List.size_toArray]; unfold scanBound; omega) fun h' tk hS hk => ?_
 have I2 : Inv X pins σ H1 { s1 with heap := h', toks := tk } := I1.kept (t' := tk) fun b o e => hk b o (Heap.lt_size e) e
 have hsz : its.toArray.size = ns.length := by rw [List.size_toArray, hlen]
 rw [hsz, firstMet_full hnd] at hS
 obtain ⟨o, es, ep, t, ho, hex, hd, _, _, _, hf, hn⟩ := hS
 refine Calls.spliced_nil ?_
 refine call_len_set ho hex hd hf (by omega) ?_
 rw [hn]
 exact ⟨.int _, H1, I2.tok _, ⟨_, rfl⟩, q⟩
end
end L2
namespace L2
open PySem PySem.Spec PyProof.Rows
section
variable {X : Cx} {st : Stmt} {rest : List Stmt} {t u : TS}
end
end L2
namespace L2
open PySem PySem.Spec PyProof.Rows
section
variable {prog : Program} {w : World} {A : Around} {E : Value → Shared → Prop} {s : Shared} {d it : Addr} {od : Obj} {es : Array DictEntry} {ep i : Nat}
theorem es_iter {Q : Value → Shared → Prop} (nd : (d == sysModules) = false) (hg : s.heap.get? d = some od) (hx : od.ExactDict) (ht : od.data = .dict es ep)
   (q : Q (.ref s.heap.objs.size) { s with heap := s.heap.push { cls := .type "dict_keyiterator", data := .fields #[.ref d, .int 0 0, .int es.size 0, .int ep 0] } }) : wpAny (model prog w) A (pyIter (.ref d)) Q E s := by
 have ty : s.TypeIs (.ref d) "dict" := ⟨od, hg, hx.1⟩
 refine wpAny_pyIter_slot ty F.slot_dict_iter (wpAny_call_entry F.slot_dict_iter ty F.entry_dict_iter ?_ (F.args_dict_iter_1 _))
 unfold Builtin.«dict.__iter__»
 unfold Builtin.Dict.dictSlotNone
 refine wpAny_bind (wpAny_bind (wpAny_notOrdered_dict ty (wpAny_pure ?_)))
 refine (show wpAny _ _ (Builtin.Dict.showsAll d >>= _) _ _ s from ?_)
 unfold Builtin.Dict.showsAll
 rw [if_neg (by rw [nd]; exact Bool.false_ne_true)]
 refine wpAny_bind (wpAny_pure (wpAny_bind (wpAny_dictEntries hg ht (wpAny_bind (wpAny_dictEpoch hg ht ?_)))))
 refine wpAny_bind (wpAny_newObj_type (wpAny_pure ⟨_, rfl, "dict_keyiterator", _, ⟨_, Heap.get?_push_size _ rfl, rfl⟩, F.slot_dict_keyiterator_next.lookup, ?_⟩))
 simpa [rawInt] using q
theorem es_item {Q : Option Value → Shared → Prop} (st : s.heap.IsKeyIter it d i es.size ep) (hg : s.heap.get? d = some od) (ht : od.data = .dict es ep) (lt : i < es.size)
   (q : ∀ h', h'.IsKeyIter it d (i + 1) es.size ep → Heap.SameBut it s.heap h' → Q (some es[i].key) { s with heap := h' }) : wpAny (model prog w) A (pyNext (.ref it)) Q E s := by
 obtain ⟨o, ho, hc, hf⟩ := id st
 have ty := st.typeIs
 unfold pyNext
 refine wpAny_bind (wpAny_attempt (wpAny_callSpecial?_slot (name := Str.ofString "__next__") ty F.slot_dict_keyiterator_next (wpAny_call_entry F.slot_dict_keyiterator_next ty F.entry_dict_keyiterator_next ?_ (F.args_dict_keyiterator_next_1 _))))
 refine wpAny_bind (wpAny_pure (wpAny_bind (wpAny_bind ?_)))
 first | refine wpAny_bind (wpAny_typeNameOfWhole_keyiter ty (wpAny_pure (wpAny_bind (wpAny_fieldsOf ho hf ?_)))) | refine wpAny_bind (wpAny_typeNameOf_keyiter ty (wpAny_pure (wpAny_bind (wpAny_fieldsOf ho hf ?_))))
 simp only [show Builtin.Dict_items.ownsTuple "dict_keyiterator" = false by decide, Bool.false_eq_true, if_false]
 show wpAny _ _ (if (Value.ref d == Value.none) = true then _ else _) _ _ s
 rw [if_neg (show ¬ ((Value.ref d == Value.none) = true) from Bool.false_ne_true)]
 refine wpAny_bind (wpAny_pure (wpAny_bind (wpAny_dictEntries hg ht ?_)))
 rw [if_neg (by simp)]
 refine wpAny_bind (wpAny_pure (wpAny_bind (wpAny_dictEpoch hg ht ?_)))
 rw [if_neg (by simp)]
 refine wpAny_pure ?_
 simp only [show ¬ ((i : Int) < 0) from by omega, if_false, Int.toNat_natCast, Array.getElem?_eq_getElem lt]
 refine wpAny_bind ?_
 first | refine wpAny_bind (wpAny_typeNameOfWhole_keyiter ty (wpAny_pure (wpAny_bind (wpAny_isOneOf_keyiter ty ?_)))) | refine wpAny_bind (wpAny_typeNameOf_keyiter ty (wpAny_pure (wpAny_bind (wpAny_isOneOf_keyiter ty ?_))))
 show wpAny _ _ (setField (.ref it) 1 (rawInt ((i : Int) + 1)) >>= _) _ _ s
 refine wpAny_bind (wpAny_setField ho hf (by simp) ?_)
 have st' : (s.heap.update it (Obj.mapFields (·.setIfInBounds 1 (rawInt ((i : Int) + 1))))).IsKeyIter it d (i + 1) es.size ep :=
   ⟨_, Heap.get?_update_self _ ho (Obj.isFreed_of_fields (Obj.data_mapFields hf _)), (Obj.cls_mapFields ..).trans hc, by rw [Obj.data_mapFields hf]; simp [rawInt]⟩
 refine wpAny_bind (wpAny_holding (wpAny_bind (wpAny_isOneOf_keyiter (s := { s with heap := s.heap.update it (Obj.mapFields (·.setIfInBounds 1 (rawInt ((i : Int) + 1)))) }) st'.typeIs ?_)))
 show wpAny _ _ (pure es[i].key) _ _ _
 exact wpAny_pure (wpAny_pure ⟨_, rfl, wpAny_pure (q _ st' (Heap.SameBut.update ..))⟩)
theorem es_end {Q : Option Value → Shared → Prop} (hh : A.handled = none) (st : s.heap.IsKeyIter it d i es.size ep) (hg : s.heap.get? d = some od) (ht : od.data = .dict es ep) (ge : es.size ≤ i)
   (q : ∀ h', Heap.ExtBut it s.heap h' → Q none { s with heap := h' }) : wpAny (model prog w) A (pyNext (.ref it)) Q E s := by
 obtain ⟨o, ho, hc, hf⟩ := id st
 have ty := st.typeIs
 unfold pyNext
 refine wpAny_bind (wpAny_attempt (wpAny_callSpecial?_slot (name := Str.ofString "__next__") ty F.slot_dict_keyiterator_next (wpAny_call_entry F.slot_dict_keyiterator_next ty F.entry_dict_keyiterator_next ?_ (F.args_dict_keyiterator_next_1 _))))
 refine wpAny_bind (wpAny_pure (wpAny_bind (wpAny_bind ?_)))
 first | refine wpAny_bind (wpAny_typeNameOfWhole_keyiter ty (wpAny_pure (wpAny_bind (wpAny_fieldsOf ho hf ?_)))) | refine wpAny_bind (wpAny_typeNameOf_keyiter ty (wpAny_pure (wpAny_bind (wpAny_fieldsOf ho hf ?_))))
 simp only [show Builtin.Dict_items.ownsTuple "dict_keyiterator" = false by decide, Bool.false_eq_true, if_false]
 show wpAny _ _ (if (Value.ref d == Value.none) = true then _ else _) _ _ s
 rw [if_neg (show ¬ ((Value.ref d == Value.none) = true) from Bool.false_ne_true)]
 refine wpAny_bind (wpAny_pure (wpAny_bind (wpAny_dictEntries hg ht ?_)))
 rw [if_neg (by simp)]
 refine wpAny_bind (wpAny_pure (wpAny_bind (wpAny_dictEpoch hg ht ?_)))
 rw [if_neg (by simp)]
 refine wpAny_pure ?_
 simp only [show ¬ ((i : Int) < 0) from by omega, if_false, Int.toNat_natCast, Array.getElem?_eq_none ge]
 refine wpAny_bind ?_
 first | refine wpAny_bind (wpAny_typeNameOfWhole_keyiter ty (wpAny_pure ?_)) | refine wpAny_bind (wpAny_typeNameOf_keyiter ty (wpAny_pure ?_))
 show wpAny _ _ (setField (.ref it) 0 .none >>= _) _ _ s
 refine wpAny_bind (wpAny_setField ho hf (by simp) ?_)
 show wpAny _ _ (newExc (.type "StopIteration") [] >>= _) _ _ _
 refine wpAny_bind ?_
 simp only [newExc, newTuple]
 refine wpAny_bind (wpAny_newObj_type ?_ (by size_fits))
 refine wpAny_bind (m := firstArgMember _ _) (wpAny_of_eq (a := Value.none) (by first | rfl | (simp only [firstArgMember]; rfl)) (wpAny_newObj_type ?_ (by size_fits)))
 simp only [raiseNew]
 refine wpAny_bind (wpAny_handled ?_)
 rw [show A.in1.handled = none from hh]
 refine wpAny_bind (wpAny_pure (wpAny_throw ?_))
 refine wpAny_bind (wpAny_isInstance (b := true) (T := "StopIteration") ⟨_, Heap.get?_push_size _ rfl, rfl⟩ isSubtype_stop ?_)
 exact wpAny_pure (q _ (((Heap.SameBut.update ..).extBut.push _).push _))
end
def Itd (a : Addr) (kvs : List (List Key × V)) (o : Obj) : It :=
 ⟨fun i H => H a = some (.frz o (.dT kvs)) ∧ i < kvs.length, fun i H x H' => H' = H ∧ ∃ b k v, x = .ref b ∧ kvs[i]? = some (k, v) ∧ H b = some (.tup (k.map kV)), fun i H => H a = some (.frz o (.dT kvs)) ∧ kvs.length ≤ i⟩
theorem KT.at {H : Hp} {kvs : List (List Key × V)} {xs : List (List Key × Addr × Value)} (r : KT H kvs xs) {i : Nat} {p : List Key × V} (e : kvs[i]? = some p) : ∃ q, xs[i]? = some q ∧ p.1 = q.1 ∧ H q.2.1 = some (.tup (p.1.map kV)) ∧ RelV p.2 q.2.2 := by
 induction r generalizing i with
 | nil => simp at e
 | cons h _ ih =>
   cases i with
   | zero => simp at e; subst e; exact ⟨_, rfl, h⟩
   | succ i => simpa using ih (by simpa using e)
theorem turn_dt {P : Program} {w : World} {K : W.Frag} {tg : Expr} (a it : Addr) (kvs : List (List Key × V)) (o : Obj) :
   Turn P w K tg (Itd a kvs o) [it] it (fun i h => ∃ es ep, o.data = .dict es ep ∧ h.IsKeyIter it a i es.size ep) where
 mem := by simp
 obj := fun i h st b hb => by
   have e : b = it := by simpa using hb
   subst e
   obtain ⟨_, _, _, o, e, c, d⟩ := st
   exact ⟨o, e, fun v z => by rw [d] at z; cases z⟩
 keep := fun i h h' ⟨es, ep, e, st⟩ k => ⟨es, ep, e, st.at fun o e => k it (by simp) o e⟩
 item := by
   intro X hP hw hK hc i pins s σ H E I hf st hg
   subst hP hw hK
   obtain ⟨ha, hi⟩ := hg
   obtain ⟨es, ep, ed, st⟩ := st
   obtain ⟨ho, _, _, xs, r, o', es', ep', h1, h2, h3, h4, _⟩ := (show ObjOk X.prog X.w H s.heap a (.frz o (.dT kvs)) from I.hok a _ ha)
   rw [ho] at h1; cases h1
   rw [ed] at h3; cases h3
   obtain ⟨f0, f1, f2, f3, f4, f5⟩ := hf it (by simp)
   have hk : kvs[i]? = some kvs[i] := by simp [hi]
   obtain ⟨q, q1, q2, q3, q4⟩ := KT.at r hk
   have he : es.toList[i]? = some (entryOfKey (tupleKind (mixKind X.prog X.w)) q) := by rw [h4, List.getElem?_map, q1]; rfl
   obtain ⟨hl, he'⟩ := List.getElem?_eq_some_iff.mp he
   have lt : i < es.size := by simpa using hl
   refine es_item st ho ed lt fun h' st' sb => ?_
   have ek : es[i].key = .ref q.2.1 := by
     have : es[i] = entryOfKey (tupleKind (mixKind X.prog X.w)) q := by rw [← he']; simp
     rw [this]; rfl
   rw [ek]
   have I1 : Inv X pins σ H { s with heap := h' } := I.turned (t' := s.toks) (fun b o hb e => (sb.2 b hb).trans e) f0 f1 f3 f4 f5
   obtain ⟨oi, e, c, d⟩ := id st'
   exact ⟨_, rfl, go_of (s := { s with heap := h' }) e c d (by decide) ⟨.ref q.2.1, H, I1, rfl, ⟨rfl, q.2.1, kvs[i].1, kvs[i].2, rfl, hk, q3⟩, ⟨es, ep, ed, st'⟩, fun b hb => (hf b hb).1⟩⟩
 done := by
   intro X hP hw hK hc i pins s σ H E I hf st hg
   subst hP hw hK
   obtain ⟨ha, hi⟩ := hg
   obtain ⟨es, ep, ed, st⟩ := st
   obtain ⟨ho, _, _, xs, r, o', es', ep', h1, h2, h3, h4, _⟩ := (show ObjOk X.prog X.w H s.heap a (.frz o (.dT kvs)) from I.hok a _ ha)
   rw [ho] at h1; cases h1
   rw [ed] at h3; cases h3
   obtain ⟨f0, f1, f2, f3, f4, f5⟩ := hf it (by simp)
   have hl : es.size = kvs.length := by
     have e1 : es.toList.length = xs.length := by rw [h4]; simp
     have e2 := Paired.length r
     simp at e1; omega
   exact es_end (I.ok.hd hc) st ho ed (by omega) fun h' eb => ⟨rfl, I.turned (t' := s.toks) (fun b o hb e => eb b o hb e) f0 f1 f3 f4 f5⟩
 self := fun _ _ _ _ _ ⟨_, _, _, st⟩ h => wpAny_pyIter_keyiter st h
section
variable {X : Cx} {tg : Expr}
theorem Inv.fastT {pins : List (Addr × Obj)} {σ : St} {H : Hp} {s : Shared} {a : Addr} {kvs : List (List Key × V)} (I : Inv X pins σ H s) (e : H a = some (.dT kvs)) : ∃ o, s.heap.get? a = some o ∧ Inv X pins σ (upd H a (.frz o (.dT kvs))) s := by
 obtain ⟨z, y, xs, r, o, es, ep, h1, h2, h3⟩ := (show ObjOk X.prog X.w H s.heap a (.dT kvs) from I.hok a _ e)
 refine ⟨o, h1, ?_⟩
 refine I.write (x := a) (e := a) (h' := s.heap) (t' := s.toks) (by rw [e]; trivial) (.inl rfl) (fun b u _ q => q) ⟨o, h1⟩ ⟨h1, z, y, xs, Paired.mapP r fun p q t => ⟨t.1, ?_, t.2.2⟩, o, es, ep, h1, h2, h3⟩
 rw [uN (ne_of t.2.1 e (by intro h; cases h))]
 exact t.2.1
def iDt (td : TE) : TI := fun σ H R => td σ H fun x H1 => ∃ a kvs, x = .ref a ∧ ((H1 a = some (.dT kvs) ∧ ∀ o, R (Itd a kvs o) (upd H1 a (.frz o (.dT kvs)))) ∨ ∃ o, H1 a = some (.frz o (.dT kvs)) ∧ R (Itd a kvs o) H1)
theorem pi_dt {l : Expr} {td : TE} (hl : PE X l td) : PI X tg l (iDt td) := by
 intro pins s σ H R I h
 refine thn (hl pins s σ H _ I h) fun v s1 ⟨x, H1, I1, r1, q1⟩ => ?_
 obtain ⟨a, kvs, e, q⟩ := q1
 subst e
 cases r1
 have core : ∀ (o : Obj) (H2 : Hp), Inv X pins σ H2 s1 → H2 a = some (.frz o (.dT kvs)) → R (Itd a kvs o) H2 → wpAny (model X.prog X.w) X.A (pyIter (.ref a)) (PIE X pins σ tg R) X.xe s1 := by
   intro o H2 I2 ha q
   obtain ⟨ho, _, y, xs, r, o', es, ep, h1, h2, h3, h4, _⟩ := (show ObjOk X.prog X.w H2 s1.heap a (.frz o (.dT kvs)) from I2.hok a _ ha)
   rw [ho] at h1; cases h1
   refine es_iter y ho h2 h3 ?_
   refine ⟨s1.heap.objs.size, [s1.heap.objs.size], _, _, H2, rfl, I2.kept (t' := s1.toks) fun b o e => Heap.get?_push_of_some _ e, turn_dt a _ kvs o, ⟨es, ep, h3, _, Heap.get?_push_size _ rfl, rfl, rfl⟩, fun b hb => ?_, q⟩
   have e : b = s1.heap.objs.size := by simpa using hb
   subst e
   exact I2.fpOk (Nat.le_refl _) (I2.hok.fresh (Nat.le_refl _))
 rcases q with ⟨ha, q⟩ | ⟨o, ha, q⟩
 · obtain ⟨o, ho, I2⟩ := I1.fastT ha
   exact core o _ I2 uS (q o)
 · exact core o H1 I1 ha q
theorem for_dt {a : Addr} {kvs : List (List Key × V)} {o : Obj} {g : TG} {tb : TS} {D : Ends} {σ : St} {H : Hp} (Pv : Nat → St → Hp → Prop) (h0 : Pv 0 σ H) (hl : ∀ i σ H, i ≤ kvs.length → Pv i σ H → H a = some (.frz o (.dT kvs)))
   (hs : ∀ i k v b σ H, kvs[i]? = some (k, v) → H b = some (.tup (k.map kV)) → Pv i σ H → g (.ref b) σ H fun σ2 H2 => tb { D with nx := Pv (i + 1), ct := Pv (i + 1), bk := D.nx } σ2 H2) (hd : ∀ σ H, Pv kvs.length σ H → D.nx σ H) :
   ∃ W : Nat → Nat → St → Hp → Prop, (∃ m, W 0 m σ H) ∧ ∀ i m σ H, W i m σ H →
     ((Itd a kvs o).stop i H ∧ D.nx σ H) ∨ ((Itd a kvs o).go i H ∧ ∃ N : St → Hp → Prop, (∀ σ' H', N σ' H' → ∃ m', m' < m ∧ W (i + 1) m' σ' H') ∧ ∀ x H', (Itd a kvs o).yld i H x H' → g x σ H' fun σ2 H2 => tb { D with nx := N, ct := N, bk := D.nx } σ2 H2) := by
 refine ⟨fun i m σ H => m = kvs.length - i ∧ i ≤ kvs.length ∧ Pv i σ H, ⟨kvs.length, by simp, Nat.zero_le _, h0⟩, ?_⟩
 rintro i m σ H ⟨rfl, hi, p⟩
 have q := hl i σ H hi p
 by_cases lt : i < kvs.length
 · refine .inr ⟨⟨q, lt⟩, Pv (i + 1), fun σ' H' p' => ⟨kvs.length - (i + 1), by omega, rfl, lt, p'⟩, fun x H' y => ?_⟩
   obtain ⟨rfl, b, k, v, rfl, e, hb⟩ := y
   exact hs i k v b σ _ e hb p
 · have e : i = kvs.length := by omega
   subst e
   exact .inl ⟨⟨q, Nat.le_refl _⟩, hd σ H p⟩
end
section
variable {X : Cx} {k v : Expr} {tk tv : TE} {pos : Pos}
def tDisp1T (tk tv : TE) : TE := fun σ H Q => ∀ p, H p = none → tk σ (upd H p (.dT [])) fun x H1 => tv σ H1 fun y H2 => ∃ ks b, x = .ref b ∧ H2 b = some (.tup (ks.map kV)) ∧ H2 p = some (.dT []) ∧ Q (.ref p) (upd H2 p (.dT [(ks, y)]))
theorem pe_disp1T (hu : X.A.units < cLine) (hk : PE X k tk) (hv : PE X v tv) : PE X (.Dict [some k] [v] pos) (tDisp1T tk tv) := by
 intro pins s σ H Q I q
 have hn := I.hok.fresh (Nat.le_refl s.heap.objs.size)
 have I1 := I.laid (a := s.heap.objs.size) (o := .dT []) (t' := s.toks) (fun _ _ q => Heap.get?_push_of_some _ q) (Nat.le_refl _) (dt_empty s.heap I.big)
 refine wpAny_Dict_any rfl rfl (by simp) (by simp) (pairTrees_cons_walk (thn (hk pins _ σ _ _ I1 (q _ hn)) fun u s1 ⟨x, H1, I1, rx, q1⟩ => thn (hv pins s1 σ H1 _ I1 q1) fun u2 s2 ⟨y, H2, I2, ry, q2⟩ => pairTrees_nil_walk ?_))
 obtain ⟨ks, b, rfl, eb, ep, q3⟩ := q2
 cases (show u = Value.ref b from rx)
 obtain ⟨z, hd, xs, rel, dd⟩ := dt_of I2.hok ep
 cases rel
 unfold storeAll
 rw [List.forIn_cons]
 refine wpAny_bind (wpAny_bind (wpAny_dictSet_heap (v := u2) (by exact hu) (key_of I2.hok eb) dd fun h' dd' hs => wpAny_pure ?_))
 dsimp only
 rw [List.forIn_nil]
 refine wpAny_pure ⟨.ref s.heap.objs.size, _, ?_, rfl, q3⟩
 obtain ⟨o, es, e2, hq, h2, h3, h4, _, h5⟩ := dd'
 refine d_write I2 (by rw [ep]; exact True.intro) hs ⟨o, hq⟩ ⟨by rw [sizeLine_eq]; simp, hd, _, .cons ⟨rfl, ?_, ry⟩ .nil, o, es, e2, hq, h2, h3, h4, h5⟩
 rw [uN (ne_of eb ep (fun z => nomatch z))]
 exact eb
end
section
variable {P : Program} {w : World} {A : Around} {I d : Addr} {od : Obj} {es : Array DictEntry} {ep : Nat}
theorem walks_es (hh : A.handled = none) (hne : d ≠ I) (ht : od.data = .dict es ep) :
   Walks P w A I [I, d] [I] es.size (fun i v => ∃ h : i < es.size, v = es[i].key) (fun i h => h.IsKeyIter I d i es.size ep ∧ h.get? d = some od) where
 sub := fun b hb => by simp at hb; simp [hb]
 frame := fun _ _ _ st hk => ⟨st.1.at fun o e => hk I (by simp) o e, hk d (by simp) od st.2⟩
 item := fun i s Q E hi st hQ => es_item st.1 st.2 ht hi fun h' st' sb => hQ _ h' s.toks ⟨hi, rfl⟩ ⟨st', (sb.2 d hne).trans st.2⟩ fun b o hb e => (sb.2 b fun z => hb (by simp [z])).trans e
 done := fun s Q E st hQ => es_end hh st.1 st.2 ht (Nat.le_refl _) fun h' he => hQ h' s.toks fun b o hb e => he b o (fun z => hb (by simp [z])) e
 self := fun _ _ _ _ st hQ => wpAny_pyIter_keyiter st.1 hQ
theorem src_es (nd : (d == sysModules) = false) (hx : od.ExactDict) (ht : od.data = .dict es ep) : W.KdlSrc P w "dict" d d es.size (fun i v => ∃ h : i < es.size, v = es[i].key) (fun h => h.get? d = some od) where
 type := fun s hm => ⟨od, hm, hx.1⟩
 there := fun h hm => ⟨Heap.lt_size hm, Heap.lt_size hm⟩
 keep := fun h h' hm hk => hk d (.inl rfl) od hm
 notList := by decide
 notTuple := by decide
 hint := fun _ _ s _ hm hq => W.kdl_hint_dict (⟨od, hm, hx.1⟩ : s.TypeIs (.ref d) "dict") hq
 iter := fun A s hh hm => ⟨_, _, (fun E Q q => es_iter nd hm hx ht q), walks_es hh (Nat.ne_of_lt (Heap.lt_size hm)) ht, ⟨⟨_, Heap.get?_push_size _ rfl, rfl, rfl⟩, Heap.get?_push_of_some _ hm⟩⟩
end
section
variable {X : Cx}
theorem vals_refs : ∀ (xs : List (List Key × Addr × Value)), Vals (xs.map fun q => V.ref q.2.1) (xs.map fun q => Value.ref q.2.1)
 | [] => .nil
 | _ :: xs => .cons rfl (vals_refs xs)
end
section
variable {P : Program} {w : World} {H : Hp} {h h' : Heap} {a : Addr} {o : HO}
theorem ObjOk.there : ∀ {o : HO}, ObjOk P w H h a o → ∃ ob, h.get? a = some ob
 | .lst _, ⟨_, _, _, _, e⟩ => ⟨_, e⟩
 | .tup _, ⟨_, _, _, _, e, _⟩ => ⟨_, e⟩
 | .dK _, ⟨_, _, _, _, _, _, _, e, _⟩ => ⟨_, e⟩
 | .dT _, ⟨_, _, _, _, _, _, _, e, _⟩ => ⟨_, e⟩
 | .set _ _, ⟨_, _, _, _, e, _⟩ => ⟨_, e⟩
 | .ins _ _ _, ⟨_, _, _, e, _⟩ => ⟨_, e⟩
 | .own _, ⟨_, e⟩ => ⟨_, e⟩
 | .xd _, ⟨_, ⟨_, _, _, e, _⟩, _⟩ => ⟨_, e⟩
 | .rng _ _, ⟨_, _, _, e⟩ => ⟨_, e⟩
 | .frz _ _, ⟨e, _⟩ => ⟨_, e⟩
 | .tbl _, e => ⟨_, e⟩
 | .met _ _, e => ⟨_, e⟩
 | .ext _, ⟨_, e, _⟩ => e
theorem HOk.noneAt (x : HOk P w H h) (na : h.get? a = none) : H a = none := by
 cases q : H a with
 | none => rfl
 | some u => obtain ⟨_, e⟩ := (x a u q).there; rw [na] at e; cases e
theorem HOk.laidAt (x : HOk P w H h) (k : ∀ b u, h.get? b = some u → h'.get? b = some u) (na : h.get? a = none) (new : ObjOk P w (upd H a o) h' a o) : HOk P w (upd H a o) h' := fun b u e => by
 have hn := x.noneAt na
 by_cases hb : b = a
 · subst hb
   rw [uS] at e
   cases e
   exact new
 · rw [uN hb] at e
   exact (x b u e).stay (fun c v _ q => k c v q) (fun c q => by rw [uN (nN q hn), q]) fun c xs q => by rw [uN (nN q hn), q]
theorem Un.laidAt {fs ex : List Addr} (k : ∀ b u, h.get? b = some u → h'.get? b = some u) (na : h.get? a = none) (hn : H a = none) : Un fs ex H (upd H a o) h h' :=
 ⟨fun b u q _ _ _ => k b u q, fun b u q _ _ _ => ⟨u.slots, k b u q⟩, fun b u q n _ => by rw [uN (fun z => by subst z; rw [na] at q; cases q)]; exact n, fun b u q _ => ⟨u, k b u q⟩,
   fun b xs q => by rw [uN (nN q hn), q], fun b u xs q => by rw [uN (nN q hn), q], fun b ps q => ⟨#[], by rw [uN (nN q hn), q]; simp⟩⟩
end
theorem Inv.laidAt {X : Cx} {pins : List (Addr × Obj)} {σ : St} {H : Hp} {s : Shared} {h' : Heap} {a : Addr} {o : HO} {t' : Nat} (I : Inv X pins σ H s) (k : ∀ b u, s.heap.get? b = some u → h'.get? b = some u) (na : s.heap.get? a = none)
   (new : ObjOk X.prog X.w (upd H a o) h' a o) : Inv X pins σ (upd H a o) { s with heap := h', toks := t' } := I.un (Un.laidAt k na (I.hok.noneAt na)) (I.hok.laidAt k na new)
section
variable {X : Cx}
end
end L2
namespace L2
open PySem PySem.Spec PyProof.Rows
section
variable {prog : Program} {w : World} {A : Around} {E : Value → Shared → Prop} {s : Shared} {T : String} {it S : Addr} {fp : List Addr} {n : Nat} {P : Nat → Value → Prop} {St : Nat → Heap → Prop}
end
section
variable {X : Cx}
end
end L2
namespace L2
open PySem PySem.Spec PyProof.Rows
section
variable {X : Cx}
inductive I_maxL (K : W.Frag) (xs : List V) (H : Hp) (Q : VK) : Prop where
 | mk (a : Addr) (ns : List Int) (h0 : xs = [.ref a]) (h1 : SqL K H a (ns.map V.int)) (h2 : 0 < ns.length) (h3 : ∀ M, M ∈ ns → (∀ x ∈ ns, x ≤ M) → Q (.int M) H) : I_maxL K xs H Q
inductive I_rngL (Q : VK) (vs : List V) (H : Hp) : Prop where
 | mk (i j k : Int) (n : Nat) (h0 : vs = [.int i, .int j, .int k]) (h1 : k ≠ 0) (h2 : Builtin.Range.small i j k = true) (h3 : Builtin.Range.rangeSize i j k = n) (h4 : n ≤ 2 ^ 24) (h5 : Builtin.divisionGoesByPylong (j - i) k = false)
   (h6 : ∀ l, H l = none → Q (.ref l) (upd H l (.lst ((List.range n).map fun (m : Nat) => V.int (i + m * k))))) : I_rngL Q vs H
end
end L2
namespace L2
open PySem PySem.Spec PyProof.Rows
section
variable {prog : Program} {w : World} {A : Around} {E : Value → Shared → Prop} {s : Shared} {d it S : Addr} {od : Obj} {es : Array DictEntry} {ep i : Nat}
end
section
variable {P : Program} {w : World} {H nw : Hp} {h h' : Heap}
end
section
variable {X : Cx}
def PairsT (H : Hp) : List V → List (List Key × V) → Prop := Paired fun y kv => ∃ t b, y = .ref t ∧ H t = some (.tup [.ref b, kv.2]) ∧ H b = some (.tup (kv.1.map kV))
inductive I_itemsL (Q : VK) (x : V) (H : Hp) : Prop where
 | mk (a : Addr) (kvs : List (List Key × V)) (h0 : x = .ref a) (h1 : Rd H a (.dT kvs)) (h2 : ∀ (l : Addr) (H' : Hp) (ys : List V), (∀ b o, H b = some o → H' b = some o) → H l = none → H' l = some (.lst ys) → PairsT H' ys kvs → Q (.ref l) H') : I_itemsL Q x H
end
end L2
namespace L2
open PySem PySem.Spec PyProof.Rows
section
variable {X : Cx} {tg : Expr}
end
end L2
namespace L2
open PySem PySem.Spec PyProof.Rows
section
variable {α : Type}
end
section
variable {prog : Program} {w : World} {A : Around} {E : Value → Shared → Prop} {s : Shared}
theorem sort_few {a : Addr} {vs : List Value} {n : Nat} {P : PySem.Fin → Shared → Prop} (ho : s.heap.get? a = some (seqObj "list" vs.toArray n)) (h2 : vs.length < 2)
   (h : P (.done (.ret .none)) { s with heap := sortedHeap s.heap a vs vs.toArray }) : wpAny (model prog w) A (Builtin.«list.sort» ⟨[.ref a], []⟩) P E s := by
 rw [list_sort_plain]
 have ha : a < s.heap.objs.size := Heap.lt_size ho
 refine wpAny_bind (listItems_at ho rfl ?_)
 refine wpAny_bind (listUpdate_at ho rfl ?_)
 obtain ⟨e1, ho1⟩ : ∃ e1, (s.heap.update a (Obj.mapSeq fun _ => #[])).get? a = some (seqObj "list" #[] e1) := ⟨_, get?_update_seq ho (fun _ => #[])⟩
 refine wpAny_bind (seqEpoch_at ho1 rfl ?_)
 refine wpAny_bind (wpAny_newTuple ?_)
 refine wpAny_bind (wpAny_newList ?_)
 refine wpAny_holding ?_
 have ho6 : (((s.heap.update a (Obj.mapSeq fun _ => #[])).push (seqObj "tuple" vs.toArray 0)).push (seqObj "list" #[] 0)).get? a = some (seqObj "list" #[] e1) := by
   rw [Heap.get?_push_ne _ _ _ (by rw [size_push', Heap.size_update]; exact Nat.ne_of_lt (Nat.lt_succ_of_lt ha)), Heap.get?_push_ne _ _ _ (by rw [Heap.size_update]; exact Nat.ne_of_lt ha)]
   exact ho1
 show wpAny (model prog w) A _ P E { s with heap := ((s.heap.update a (Obj.mapSeq fun _ => #[])).push (seqObj "tuple" vs.toArray 0)).push (seqObj "list" #[] 0) }
 dsimp only
 have hsz : vs.toArray.size = vs.length := by simp
 have n2 : vs.toArray.size < 2 := by omega
 have hm : (vs.toArray.zip vs.toArray).map (·.2) = vs.toArray := by
   apply Array.toList_inj.mp
   simp only [Array.toList_map, Array.toList_zip]
   exact List.map_snd_zip (Nat.le_refl _)
 rw [if_pos n2, if_pos n2]
 refine wpAny_bind (wpAny_pure ?_)
 rw [StateT.run_pure]
 refine wpAny_bind (wpAny_pure ?_)
 dsimp only
 refine wpAny_bind (seqEpoch_at ho6 rfl ?_)
 refine wpAny_bind (listUpdate_at ho6 rfl ?_ (hsz2 := by show ((vs.toArray.zip vs.toArray).map (·.2)).size ≤ _; rw [hm, hsz, sizeLine_eq]; omega))
 simp only [bne_self_eq_false, Bool.false_eq_true, if_false]
 refine wpAny_pure ?_
 show P (.done (.ret .none)) { s with heap := sortedHeap s.heap a vs ((vs.toArray.zip vs.toArray).map (·.2)) }
 rw [hm]
 exact h
end
section
variable {X : Cx} {β : Type}
end
end L2
namespace HT
open PySem PyProof.Rows
open PySem.SeqAt
open PySem.AutoSeq1 (wpAny_loadPart')
open PySem.MeetsSeq PySem.MeetsSeq2 PySem.MeetsSeq3
end HT
namespace L2
open PySem PySem.Spec PyProof.Rows
section
variable {prog : Program} {w : World} {A : Around} {E : Value → Shared → Prop} {s : Shared}
end
section
variable {X : Cx}
def isTup (H : Hp) : V → List Int → Prop := fun v st => ∃ a, v = .ref a ∧ H a = some (.tup (st.map V.int))
end
end L2
namespace L2
open PySem PySem.Spec PyProof.Rows
section
variable {X : Cx} {tg : Expr}
end
end L2
namespace L2
open PySem PySem.Spec PyProof.Rows
section
variable {X : Cx} {β : Type}
theorem sorted_1 {F : V → β → Prop} {pins : List (Addr × Obj)} {s : Shared} {σ : St} {H : Hp} {Q : VK} (I : Inv X pins σ H s) {a : Addr} {vs : List V} {bs : List β} (pb : Paired F vs bs) (hm : vs.length < 2)
   (hcol : ∀ R : List Value → Shared → Prop, (∀ (its : List Value) (h' : Heap) (tk : Nat), Vals vs its → (∀ b o, s.heap.get? b = some o → h'.get? b = some o) → R its { s with heap := h', toks := tk }) → wpAny (model X.prog X.w) X.A.in1 (collect (.ref a)) R X.xe s)
   (q : ∀ (l : Addr) (ys : List V), H l = none → Paired F ys (bs) → Q (.ref l) (upd H l (.lst ys))) :
   wpAny (model X.prog X.w) X.A (call (.builtin "sorted") [.ref a]) (EP X pins σ Q) X.xe s := by
 have lb := pb.length
 refine PySem.Calls.call_function_entry kind_sorted plain_sorted entry_sorted (args_sorted1 _) ?_
 unfold Builtin.«sorted»
 refine wpAny_bind (m := checkCount "sorted" 1 1 _) (wpAny_pure ?_)
 refine wpAny_bind (hcol _ fun its h1 tk rv keep => ?_)
 have lv := rv.length
 refine wpAny_bind (wpAny_newList ?_ (by rw [sizeLine_eq]; omega))
 have hoL : (h1.push (seqObj "list" its.toArray 0)).get? h1.objs.size = some (seqObj "list" its.toArray 0) := Heap.get?_push_size _ rfl
 have keep2 : ∀ b o, s.heap.get? b = some o → (h1.push (seqObj "list" its.toArray 0)).get? b = some o := fun b o e => Heap.get?_push_of_some _ (keep b o e)
 show wpAny _ _ _ _ _ { s with heap := h1.push (seqObj "list" its.toArray 0), toks := tk }
 have nal : s.heap.get? h1.objs.size = none := by
   cases e : s.heap.get? h1.objs.size with
   | none => rfl
   | some o => exact absurd (Heap.lt_size (keep _ _ e)) (Nat.lt_irrefl _)
 have fin : ∀ (ws : List Value) (ys : List V), Vals ys ws → ys.length ≤ sizeLine → Paired F ys (bs) → EP X pins σ Q (.ref h1.objs.size) { s with heap := sortedHeap (h1.push (seqObj "list" its.toArray 0)) h1.objs.size its ws.toArray, toks := tk } := fun ws ys rw' hy py => by
   obtain ⟨e, he⟩ := sortedHeap_at (out := ws.toArray) hoL
   refine ⟨.ref h1.objs.size, _, I.laidAt (t' := tk) (o := .lst ys) (fun b u eb => ?_) nal ⟨hy, ws, e, rw', he⟩, rfl, q _ ys (I.hok.noneAt nal) py⟩
   have e1 := keep b u eb
   have lt := Heap.lt_size e1
   rw [sortedHeap_old (Nat.ne_of_lt lt) (Heap.lt_size (keep2 b u eb))]
   exact keep2 b u eb
 refine wpAny_bind (wpAny_holding (wpAny_call_entry slot_list_sort ⟨_, hoL, rfl⟩ entry_list_sort ?body (args_list_sort _)))
 case body =>
   exact sort_few hoL (by omega) ⟨.none, rfl, wpAny_pure ⟨_, rfl, fin its vs rv (by rw [sizeLine_eq]; omega) pb⟩⟩
inductive I_sortD1 (xs : List V) (H : Hp) (Q : VK) : Prop
 | mk (a : Addr) (kvs : List (List Key × V)) (sts : List (List Int)) (h0 : xs = [.ref a]) (h1 : Rd H a (.dT kvs)) (h2 : kvs.map (·.1) = sts.map fun st => st.map Sum.inl) (h3 : kvs.length < 2) (h5 : ∀ (l : Addr) (ys : List V), H l = none → Paired (isTup H) ys sts → Q (.ref l) (upd H l (.lst ys))) : I_sortD1 xs H Q
theorem keys_t1 {H : Hp} : ∀ {kvs : List (List Key × V)} {xs : List (List Key × Addr × Value)} {sts : List (List Int)}, KT H kvs xs → kvs.map (·.1) = sts.map (fun st => st.map Sum.inl) → Paired (isTup H) (xs.map fun q => V.ref q.2.1) sts
 | _, _, [], .nil, _ => .nil
 | _, _, _ :: _, .nil, e => by simp at e
 | _, _, [], .cons _ _, e => by simp at e
 | _, _, st :: sts, .cons h t, e => by
   rw [List.map_cons, List.map_cons, List.cons.injEq] at e
   refine .cons ⟨_, rfl, ?_⟩ (keys_t1 t e.2)
   have := h.2.1
   rw [e.1, List.map_map] at this
   exact this
theorem call_sortD1 (hc : X.calm = true) : CallR X (.builtin "sorted") I_sortD1 := by
 intro pins s σ H xs us Q I r h
 obtain ⟨a, kvs, sts, rfl, ha, ek, hm, q⟩ := h
 obtain ⟨u, rfl, rx⟩ := vals1 r
 cases rx
 obtain ⟨z, y, ts, rel, o, es, ep, h1, h2, h3, h4, h5⟩ := (show ObjOk X.prog X.w H s.heap a (.dT kvs) from rd_of I.hok ha)
 have e1 : es.size = ts.length := by have := congrArg List.length h4; simpa using this
 have e2 := Paired.length rel
 have pb := keys_t1 rel ek
 refine sorted_1 I pb (by rw [List.length_map]; omega) (fun R hR => ?_) q
 refine W.kdu_collect (A := X.A.in1) (src_es (P := X.prog) (w := X.w) y h2 h3) (I.ok.hd hc) h1 (by rw [sizeLine_eq]; omega) fun h' tk acc hk hacc => ?_
 have e3 : acc.toList = ts.map fun q => Value.ref q.2.1 := by
   refine List.ext_getElem? fun i => ?_
   by_cases hi : i < ts.length
   · have ha : i < acc.size := by have := hacc.1; omega
     obtain ⟨hj, e⟩ := hacc.2 i acc[i] (by simp [ha])
     have e4 : es.toList[i]? = some (entryOfKey (tupleKind (mixKind X.prog X.w)) ts[i]) := by rw [h4]; simp [hi]
     have e5 : es[i] = entryOfKey (tupleKind (mixKind X.prog X.w)) ts[i] := by
       obtain ⟨_, e6⟩ := List.getElem?_eq_some_iff.mp e4
       simpa using e6
     simp only [Array.getElem?_toList, List.getElem?_map]
     rw [Array.getElem?_eq_getElem ha, e, e5, List.getElem?_eq_getElem hi]
     rfl
   · have ha : acc.size ≤ i := by have := hacc.1; omega
     rw [List.getElem?_eq_none (by simpa using ha), List.getElem?_eq_none (by simpa using hi)]
 refine hR acc.toList h' tk ?_ hk
 rw [e3]
 exact vals_refs ts
end
end L2
namespace L2
open PySem PySem.Spec PyProof.Rows
def Tr (h B : Heap) (e : Addr) (c k fl : Value) : Prop := ∃ oe vs T oT ts, h.get? e = some oe ∧ oe.cls = c ∧ oe.data = .fields vs ∧ vs[2]? = some k ∧ vs[1]? = some (.ref T) ∧ B.get? T = none ∧ T ≠ e ∧ h.get? T = some oT ∧ oT.data = .fields ts ∧ ts[3]? = some fl
def Fly (B : Heap) (l : List Env) (e : Addr) (c k : Value) (h : Heap) : Prop := B.StaysIn h ∧ B.get? e = none ∧ h.FunFrames B l ∧ Tr h B e c k .none
def Hel (B : Heap) (l : List Env) (e : Addr) (c k : Value) (L : Addr) (h : Heap) : Prop := B.StaysIn h ∧ B.get? e = none ∧ h.FunFrames B l ∧ Tr h B e c k (rawInt L)
theorem mapF_2 {vs : Array Value} {v x : Value} (h : vs[2]? = some x) : (vs.setIfInBounds 1 v)[2]? = some x := by
 rw [Array.getElem?_setIfInBounds_ne (by decide)]; exact h
section
variable {M : Model} {A : Around} {E : Value → Shared → Prop} {s : Shared} {B : Heap} {env : Env} {outer l : List Env} {L e : Addr} {c k : Value} {Q : Unit → Shared → Prop}
theorem fr_ne {h : Heap} {oe : Obj} {vs : Array Value} (hl : h.FunFrames B l) (he : h.get? e = some oe) (hd : oe.data = .fields vs) : e ∉ frs l := fun hm => by
 obtain ⟨_, o, ho, hn⟩ := hl.mem hm
 rw [he] at ho
 cases ho
 exact hn vs hd
theorem en_new {oe : Obj} {vs : Array Value} {head : Value} {had : Bool} (hfr : A.frames = some (env :: outer)) (hl : s.heap.FunFrames B (env :: outer)) (hf : env.frame = some L) (he : s.heap.get? e = some oe) (hk : B.StaysIn s.heap) (hen : B.get? e = none)
   (hd : oe.data = .fields vs) (hz : 1 < vs.size) (h2 : vs[2]? = some k)
   (h : ∀ h', B.StaysIn h' → h'.FunFrames B (env :: outer) → Tr h' B e oe.cls k (rawInt L) → s.heap.UpToSlots h' → Q () { s with heap := h' }) :
   wpAny M A (frameOf env >>= fun a => entryPlaceOf L had >>= fun pl => EntryCells.newEntry head a .none (rawInt L) .none pl >>= fun b => setField (.ref e) 1 b) Q E s := by
 have nfr := fr_ne hl he hd
 refine wpAny_bind (wpAny_frameOf_fun hfr hl hf fun g1 so => ?_)
 refine wpAny_bind (wpAny_entryPlaceOf fun pl hp => ?_)
 unfold EntryCells.newEntry newFields
 refine wpAny_bind (wpAny_newObj_type ?_ (hp.sizeOk5 _ _ _ _ _))
 have e1 : g1.get? e = some oe := (so.2.1 e nfr).trans he
 have k1 : B.StaysIn g1 := fun b o q => (so.2.1 b fun hm => by rw [(hl.mem hm).1] at q; cases q).trans (hk b o q)
 generalize hpd : (⟨.type "traceback", none, .fields ([head, .ref L, .none, rawInt L, .none] ++ (if pl.isEmpty then List.replicate 6 Value.none else pl)).toArray, #[]⟩ : Obj) = nw
 have hnw : nw.data = .fields ([head, .ref L, .none, rawInt L, .none] ++ (if pl.isEmpty then List.replicate 6 Value.none else pl)).toArray := by rw [← hpd]
 have h3 : ([head, Value.ref L, .none, rawInt L, .none] ++ (if pl.isEmpty then List.replicate 6 Value.none else pl)).toArray[3]? = some (rawInt L) := by simp
 have e2 : (g1.push nw).get? e = some oe := Heap.get?_push_of_some nw e1
 have hTe : g1.objs.size ≠ e := Nat.ne_of_gt (Heap.lt_size e1)
 have oth : ∀ b o, b ≠ e → g1.get? b = some o → ((g1.push nw).update e (Obj.mapFields (·.setIfInBounds 1 (Value.ref g1.objs.size)))).get? b = some o := fun b o n q => by
   rw [Heap.get?_update_other _ _ (Ne.symm n)]
   exact Heap.get?_push_of_some nw q
 have noe : ∀ b o, s.heap.get? b = some o → (∀ ws, o.data ≠ .fields ws) → b ≠ e := fun b o q hn z => by
   rw [z, he] at q
   cases q
   exact hn vs hd
 refine wpAny_setField e2 hd hz (h _ ?_ ?_ ?_ ?_)
 · exact fun b o q => oth b o (fun z => by rw [z, hen] at q; cases q) (k1 b o q)
 · refine hl.of_keeps fun b o q hn => ?_
   obtain ⟨sl, q1⟩ := so.2.2 b o q
   exact ⟨_, oth b _ (noe b o q hn) q1, rfl⟩
 · have hd3 := Obj.data_mapFields hd (·.setIfInBounds 1 (Value.ref g1.objs.size))
   refine ⟨_, _, g1.objs.size, nw, _, Heap.get?_update_self _ e2 (Obj.isFreed_of_fields hd3), Obj.cls_mapFields _ _, hd3, mapF_2 h2, by simp [hz], k1.fresh, hTe, ?_, hnw, h3⟩
   rw [Heap.get?_update_other _ _ (Ne.symm hTe)]
   exact Heap.get?_push_size g1 (by rw [← hpd]; rfl)
 · intro b o q hn
   obtain ⟨sl, q1⟩ := so.2.2 b o q
   exact ⟨sl, oth b _ (noe b o q hn) q1⟩
theorem fl_none {fl : Value} (hk : B.StaysIn s.heap) (hl : s.heap.FunFrames B l) (ht : Tr s.heap B e c k fl)
   (h : ∀ h', B.StaysIn h' → h'.FunFrames B l → Tr h' B e c k .none → s.heap.UpToSlots h' → Q () { s with heap := h' }) : wpAny M A (setFlight (.ref e) none) Q E s := by
 obtain ⟨oe, vs, T, oT, ts, he, hc, hd, h2, h1, nT, hTe, hT, hdT, h3⟩ := ht
 have z3 := (Array.getElem?_eq_some_iff.mp h3).1
 have oth : ∀ b, b ≠ T → (s.heap.update T (Obj.mapFields (·.setIfInBounds 3 Value.none))).get? b = s.heap.get? b := fun b n => Heap.get?_update_other _ _ (Ne.symm n)
 have noT : ∀ b o, s.heap.get? b = some o → (∀ ws, o.data ≠ .fields ws) → b ≠ T := fun b o q hn z => by
   rw [z, hT] at q
   cases q
   exact hn ts hdT
 unfold setFlight
 refine wpAny_bind (wpAny_field he hd h1 ?_)
 rw [if_pos (by rfl)]
 refine wpAny_setField hT hdT z3 (h _ (fun b o q => (oth b fun z => by rw [z, nT] at q; cases q).trans (hk b o q)) (hl.of_keeps fun b o q hn => ⟨o, (oth b (noT b o q hn)).trans q, rfl⟩) ?_ fun b o q hn => ⟨o.slots, (oth b (noT b o q hn)).trans q⟩)
 exact ⟨oe, vs, T, _, _, (oth e (Ne.symm hTe)).trans he, hc, hd, h2, h1, nT, hTe, Heap.get?_update_self _ hT (Obj.isFreed_of_fields (Obj.data_mapFields hdT _)), Obj.data_mapFields hdT _, by simp [z3]⟩
theorem note_on (hfr : A.frames = some (env :: outer)) (hf : env.frame = some L) (x : Fly B (env :: outer) e c k s.heap) (h : ∀ h', Hel B (env :: outer) e c k L h' → s.heap.UpToSlots h' → Q () { s with heap := h' }) : wpAny M A (noteFrame (.ref e) env) Q E s := by
 obtain ⟨hk, hen, hl, oe, vs, T, oT, ts, he, hc, hd, h2, h1, nT, hTe, hT, hdT, h3⟩ := x
 subst hc
 have oth : ∀ b, b ≠ T → (s.heap.update T (Obj.mapFields (·.setIfInBounds 3 Value.none))).get? b = s.heap.get? b := fun b n => Heap.get?_update_other _ _ (Ne.symm n)
 have noT : ∀ b o, s.heap.get? b = some o → (∀ ws, o.data ≠ .fields ws) → b ≠ T := fun b o q hn z => by
   rw [z, hT] at q
   cases q
   exact hn ts hdT
 unfold noteFrame
 simp only [hf]
 refine wpAny_bind (wpAny_field he hd h1 ?_)
 rw [if_pos (by rfl)]
 refine wpAny_bind (wpAny_field hT hdT h3 ?_)
 rw [if_neg (by simp [rawInt])]
 refine wpAny_bind (wpAny_setField hT hdT (Array.getElem?_eq_some_iff.mp h3).1 ?_)
 refine en_new (s := { s with heap := s.heap.update T (Obj.mapFields (·.setIfInBounds 3 Value.none)) }) hfr (hl.of_keeps fun b o q hn => ⟨o, (oth b (noT b o q hn)).trans q, rfl⟩) hf ((oth e (Ne.symm hTe)).trans he) (fun b o q => (oth b fun z => by rw [z, nT] at q; cases q).trans (hk b o q)) hen hd (Array.getElem?_eq_some_iff.mp h1).1 h2 fun h' x1 x2 x3 x4 => ?_
 exact h h' ⟨x1, hen, x2, x3⟩ fun b o q hn => x4 b o ((oth b (noT b o q hn)).trans q) hn
theorem lands (x : Hel B l e c k L s.heap) (h : ∀ h', Fly B l e c k h' → s.heap.UpToSlots h' → Q () { s with heap := h' }) : wpAny M A (setFlight (.ref e) none) Q E s :=
 fl_none x.1 x.2.2.1 x.2.2.2 fun h' x1 x2 x3 x4 => h h' ⟨x1, x.2.1, x2, x3⟩ x4
theorem lands2 (x : Fly B l e c k s.heap) (h : ∀ h', Fly B l e c k h' → s.heap.UpToSlots h' → Q () { s with heap := h' }) : wpAny M A (setFlight (.ref e) none) Q E s :=
 fl_none x.1 x.2.2.1 x.2.2.2 fun h' x1 x2 x3 x4 => h h' ⟨x1, x.2.1, x2, x3⟩ x4
theorem leave_on (hfr : A.frames = some (env :: outer)) (hf : env.frame = some L) (x : Fly B (env :: outer) e c k s.heap) (h : ∀ h', Fly B outer e c k h' → s.heap.UpToSlots h' → Q () { s with heap := h' }) : wpAny M A (leaving env (.ref e)) Q E s := by
 unfold leaving
 refine wpAny_bind (note_on hfr hf x fun h1 x1 u1 => ?_)
 refine lands x1 fun h2 x2 u2 => ?_
 obtain ⟨y1, y2, ⟨_, _, y3⟩, y4⟩ := x2
 exact h h2 ⟨y1, y2, y3, y4⟩ (u1.trans u2)
theorem leave_new {oe : Obj} {vs : Array Value} (hfr : A.frames = some (env :: outer)) (hl : s.heap.FunFrames B (env :: outer)) (hf : env.frame = some L) (he : s.heap.get? e = some oe) (hk : B.StaysIn s.heap) (hen : B.get? e = none)
   (hd : oe.data = .fields vs) (h1 : vs[1]? = some Value.none) (h2 : vs[2]? = some k) (h : ∀ h', Fly B outer e oe.cls k h' → s.heap.UpToSlots h' → Q () { s with heap := h' }) : wpAny M A (leaving env (.ref e)) Q E s := by
 unfold leaving noteFrame
 simp only [hf]
 refine wpAny_bind (wpAny_bind (wpAny_field he hd h1 ?_))
 rw [if_neg (by decide)]
 refine en_new hfr hl hf he hk hen hd (Array.getElem?_eq_some_iff.mp h1).1 h2 fun g1 x1 x2 x3 x4 => ?_
 refine lands (L := L) ⟨x1, hen, x2, x3⟩ fun g2 y u => ?_
 obtain ⟨y1, y2, ⟨_, _, y3⟩, y4⟩ := y
 exact h g2 ⟨y1, y2, y3, y4⟩ (x4.trans u)
end
end L2
namespace L2
open PySem PySem.Spec PyProof.Rows
structure Body (X : Cx) : Prop where
 ex : X.ex = []
 stk : X.stack = X.env :: X.outer
 fr : X.env.frame = some X.env.locals
 fn : ∀ x, X.fn x = true
def Cov (B h : Heap) (l : List Env) : Prop := ∀ b o, h.get? b = some o → b ∉ frs l → ∃ o', B.get? b = some o'
def CovH (B : Heap) (H : Hp) : Prop := ∀ b u, H b = some u → ∃ o, B.get? b = some o
def cxV : Option Addr → Value
 | none => .none
 | some a => .ref a
def CX1 (P : Program) (w : World) : CXT := fun outer H s E e s' => ∃ x C H' B o, e = Value.ref x ∧ s'.os = s.os ∧ AllBare s'.gens ∧ Un (frs outer) [] H H' s.heap s'.heap ∧ HOk P w H' s'.heap ∧ H' x = none ∧ Fly B outer x (.ref C) (cxV o) s'.heap ∧ CovH B H' ∧ Cov B s.heap outer ∧ E (.ref C) o H'
section
variable {P : Program} {w : World} {H : Hp} {B h h' : Heap}
theorem hok_fly (x : HOk P w H h) (c : CovH B H) (k : B.StaysIn h) (k' : B.StaysIn h') : HOk P w H h' := fun a o e => by
 refine (x a o e).stay (fun b u hb hu => ?_) (fun _ q => q) fun _ _ q => q
 have : ∃ o, B.get? b = some o := by
   rcases hb with rfl | hb
   · exact c _ _ e
   · exact c _ _ hb
 obtain ⟨o', ho'⟩ := this
 have := k _ _ ho'
 rw [hu] at this
 cases this
 exact k' _ _ ho'
end
section
variable {X : Cx} {pins : List (Addr × Obj)} {σ : St} {H : Hp} {s : Shared} {B h' : Heap}
theorem un_fly (I : Inv X pins σ H s) (bd : Body X) (c0 : Cov B X.s₀.heap X.outer) (k : B.StaysIn s.heap) (k' : B.StaysIn h') (up : s.heap.UpToSlots h') : Un X.fs [] X.H₀ H X.s₀.heap h' := by
 have nx : ∀ b : Addr, b ∉ X.ex := fun b => by rw [bd.ex]; simp
 have sl : ∀ b o, X.s₀.heap.get? b = some o → X.H₀ b = none → b ∈ X.fs → ∃ sl, h'.get? b = some { o with slots := sl } := fun b o q n hb => by
   obtain ⟨sl, h1⟩ := I.base.slot b o q n hb (nx b)
   obtain ⟨_, o2, h2, h3⟩ := I.ok.funs.mem hb
   rw [q] at h2; cases h2
   obtain ⟨sl2, h4⟩ := up b _ h1 h3
   exact ⟨sl2, h4⟩
 refine ⟨fun b o q n hb _ => ?_, fun b o q n hb _ => sl b o q n hb, fun b o q n _ => I.base.free b o q n (nx b), fun b o q _ => ?_, I.base.tups, I.base.frzs, I.base.tbls⟩
 · have h1 := I.base.keep b o q n hb (nx b)
   obtain ⟨o', ho'⟩ := c0 b o q hb
   have := k _ _ ho'
   rw [h1] at this; cases this
   exact k' _ _ ho'
 · by_cases hb : b ∈ X.fs
   · obtain ⟨sl, h1⟩ := sl b o q (I.ok.frf b hb) hb
     exact ⟨_, h1⟩
   · obtain ⟨o', ho'⟩ := c0 b o q hb
     exact ⟨_, k' _ _ ho'⟩
theorem frs_stack (bd : Body X) : frs X.stack = X.env.locals :: X.fs := by
 rw [bd.stk]
 show List.filterMap _ _ = _
 rw [List.filterMap_cons, bd.fr]
 rfl
theorem inv_fly {Hc : Hp} {sc : Shared} {t' : Nat} (I : Inv X pins σ H s) (bd : Body X) (Ic : Inv X pins σ Hc sc) (c : Cov B sc.heap X.stack) (cH : CovH B H) (k : B.StaysIn s.heap) (k' : B.StaysIn h') (up : s.heap.UpToSlots h') : Inv X pins σ H { s with heap := h', toks := t' } := by
 have nx : ∀ b : Addr, b ∉ X.ex := fun b => by rw [bd.ex]; simp
 have stay : ∀ b o, sc.heap.get? b = some o → b ≠ X.env.locals → b ∉ X.fs → ∀ u, s.heap.get? b = some u → h'.get? b = some u := fun b o q n1 n2 u hu => by
   obtain ⟨o', ho'⟩ := c b o q (by rw [frs_stack bd]; intro z; rcases List.mem_cons.mp z with z | z; exact n1 z; exact n2 z)
   have := k _ _ ho'
   rw [hu] at this; cases this
   exact k' _ _ ho'
 have c0 : Cov B X.s₀.heap X.outer := fun b o q hb => by
   obtain ⟨o1, h1⟩ := Ic.base.there b o q (nx b)
   refine c b o1 h1 ?_
   rw [frs_stack bd]
   intro z
   rcases List.mem_cons.mp z with z | z
   · have := Heap.lt_size q
     rw [z] at this
     exact absurd (Nat.lt_of_lt_of_le this I.ok.above) (Nat.lt_irrefl _)
   · exact hb z
 have ccell : ∀ x c, X.env.cells.lookup x = some c → ∀ u, s.heap.get? c = some u → h'.get? c = some u := fun x c e u hu => by
   obtain ⟨v, o, ho, hd⟩ := Ic.cell x c e
   refine stay c o ho (I.cne x c e) (fun z => ?_) u hu
   obtain ⟨_, o2, h2, _⟩ := I.ok.funs.mem z
   exact absurd (Nat.lt_of_lt_of_le (Heap.lt_size h2) (I.ok.cab x c (bd.fn x) e)) (Nat.lt_irrefl _)
 obtain ⟨m, hm, look⟩ := I.loc
 have hm' : h'.Ns X.env.locals m := up.ns hm
 refine ⟨I.ok, I.os, I.bare, by have := un_fly I bd c0 k k' up; rw [← bd.ex] at this; exact this, ⟨m, hm', fun i x v h1 h2 h3 => ?_⟩, fun x c e => ?_, I.free, I.freeC, fun p hp => ?_, hok_fly I.hok cH k k', I.len⟩
 · obtain ⟨u, ru, lk⟩ := look i x v h1 h2 h3
   refine ⟨u, ru, ?_⟩
   rcases lk with lk | ⟨kd, c, e, o, ho, hd⟩
   · exact .inl lk
   · exact .inr ⟨kd, c, e, o, ccell x c e o ho, hd⟩
 · obtain ⟨v, o, ho, hd⟩ := I.cell x c e
   exact ⟨v, o, ccell x c e o ho, hd⟩
 · obtain ⟨h1, h2, h3, h4, h5⟩ := I.pin p hp
   obtain ⟨g1, _⟩ := Ic.pin p hp
   exact ⟨stay _ _ g1 h3 h4 _ h1, h2, h3, h4, h5⟩
def XE (X : Cx) (P : Program) (w : World) (E : XK) : Prop := X.xe = fun e s' => wpAny (model P w) X.A (leaving X.env e) (fun _ s'' => CX1 P w X.outer X.H₀ X.s₀ E e s'') (fun e' s'' => CX1 P w X.outer X.H₀ X.s₀ E e' s'') s'
theorem cx_end {E : XK} {x C : Addr} {o : Option Addr} {h'' : Heap} (I : Inv X pins σ H s) (bd : Body X) (c0 : Cov B X.s₀.heap X.outer) (cH : CovH B H) (k : B.StaysIn s.heap) (hx : H x = none) (fl : Fly B X.outer x (.ref C) (cxV o) h'') (up : s.heap.UpToSlots h'') (e : E (.ref C) o H) :
   CX1 X.prog X.w X.outer X.H₀ X.s₀ E (.ref x) { s with heap := h'' } :=
 ⟨x, C, H, B, o, rfl, I.os, I.bare, un_fly I bd c0 k fl.1 up, hok_fly I.hok cH k fl.1, hx, fl, cH, c0, e⟩
theorem cov_out {Hc : Hp} {sc : Shared} (bd : Body X) (Ic : Inv X pins σ Hc sc) (c : Cov B sc.heap X.stack) : Cov B X.s₀.heap X.outer := fun b o q hb => by
 obtain ⟨o1, h1⟩ := Ic.base.there b o q (by rw [bd.ex]; simp)
 refine c b o1 h1 ?_
 rw [frs_stack bd]
 intro z
 rcases List.mem_cons.mp z with z | z
 · have := Heap.lt_size q
   rw [z] at this
   exact absurd (Nat.lt_of_lt_of_le this Ic.ok.above) (Nat.lt_irrefl _)
 · exact hb z
theorem passX {E : XK} (bd : Body X) (xe : XE X X.prog X.w E) : Passes (CX1 X.prog X.w) X E := by
 intro pins σ H s e s' I h
 obtain ⟨x, C, H', B, o, rfl, os, bare, un, hok, hx, fl, cH, c, he⟩ := h
 have I' := I.call' os un hok bare (fun b z => absurd z (by simp))
 have c0 := cov_out bd I c
 rw [xe]
 show wpAny _ _ _ _ _ _
 refine leave_on (B := B) (outer := X.outer) (k := cxV o) (c := .ref C) (by rw [I.ok.frames, bd.stk]) bd.fr (by rw [bd.stk] at fl; exact fl) fun h'' fl' up => ?_
 exact cx_end I' bd c0 cH fl.1 hx fl' up he
theorem newX {E : XK} {C e : Addr} {o : Option Addr} {vs : Array Value} {oe : Obj} {h1 : Heap} {tk : Nat} (bd : Body X) (xe : XE X X.prog X.w E) (I : Inv X pins σ H s) (kp : ∀ b o, s.heap.get? b = some o → h1.get? b = some o) (nw : s.heap.get? e = none) (he1 : h1.get? e = some oe) (hcl : oe.cls = .ref C) (hd : oe.data = .fields vs) (v1 : vs[1]? = some Value.none) (v2 : vs[2]? = some (cxV o))
   (he : E (.ref C) o H) : X.xe (.ref e) { s with heap := h1, toks := tk } := by
 rw [xe]
 show wpAny _ _ _ _ _ _
 have hin : ∀ env ∈ X.stack, ∀ b, env.frame = some b → b ∈ frs X.stack := fun env h b hb => List.mem_filterMap.mpr ⟨env, h, hb⟩
 have ff : s.heap.FunFrames (W.hideAll s.heap (frs X.stack)) X.stack := W.funFrames_hide I.stack hin
 have ff1 : h1.FunFrames (W.hideAll s.heap (frs X.stack)) (X.env :: X.outer) := by
   rw [← bd.stk]
   exact ff.of_keeps fun b o q _ => ⟨o, kp b o q, rfl⟩
 have hcov : ∀ b o, s.heap.get? b = some o → b ∉ frs X.stack → (W.hideAll s.heap (frs X.stack)).get? b = some o := fun b o q n => W.hideAll_get _ q n
 have cH : CovH (W.hideAll s.heap (frs X.stack)) H := fun b u q => by
   obtain ⟨o, ho⟩ := (I.hok b u q).there
   exact ⟨o, hcov b o ho fun z => by rw [I.stkFree b z] at q; cases q⟩
 have c0 : Cov (W.hideAll s.heap (frs X.stack)) X.s₀.heap X.outer := cov_out bd I fun b o q n => ⟨o, hcov b o q n⟩
 have I' : Inv X pins σ H { s with heap := h1, toks := tk } := I.kept (t' := tk) kp
 have st : (W.hideAll s.heap (frs X.stack)).StaysIn h1 := fun b o q => kp b o (W.of_hideAll _ q)
 have en : (W.hideAll s.heap (frs X.stack)).get? e = none := by
   cases q : (W.hideAll s.heap (frs X.stack)).get? e with
   | none => rfl
   | some o => have := W.of_hideAll _ q; rw [nw] at this; cases this
 refine leave_new (s := { s with heap := h1, toks := tk }) (k := cxV o) (by rw [I.ok.frames, bd.stk]) ff1 bd.fr he1 st en hd v1 v2 fun h'' fl up => ?_
 rw [hcl] at fl
 exact cx_end (s := { s with heap := h1, toks := tk }) I' bd c0 cH st (I.hok.noneAt nw) fl up he
end
end L2
namespace L2
open PySem PySem.Spec PyProof.Rows
abbrev bmV : List Value := [.type "ValueError", .type "Exception", .type "BaseException", .type "object"]
structure XC (K : W.Frag) (mg : Str → Option Value) (x : Str) (C : Addr) : Prop where
 g : mg x = some (.ref C)
 ex : W.excIn K C bmV "ValueError.__new__" = true
theorem exc_obj {K : W.Frag} {h : Heap} {C : Addr} {bmB : List Value} {newId : String} (X : K.In h) (q : W.excIn K C bmB newId = true) :
   ∃ bm N nm q bs hdct sn sub ab col dd k0 k1 k2 k3 k5 mN, h.get? C = some (excClassObj nm q C N bs bm hdct sn sub ab col dd k0 k1 k2 k3 k5 newId) ∧ h.Ns N mN ∧ mN "__init__" = none ∧ OwnTail h bmB bm ∧ (∃ cd sl dd', K.lookup C = some ⟨.type "type", dd', .cls cd, sl⟩ ∧ cd.mro = .ref C :: bm) := by
 unfold W.excIn at q
 split at q
 case h_2 => exact absurd q (by decide)
 case h_1 dd cd sl look =>
   split at q
   case h_2 => exact absurd q (by decide)
   case h_1 C' bm k0 k1 k2 k3 n k5 hm hs =>
     simp only [Bool.and_eq_true, Bool.not_eq_true', beq_iff_eq] at q
     obtain ⟨⟨⟨⟨⟨e1, e2⟩, e3⟩, e4⟩, e5⟩, e6⟩ := q
     subst e1 e2
     obtain ⟨nm, bs, mro, ns, qn, hd, sn, sub, ab, col, del⟩ := cd
     dsimp only at hm e3 e5 e6
     subst hm e3
     obtain ⟨sll⟩ := sl
     dsimp only at hs
     subst hs
     have hob := X _ _ look
     exact ⟨bm, ns, nm, qn, bs, hd, sn, sub, ab, col, dd, k0, k1, k2, k3, k5, _, hob, .of_isNs (W.isNs_of_in X e5), W.nsMap_none_of_in X e5 e6, W.tail_of_in X e4, _, _, _, look, rfl⟩
section
variable {X : Cx} {E : XK} {C : Addr}
theorem ps_raise {x msg : Str} {np cpos pos p : Pos} {j : Nat} (bd : Body X) (xe : XE X X.prog X.w E) (hc : X.calm = true) (c : XC X.K X.mg x C) (hg : Gl X x := by rfl) (hd : (x == ("__debug__" : Str)) = false := by decide) :
   PS X (.Raise (some (.Call (.Name x np) [.Constant (.str msg) j p] [] cpos)) none pos) (fun _ _ H => E (.ref C) none H) := by
 intro pins s σ H D I h
 obtain ⟨bm, N, nm, q, bs, hdct, sn, sub, ab, col, dd, k0, k1, k2, k3, k5, mN, hC, hN, hni, T, _⟩ := exc_obj I.kIn c.ex
 refine wpAny_Raise_call_subT (C := C) (nm := nm) (q := q) (N := N) (bs := bs) (bm := bm) (hdct := hdct) (sn := sn) (sub := sub) (ab := ab) (col := col) (dd := dd) (k0 := k0) (k1 := k1) (k2 := k2) (k3 := k3) (k5 := k5)
   PySem.F.excBase_ValueError (mN := mN) (T.hasType PySem.F.excBase_ValueError.hasBase) (I.ok.hd hc) rfl hni (ld_glob I hg c.g ⟨rfl, ?_⟩ hd)
 refine Calls.evalArgs_plain (Calls.spliced_cons (Calls.Constant_str (k := j) (pos := p) (Calls.spliced_nil ?_)))
 refine ⟨rfl, (by show 1 ≤ sizeLine; decide), hC, hN, T, fun h' e hx => ?_⟩
 obtain ⟨t, ht, _, _⟩ := hx.there
 exact newX (o := none) bd xe (I.tok _) hx.keeps hx.new ht rfl rfl rfl rfl h
end
section
variable (P : Program) (w : World) (K : W.Frag) (mg : Str → Option Value) (base : Heap) (k : Nat)
def FnX (x : Str) (ps : List Str) (sp : Sp) : Prop := ∃ f fd, FnOk P w K mg base (CX1 P w) k f fd ps sp ∧ mg x = some (.ref f) ∧ W.keepIn K (.ref f) = true ∧ Binds K fd ps []
def MeX (C : Addr) (m : Str) (ps : List Str) (sp : Sp) : Prop := ∃ f fd, FnOk P w K mg base (CX1 P w) k f fd ps sp ∧ Meth K C m f ∧ Binds K fd ps [] ∧ Cls K C
def MkX (x : Str) (C : Addr) (ps : List Str) (sp : Sp) : Prop := ∃ f fd, FnOk P w K mg base (CX1 P w) k f fd ps sp ∧ mg x = some (.ref C) ∧ Mk K C f ∧ Binds K fd ps []
end
section
variable {X : Cx} {E : XK} {k : Nat} {x m : Str} {C : Addr} {ps : List Str} {sp : Sp} {p pos apos : Pos} {e o : Expr} {es : List Expr} {ta : TE} {t : TA}
theorem pe_fnX (bd : Body X) (xe : XE X X.prog X.w E) (F : FnX X.prog X.w X.K X.mg X.base k x ps sp) (hr : Room k X.A) (ha : PA X (e :: es) t) (hg : Gl X x := by rfl) (hdb : (x == ("__debug__" : Str)) = false := by decide) (he : starEach (e :: es) X.env = (false, eval e X.env) :: starEach es X.env := by rfl) (hpl : (backTo pos (starEach es X.env)).any (·.1) = false := by rfl) :
   PE X (.Call (.Name x p) (e :: es) [] pos) (tCall sp [] E t) := by
 obtain ⟨f, fd, F, hm, hk, hb⟩ := F
 exact pe_call F hr hg hm hk hb .nil (passX bd xe) ha hdb he hpl
theorem pe_mkX (bd : Body X) (xe : XE X X.prog X.w E) (M : MkX X.prog X.w X.K X.mg X.base k x C ps sp) (hr : Room (k + 1) X.A) (ha : PA X (e :: es) t) (hg : Gl X x := by rfl) (hdb : (x == ("__debug__" : Str)) = false := by decide) (he : starEach (e :: es) X.env = (false, eval e X.env) :: starEach es X.env := by rfl) (hpl : (backTo pos (starEach es X.env)).any (·.1) = false := by rfl) :
   PE X (.Call (.Name x p) (e :: es) [] pos) (tMake C sp [] E t) := by
 obtain ⟨f, fd, F, hm, hM, hb⟩ := M
 exact pe_make hM F hr hg hm hb .nil (passX bd xe) ha hdb he hpl
theorem pe_meX {pl : Sem Bool} (bd : Body X) (xe : XE X X.prog X.w E) (M : MeX X.prog X.w X.K X.mg X.base k C m ps sp) (he : PE X o ta) (hr : Room k X.A) (ha : PA X (e :: es) t)
   (hst : starEach (e :: es) X.env = (false, eval e X.env) :: starEach es X.env := by rfl) (hpl : (backTo pos (starEach es X.env)).any (·.1) = false := by rfl)
   (ht : eval (.Call (.Attribute o m apos) (e :: es) [] pos) X.env = (do
     let ov ← eval o X.env
     standAt apos.atName
     let (f, first) ← holding [ov] (getMethod ov m pl)
     callWith pos f first (backTo pos (starEach (e :: es) X.env)) (backToKw pos (keywordEach [] X.env))) := by rfl) :
   PE X (.Call (.Attribute o m apos) (e :: es) [] pos) (tMeth C m sp [] E ta t) := by
 obtain ⟨f, fd, F, hm, hb, hc⟩ := M
 exact pe_meth he hc hm F hr hb .nil (passX bd xe) ha hst hpl ht
end
section
variable {P : Program} {w : World} {K : W.Frag} {mg : Str → Option Value} {base : Heap} {CX : CXT} {N : List Str} {qual : Str} {scope : Scope} {f : Addr} {cd : Value} {A : Around} {outer : List Env} {s : Shared} {H : Hp} {E : XK}
abbrev cxX (P : Program) (w : World) (K : W.Frag) (mg : Str → Option Value) (base : Heap) (N : List Str) (qual : Str) (scope : Scope) (f : Addr) (cd : Value) (A : Around) (outer : List Env) (s : Shared) (H : Hp) (E : XK) : Cx := cxOf (CX1 P w) P w K mg base N qual scope f cd A outer s H E
theorem bdX : Body (cxX P w K mg base N qual scope f cd A outer s H E) := ⟨rfl, rfl, rfl, fun _ => rfl⟩
theorem xeX : XE (cxX P w K mg base N qual scope f cd A outer s H E) P w E := rfl
theorem ownX : PassesOwn (model P w) (cxX P w K mg base N qual scope f cd A outer s H E).A (cxX P w K mg base N qual scope f cd A outer s H E).env (cxX P w K mg base N qual scope f cd A outer s H E).xe := PassesOwn.leaving
theorem Fun.okX {x qual : Str} {st : Stmt} {f : Addr} {fd : FuncData} {N ps : List Str} {k : Nat} {sp : Sp} (F : Fun K x qual st f fd) (S : fSc N ps (dZ st)) (len : ∀ vs H Q E, sp vs H Q E → vs.length = ps.length)
   (hbody : ∀ (cdv : Value) (A : Around) (outer : List Env) (s : Shared) (H : Hp) (vs : List V) (Q : VK) (E : XK), Room k (A.deeper (envOfC qual (dZ st) s.heap.objs.size f cdv)) → sp vs H Q E →
     ∃ t, PSs (cxX P w K mg base N qual (dZ st) f cdv A outer s H E) (dB st) t ∧ t { nx := fun _ H' => Q .non H', rt := Q } (start N vs) H) : FnOk P w K mg base (CX1 P w) (k + 1) f fd ps sp := by
 obtain ⟨oc, od, kV, doc, pm, an, cdv, ct, osl, rfl, lk, hcd⟩ := F.ex
 exact fn_of lk hcd S len fun A outer s H vs Q E hr hsp => hbody cdv A outer s H vs Q E hr hsp
theorem FnOk.up {k : Nat} {fd : FuncData} {ps : List Str} {sp : Sp} (F : FnOk P w K mg base CX0 k f fd ps sp) : FnOk P w K mg base (CX1 P w) k f fd ps sp := by
 refine ⟨F.len, fun A outer s H args us vs Q E hr he hb hv hs => codeAny_mono (F.run A outer s H args us vs Q E hr he hb hv hs) fun r s' hq => ?_⟩
 cases r with
 | error e => exact False.elim hq
 | ok fl => cases fl <;> exact hq
end
end L2
namespace L2
open PySem PySem.Spec PyProof.Rows
def XP (X : Cx) (pins : List (Addr × Obj)) (σ : St) (E : XK) (ev : Value) (s' : Shared) : Prop :=
 ∃ x C H' B o Hc sc, ev = Value.ref x ∧ Inv X pins σ H' s' ∧ H' x = none ∧ Fly B X.stack x (.ref C) (cxV o) s'.heap ∧ CovH B H' ∧ Inv X pins σ Hc sc ∧ Cov B sc.heap X.stack ∧ E (.ref C) o H'
abbrev TX := St → Hp → VK → XK → Prop
def PX (X : Cx) (e : Expr) (t : TX) : Prop := ∀ (pins : List (Addr × Obj)) (s : Shared) (σ : St) (H : Hp) (Q : VK) (E : XK), Inv X pins σ H s → t σ H Q E → wpAny (model X.prog X.w) X.A (eval e X.env) (EP X pins σ Q) (XP X pins σ E) s
def PSX (X : Cx) (st : Stmt) (t : Ends → St → Hp → XK → Prop) : Prop := ∀ (pins : List (Addr × Obj)) (s : Shared) (σ : St) (H : Hp) (D : Ends) (E : XK), Inv X pins σ H s → t D σ H E → wpAny (model X.prog X.w) X.A (exec st X.env) (SP X pins D) (XP X pins σ E) s
section
variable {X : Cx} {k : Nat} {f C : Addr} {fd : FuncData} {x m : Str} {ps : List Str} {sp : Sp} {p pos apos : Pos} {e o : Expr} {es : List Expr} {ta : TE} {t : TA}
theorem run_fnP {pins : List (Addr × Obj)} {σ : St} {H : Hp} {s : Shared} {Q : VK} {E : XK} {us : List Value} {vs : List V} (F : FnOk X.prog X.w X.K X.mg X.base (CX1 X.prog X.w) k f fd ps sp) (hr : Room k X.A) (hb : Binds X.K fd ps [])
   (I : Inv X pins σ H s) (r : Vals vs us) (h : sp vs H Q E) : wpAny (model X.prog X.w) X.A (call (.ref f) us) (EP X pins σ Q) (XP X pins σ E) s := by
 have hl : (us ++ []).length = ps.length := by rw [List.append_nil, ← r.length]; exact F.len _ _ _ _ h
 have hb' := hb s us I.kIn hl
 rw [List.append_nil] at hb'
 refine wpAny_call (codeAny_mono (F.run X.A X.stack s H ⟨us, []⟩ us vs Q E hr I.env0 hb' r h) fun r s' hq => ?_)
 cases r with
 | error e =>
   obtain ⟨x, C, H', B, o, rfl, os, bare, un, hok, hx, fl, cH, c, he⟩ := hq
   exact ⟨x, C, H', B, o, H, s, rfl, I.call' os un hok bare (fun b z => absurd z (by simp)), hx, fl, cH, I, c, he⟩
 | ok fl =>
   cases fl with
   | ret u => exact I.after hq
   | next => exact False.elim hq
   | brk => exact False.elim hq
   | cont => exact False.elim hq
theorem px_fn (F : FnX X.prog X.w X.K X.mg X.base k x ps sp) (hr : Room k X.A) (ha : ∀ xe, PA (X.catch xe) (e :: es) t) (hg : Gl X x := by rfl) (hdb : (x == ("__debug__" : Str)) = false := by decide) (he : starEach (e :: es) X.env = (false, eval e X.env) :: starEach es X.env := by rfl) (hpl : (backTo pos (starEach es X.env)).any (·.1) = false := by rfl) :
   PX X (.Call (.Name x p) (e :: es) [] pos) (fun σ H Q E => t σ H fun vs H1 => sp vs H1 Q E) := by
 obtain ⟨f, fd, F, hm, hk, hb⟩ := F
 intro pins s σ H Q E I h
 refine wpAny_Call_Name_kw (ld_glob I hg hm ?_ hdb)
 refine W.callWith_K (h₀ := X.base) I.ok.mod.kin hk (wpAny_mono (ha (XP X pins σ E) pos pins s σ H _ I.catch h) (fun us s1 ⟨vs, H1, I1, r, q⟩ => ⟨I1.uncatch.kIn, ?_⟩) fun _ _ z => z) he hpl
 exact run_fnP F hr hb I1.uncatch r q
theorem psx_expr {te : TX} (he : PX X e te) (hs : swapsWith e none pos.line X.env = pure false := by rfl) : PSX X (.Expr e pos) (fun D σ H E => te σ H (fun _ H' => D.nx σ H') E) := by
 intro pins s σ H D E I h
 exact wpAny_Expr_any (wpAny_mono (he pins s σ H _ E I h) (fun v s1 ⟨x, H1, I1, r1, q1⟩ => ⟨σ, H1, I1, q1⟩) fun _ _ z => z) I.quiet hs
end
def subIn (K : W.Frag) (C D : Addr) : Bool := match K.lookup C with
 | some ⟨_, _, .cls cd, _⟩ => cd.mro.contains (.ref D)
 | _ => false
section
variable {M : Model} {A : Around} {E : Value → Shared → Prop} {s : Shared}
theorem matches_own {K : W.Frag} {e C D : Addr} {oe : Obj} {b : Bool} {Q : Bool → Shared → Prop} (X : K.In s.heap) (qC : W.excIn K C bmV "ValueError.__new__" = true) (qD : W.excIn K D bmV "ValueError.__new__" = true) (hs : subIn K C D = b)
   (he : s.heap.get? e = some oe) (hc : oe.cls = .ref C) (h : Q b s) : wpAny M A (excMatches (.ref e) (.ref D)) Q E s := by
 obtain ⟨bm, N, nm, q, bs, hdct, sn, sub, ab, col, dd, k0, k1, k2, k3, k5, mN, hC, hN, hni, T, cd, sl, dd', look, hm⟩ := exc_obj X qC
 obtain ⟨bm', N', nm', q', bs', hdct', sn', sub', ab', col', dd2, l0, l1, l2, l3, l5, mN', hD, hN', hni', T', _⟩ := exc_obj X qD
 have cb : (Value.ref D :: bm').contains (.type "BaseException") = true := by rw [List.contains_cons, T'.hasType PySem.F.excBase_ValueError.hasBase, Bool.or_true]
 have cc : (Value.ref C :: bm).contains (.ref D) = b := by
   unfold subIn at hs
   rw [look] at hs
   rw [← hm]; exact hs
 have nt := tc_notTuple
 obtain ⟨hp, g, d, t, os⟩ := s
 unfold excMatches
 cases b
 all_goals
   repeat (first | (with_reducible refine wpAny_loadPart_at he ?_; rw [hc]) | with_reducible refine wpAny_loadPart_at hD ?_ | (with_reducible refine wpAny_isSubtype_exc hD ?_; rw [cb]) | (with_reducible refine wpAny_isSubtype_exc hC ?_; rw [cc]) | wp_step)
   exact h
end
end L2
namespace L2
open PySem PySem.Spec PyProof.Rows
def Cx.suite (X : Cx) (x : Addr) : Cx := { X with A := X.A.mark (some (.ref x)), calm := false }
section
variable {X : Cx} {pins : List (Addr × Obj)} {σ : St} {H : Hp} {s : Shared}
theorem Inv.suite (x : Addr) (I : Inv X pins σ H s) : Inv (X.suite x) pins σ H s :=
 ⟨⟨I.ok.mod, I.ok.kind, I.ok.glob, I.ok.blt, I.ok.above, I.ok.inj, I.ok.has, I.ok.cab, fun z => absurd (show false = true from z) (by decide), I.ok.frames, I.ok.stk, I.ok.exf, I.ok.bs, I.ok.bsz, I.ok.noex, I.ok.exfs, I.ok.funs, I.ok.frf⟩, I.os, I.bare, I.base, I.loc, I.cell, I.free, I.freeC, I.pin, I.hok, I.len⟩
theorem Inv.unsuite {x : Addr} (ok : X.Ok) (I : Inv (X.suite x) pins σ H s) : Inv X pins σ H s :=
 ⟨ok, I.os, I.bare, I.base, I.loc, I.cell, I.free, I.freeC, I.pin, I.hok, I.len⟩
theorem Inv.trackO {x : Addr} {o : HO} (I : Inv X pins σ H s) (hx : H x = none) (hs0 : X.s₀.heap.get? x = none) (nl : x ≠ X.env.locals) (nc : ∀ y c, X.env.cells.lookup y = some c → c ≠ x) (np : ∀ p ∈ X.pn ++ pins, p.1 ≠ x) (ok : ObjOk X.prog X.w (upd H x o) s.heap x o) : Inv X pins σ (upd H x o) s := by
 have ne : ∀ b u, H b = some u → b ≠ x := fun b u e => nN e hx
 refine ⟨I.ok, I.os, I.bare, ⟨I.base.keep, I.base.slot, fun b o' q n hx' => ?_, I.base.there, fun b xs q => ?_, fun b o' u q => ?_, fun b ps q => ?_⟩, I.loc, I.cell, ?_, fun y c e => ?_, fun p hp => ?_, fun b u e => ?_, I.len⟩
 · rw [uN (fun z => by rw [z, hs0] at q; cases q)]; exact I.base.free b o' q n hx'
 · have := I.base.tups b xs q; rw [uN (ne _ _ this)]; exact this
 · have := I.base.frzs b o' u q; rw [uN (ne _ _ this)]; exact this
 · obtain ⟨more, this⟩ := I.base.tbls b ps q; exact ⟨more, by rw [uN (ne _ _ this)]; exact this⟩
 · rw [uN nl.symm]; exact I.free
 · rw [uN (nc y c e)]; exact I.freeC y c e
 · obtain ⟨h1, h2, h3⟩ := I.pin p hp
   exact ⟨h1, by rw [uN (np p hp)]; exact h2, h3⟩
 · by_cases hb : b = x
   · subst hb; rw [uS] at e; cases e; exact ok
   · rw [uN hb] at e
     exact (I.hok b u e).stay (fun _ _ _ q => q) (fun c q => by rw [uN (ne _ _ q)]; exact q) fun c xs q => by rw [uN (ne _ _ q)]; exact q
theorem del_ok {M : Model} {A : Around} {E : Value → Shared → Prop} {i : Nat} {n : Str} {v : V} {Q : Unit → Shared → Prop} (I : Inv X pins σ H s) (hN : X.N.Nodup) (hi : X.N[i]? = some n) (hlo : X.env.scope.names.lookup n = some .local) (hv : σ[i]? = some (some v))
   (h : ∀ s', Inv X pins (σ.set i none) H s' → Q () s') : wpAny M A (unbindName X.env n) Q E s := by
 obtain ⟨m, hn, hl⟩ := id I.loc
 have hm : ∃ u, m n = some u := by
   obtain ⟨u, _, lk⟩ := hl i n v hi hv (.inl hlo)
   rcases lk with ⟨_, e⟩ | ⟨hk, _⟩
   · exact ⟨u, e⟩
   · have hk' : X.env.kindOf n = some .local := hlo
     rw [hk'] at hk
     rcases hk with hk | hk <;> cases hk
 obtain ⟨u, hu⟩ := hm
 have lt0 : ∀ b o, X.s₀.heap.get? b = some o → b ≠ X.env.locals := fun b o q => Nat.ne_of_lt (Nat.lt_of_lt_of_le (Heap.lt_size q) I.ok.above)
 refine wpAny_unbindName_local hlo hn hu (by rw [I.ok.kind]; rfl) fun h' u' hn' sb => h _ ?_
 have oth : ∀ b o, b ≠ X.env.locals → s.heap.get? b = some o → h'.get? b = some o := fun b o nb q => (sb.2 b nb).trans q
 refine ⟨I.ok, I.os, I.bare, ⟨fun b o q n' hb hx => oth b o (lt0 b o q) (I.base.keep b o q n' hb hx), fun b o q n' hb hx => ?_, I.base.free, fun b o q hx => ?_, I.base.tups, I.base.frzs, I.base.tbls⟩, ⟨_, hn', fun j y w e1 e2 e3 => ?_⟩, fun y c e => ?_, I.free, I.freeC, fun p hp => ?_, fun b ob e => ?_, by rw [List.length_set]; exact I.len⟩
 · obtain ⟨sl, q1⟩ := I.base.slot b o q n' hb hx
   exact ⟨sl, oth b _ (lt0 b o q) q1⟩
 · obtain ⟨o1, q1⟩ := I.base.there b o q hx
   exact ⟨o1, oth b _ (lt0 b o q) q1⟩
 · have hj : j ≠ i := fun z => by
     subst z
     rw [List.getElem?_set_self (by rw [I.len]; exact (List.getElem?_eq_some_iff.mp hi).1)] at e2
     cases e2
   rw [List.getElem?_set_ne (Ne.symm hj)] at e2
   obtain ⟨u2, r2, lk⟩ := hl j y w e1 e2 e3
   refine ⟨u2, r2, ?_⟩
   rcases lk with ⟨hk, e⟩ | ⟨hk, c, hc, o, ho, hd⟩
   · refine .inl ⟨hk, ?_⟩
     have ny : ¬ y = n := fun z => hj (nodup_ix hN e1 (by rw [z]; exact hi))
     show (if y = n then u' else m y) = some u2
     rw [if_neg ny]
     exact e
   · exact .inr ⟨hk, c, hc, o, oth c o (I.cne y c hc) ho, hd⟩
 · obtain ⟨w, o, ho, hd⟩ := I.cell y c e
   exact ⟨w, o, oth c o (I.cne y c e) ho, hd⟩
 · obtain ⟨h1, h2, h3, h4⟩ := I.pin p hp
   exact ⟨oth _ _ h3 h1, h2, h3, h4⟩
 · refine (I.hok b ob e).stay (fun c w hc q => oth c w (fun z => ?_) q) (fun _ q => q) fun _ _ q => q
   have fr := I.free
   rcases hc with hc | hc
   · rw [← hc, z, fr] at e; cases e
   · rw [z, fr] at hc; cases hc
def xO (C x : Addr) : HO := .ext fun h => ∃ o vs, h.get? x = some o ∧ o.cls = .ref C ∧ o.data = .fields vs
theorem tracked {x C : Addr} {k : Value} {B h' : Heap} {Hc : Hp} {sc : Shared} {t' : Nat} (I : Inv X pins σ H { s with heap := h', toks := t' }) (bd : Body X) (hx : H x = none) (fl : Fly B X.stack x (.ref C) k h') (Ic : Inv X pins σ Hc sc) (c : Cov B sc.heap X.stack) : Inv X pins σ (upd H x (xO C x)) { s with heap := h', toks := t' } := by
 obtain ⟨hk, hen, hl, oe, vs, T, oT, ts, he, hc, hd, _⟩ := fl
 have nfr : x ∉ frs X.stack := fr_ne hl he hd
 have notB : ∀ b o, sc.heap.get? b = some o → b ∉ frs X.stack → b ≠ x := fun b o q n z => by
   obtain ⟨o', q'⟩ := c b o q n
   rw [z, hen] at q'; cases q'
 rw [frs_stack bd] at nfr
 refine I.trackO hx ?_ (fun z => nfr (by rw [z]; exact List.mem_cons_self)) (fun y cc e => ?_) (fun p hp => ?_) ⟨⟨oe, vs, he, hc, hd⟩, ⟨oe, he⟩, fun h1 h2 ⟨o, ws, q1, q2⟩ st => ⟨o, ws, st _ q1, q2⟩⟩
 · cases q : X.s₀.heap.get? x with
   | none => rfl
   | some o =>
     obtain ⟨o', q'⟩ := cov_out bd Ic c x o q fun z => nfr (List.mem_cons_of_mem _ z)
     rw [hen] at q'; cases q'
 · obtain ⟨v, o, ho, _⟩ := Ic.cell y cc e
   refine notB cc o ho fun z => ?_
   rw [frs_stack bd] at z
   rcases List.mem_cons.mp z with z | z
   · exact I.cne y cc e z
   · obtain ⟨_, o2, h2, _⟩ := I.ok.funs.mem z
     exact absurd (Nat.lt_of_lt_of_le (Heap.lt_size h2) (I.ok.cab y cc (bd.fn y) e)) (Nat.lt_irrefl _)
 · obtain ⟨h1, _, h3, h4, _⟩ := Ic.pin p hp
   refine notB p.1 _ h1 fun z => ?_
   rw [frs_stack bd] at z
   rcases List.mem_cons.mp z with z | z
   · exact h3 z
   · exact h4 z
theorem ps_try_as {st : Stmt} {tb : Ends → St → Hp → XK → Prop} {d n : Str} {i : Nat} {b₀ : Stmt} {suite : List Stmt} {np hpos pos : Pos} {D : Addr} {ts : TS} (bd : Body X) (hb : PSX X st tb) (gd : XC X.K X.mg d D) (hN : X.N.Nodup) (hi : X.N[i]? = some n) (hlo : X.env.scope.names.lookup n = some .local)
   (hs : ∀ x E, PSs ((X.suite x).catch E) (b₀ :: suite) ts) (hgl : Gl X d := by rfl) (hdd : (d == ("__debug__" : Str)) = false := by decide) :
   PS X (.Try [st] [.ExceptHandler (some (.Name d np)) (some n) (b₀ :: suite) hpos] [] [] pos) (fun D' σ H => tb D' σ H (fun cv o H' => ∃ C, cv = .ref C ∧ W.excIn X.K C bmV "ValueError.__new__" = true ∧ subIn X.K C D = true ∧
     ∀ x, H' x = none → ts { nx := fun _ _ => False, rt := D'.rt } (σ.set i (some (.ref x))) (upd H' x (xO C x)))) := by
 intro pins s σ H D' I h
 refine wpAny_Try_except (wpAny_execs_cons (wpAny_mono (hb pins s σ H D' _ I h) (fun f s1 q => ?_) (fun ev s1 he => ?_)))
 · cases f with
   | next => exact wpAny_execs_nil (wpAny_execs_nil q)
   | brk => exact q
   | cont => exact q
   | ret u => exact q
 obtain ⟨x, C, H', B, o, Hc, sc, rfl, I', hx, fl, cH, Ic, c, C', eC, qC, hsub, rd⟩ := he
 cases eC
 have fr1 : X.A.frames = some (X.env :: X.outer) := by rw [I.ok.frames, bd.stk]
 have fl' := fl
 rw [bd.stk] at fl'
 refine note_on fr1 bd.fr fl' fun h4 hel4 up4 => ?_
 refine lands hel4 fun h5 fl5 up5 => ?_
 have I5 := inv_fly (t' := s1.toks) I' bd Ic c cH fl.1 fl5.1 (up4.trans up5)
 obtain ⟨_, _, _, oe, vs, _, _, _, he5, hc5, _⟩ := id fl5
 refine wpAny_handleBy_cons (codeAny_handlers_test (ld_glob (X := X.suite x) (I5.suite x) hgl gd.g ?_ hdd)) (by intro z; cases z)
 refine matches_own I5.kIn qC gd.ex hsub he5 hc5 ?_
 refine codeAny_handlers_suite_as ?_
 refine lands2 fl5 fun h6 fl6 up6 => ?_
 have I6 := inv_fly (t' := s1.toks) I' bd Ic c cH fl.1 fl6.1 ((up4.trans up5).trans up6)
 have I6t := tracked I6 bd hx (by rw [bd.stk]; exact fl6) Ic c
 refine store_ok (X := X.suite x) (I6t.suite x) hN hi (.inl hlo) (v := .ref x) rfl (fun s7 I7 => ?_) (.inr hlo)
 refine wpAny_mono (hs x _ pins s7 _ _ _ I7.catch (rd x hx)) (fun f s8 q => ?_) (fun _ _ z => z)
 have q' := SP.uncatch q
 cases f with
 | next => obtain ⟨_, _, _, z⟩ := q'; exact z.elim
 | brk => obtain ⟨_, _, _, z⟩ := q'; exact z.elim
 | cont => obtain ⟨_, _, _, z⟩ := q'; exact z.elim
 | ret u =>
   obtain ⟨v, σ', H'', I8, r, hq⟩ := q'
   have I8' := I8.unsuite I.ok
   refine wpAny_bind (wpAny_bindName (store_ok (X := X) I8' hN hi (.inl hlo) (v := .non) rfl (fun s9 I9 => ?_) (.inr hlo)))
   unfold unbindBehindTheSuite
   refine wpAny_onRaise (del_ok I9 hN hi hlo (v := .non) ?_ fun s10 I10 => ⟨v, _, H'', I10, r, hq⟩)
   rw [List.getElem?_set_self (by rw [I8'.len]; exact (List.getElem?_eq_some_iff.mp hi).1)]
end
end L2
namespace L2
open PySem PySem.Spec PyProof.Rows
theorem entry_unchain : entryFor table "proto.unchain" = some Builtin.«proto.unchain» := entryFor_of_tree (by kernel_rfl)
theorem plain_unchain : plainId "proto.unchain" = true := by decide +kernel
section
variable {prog : Program} {w : World} {A : Around} {E : Value → Shared → Prop} {env : Env}
variable {nm q : Str} {C N : Addr} {bs bm : List Value} {hdct : Bool} {sn : List Str} {sub : List Value} {ab : Bool} {col : Option Bool} {dd : Option Addr} {k0 k1 k2 k3 k5 : Option Value} {newId : String}
theorem raise_from {s : Shared} {x : Sem Value} {c : Sem Value} {y : Addr} {Q : Flow → Shared → Prop} (hbase : bm.contains (.type "BaseException") = true) (hh : A.handled = some (.ref y))
   (h : wpAny (model prog w) A x (fun v s₁ => ∃ e t, v = .ref e ∧ e ≠ y ∧ s₁.heap.get? C = some (excClassObj nm q C N bs bm hdct sn sub ab col dd k0 k1 k2 k3 k5 newId) ∧
     s₁.heap.get? e = some { cls := .ref C, data := .fields #[.ref t, .none, .none, .none, .bool false, .none] } ∧ (∃ oy vs, s₁.heap.get? y = some oy ∧ oy.data = .fields vs ∧ vs[2]? = some Value.none) ∧
     wpAny (model prog w) A c (fun v s₂ => v = .none ∧ s₂ = s₁) E s₁ ∧
     ∀ h', (∀ b, b ≠ e → h'.get? b = s₁.heap.get? b) → h'.get? e = some { cls := .ref C, data := .fields #[.ref t, .none, .ref y, .none, .bool true, .none] } → E (.ref e) { s₁ with heap := h' }) E s) :
   wpAny (model prog w) A (raiseStmt env (some x) (some c)) Q E s := by
 have hcB : (Value.ref C :: bm).contains (.type "BaseException") = true := by rw [List.contains_cons, hbase, Bool.or_true]
 unfold raiseStmt
 refine wpAny_bind (wpAny_mono h (fun v s₁ h₁ => ?_) fun _ _ x => x)
 obtain ⟨e, t, rfl, hey, hC, he, ⟨oy, vs, hy, hdy, h2⟩, hc, hE⟩ := h₁
 refine wpAny_bind (wpAny_holding (wpAny_mono hc (fun v s₂ hv => ?_) fun _ _ x => x))
 obtain ⟨rfl, rfl⟩ := hv
 obtain ⟨hp, g, d, tk, os⟩ := s₂
 repeat (first | with_reducible refine wpAny_loadPart_at he ?_ | with_reducible refine wpAny_loadPart_at hC ?_ | (with_reducible refine wpAny_isSubtype_exc hC ?_; rw [hcB]) | wp_step)
 have hCe : C ≠ e := fun z => by
   rw [z, he] at hC
   injection hC with hC
   injection hC with _ _ hC
   cases hC
 have e3 := Heap.get?_update_self (Obj.mapFields fun x => x.setIfInBounds 3 Value.none) he (by rfl)
 have e4 := Heap.get?_update_self (Obj.mapFields fun x => x.setIfInBounds 4 (Value.bool true)) e3 (by rfl)
 have oth : ∀ b, b ≠ e → ((hp.update e (Obj.mapFields fun x => x.setIfInBounds 3 Value.none)).update e (Obj.mapFields fun x => x.setIfInBounds 4 (Value.bool true))).get? b = hp.get? b := fun b n => by
   rw [Heap.get?_update_other _ _ (Ne.symm n), Heap.get?_update_other _ _ (Ne.symm n)]
 have hC4 := (oth C hCe).trans hC
 have hy4 := (oth y (Ne.symm hey)).trans hy
 generalize hgen : (hp.update e (Obj.mapFields fun x => x.setIfInBounds 3 Value.none)).update e (Obj.mapFields fun x => x.setIfInBounds 4 (Value.bool true)) = h4 at e4 oth hC4 hy4 ⊢
 refine wpAny_loadPart_at hC4 (wpAny_pure ?_)
 rw [if_pos (by rfl)]
 refine wpAny_pure ?_
 unfold setFlight
 refine wpAny_bind (wpAny_bind (wpAny_field e4 rfl (x := Value.none) rfl ?_))
 rw [if_neg (by decide)]
 refine wpAny_pure ?_
 unfold raiseNew
 refine wpAny_bind (wpAny_handled ?_)
 rw [hh]
 dsimp only
 have hne : (Value.ref y != Value.ref e) = true := by simp [Ne.symm hey]
 rw [if_pos hne]
 refine wpAny_bind (wpAny_holding (wpAny_runValue (codeAny_builtin entry_unchain ?_)))
 rw [Around.under_plainId plain_unchain _]
 unfold Builtin.«proto.unchain»
 refine wpAny_bind (wpAny_field hy4 hdy h2 ?_)
 rw [if_pos (by rfl)]
 refine wpAny_pure ?_
 show wpAny _ _ (setField (.ref e) 2 (.ref y) >>= fun _ => throw (.ref e)) Q E _
 refine wpAny_bind (wpAny_setField e4 rfl (by simp) (wpAny_throw (hE _ (fun b n => ?_) ?_)))
 · rw [Heap.get?_update_other _ _ (Ne.symm n)]; exact oth b n
 · exact Heap.get?_update_self (Obj.mapFields fun x => x.setIfInBounds 2 (Value.ref y)) e4 (by rfl)
end
section
variable {X : Cx} {E : XK}
theorem ps_try_raise {st : Stmt} {tb : Ends → St → Hp → XK → Prop} {d y msg : Str} {np hpos pos cpos rpos np2 p p2 : Pos} {j j2 : Nat} {D C2 : Addr} (bd : Body X) (xe : XE X X.prog X.w E) (hb : PSX X st tb) (gd : XC X.K X.mg d D) (gy : XC X.K X.mg y C2)
   (hgl : Gl X d := by rfl) (hgy : Gl X y := by rfl) (hdd : (d == ("__debug__" : Str)) = false := by decide) (hdy : (y == ("__debug__" : Str)) = false := by decide) :
   PS X (.Try [st] [.ExceptHandler (some (.Name d np)) none [.Raise (some (.Call (.Name y np2) [.Constant (.str msg) j p] [] cpos)) (some (.Constant .none j2 p2)) rpos] hpos] [] [] pos)
     (fun D' σ H => tb D' σ H (fun cv o H' => ∃ C, cv = .ref C ∧ o = none ∧ W.excIn X.K C bmV "ValueError.__new__" = true ∧ subIn X.K C D = true ∧ ∀ x, E (.ref C2) (some x) H')) := by
 intro pins s σ H D' I h
 refine wpAny_Try_except (wpAny_execs_cons (wpAny_mono (hb pins s σ H D' _ I h) (fun f s1 q => ?_) (fun ev s1 he => ?_)))
 · cases f with
   | next => exact wpAny_execs_nil (wpAny_execs_nil q)
   | brk => exact q
   | cont => exact q
   | ret u => exact q
 obtain ⟨x, C, H', B, o, Hc, sc, rfl, I', hx, fl, cH, Ic, c, C', eC, rfl, qC, hsub, rd⟩ := he
 cases eC
 have fr1 : X.A.frames = some (X.env :: X.outer) := by rw [I.ok.frames, bd.stk]
 have fl' := fl
 rw [bd.stk] at fl'
 refine note_on fr1 bd.fr fl' fun h4 hel4 up4 => ?_
 refine lands hel4 fun h5 fl5 up5 => ?_
 have I5 := inv_fly (t' := s1.toks) I' bd Ic c cH fl.1 fl5.1 (up4.trans up5)
 obtain ⟨_, _, _, oe, vs, _, _, _, he5, hc5, _⟩ := id fl5
 refine wpAny_handleBy_cons (codeAny_handlers_test (ld_glob (X := X.suite x) (I5.suite x) hgl gd.g ?_ hdd)) (by intro z; cases z)
 refine matches_own I5.kIn qC gd.ex hsub he5 hc5 ?_
 refine codeAny_handlers_suite ?_
 refine lands2 fl5 fun h6 fl6 up6 => ?_
 have I6 := inv_fly (t' := s1.toks) I' bd Ic c cH fl.1 fl6.1 ((up4.trans up5).trans up6)
 have hE : PassesOwnAt (model X.prog X.w) (X.A.mark (some (.ref x))) X.A X.env X.xe := by rw [xe]; exact PassesOwnAt.leaving
 refine wpAny_passesOwnAt hE (wpAny_execs_cons ?_)
 rw [arm_exec_Raise]
 refine wpAny_bind (wpAny_standAt ?_)
 obtain ⟨bm, N, nm, q, bs, hdct, sn, sub, ab, col, dd, k0, k1, k2, k3, k5, mN, hC, hN, hni, T, _⟩ := exc_obj I6.kIn gy.ex
 obtain ⟨_, _, _, ox, ws, _, _, _, hx6, _, hd6, hx2, _⟩ := id fl6
 simp only [evalOpt, Option.map]
 refine raise_from (C := C2) (nm := nm) (q := q) (N := N) (bs := bs) (bm := bm) (hdct := hdct) (sn := sn) (sub := sub) (ab := ab) (col := col) (dd := dd) (k0 := k0) (k1 := k1) (k2 := k2) (k3 := k3) (k5 := k5) (newId := "ValueError.__new__") (y := x) (T.hasType PySem.F.excBase_ValueError.hasBase) rfl ?_
 refine wpAny_bind (wpAny_mono (Q := fun v s₃ => ∃ e t, v = .ref e ∧ (∀ b o, h6.get? b = some o → s₃.heap.get? b = some o) ∧ h6.get? e = none ∧ s₃.heap.get? e = some { cls := .ref C2, data := .fields #[.ref t, .none, .none, .none, .bool false, .none] } ∧ s₃.gens = s1.gens ∧ s₃.drawn = s1.drawn ∧ s₃.os = s1.os) (wpAny_Call_ofName ?_) (fun v s₃ q3 => wpAny_bind (wpAny_standAt (wpAny_pure ?_))) fun _ _ z => z)
 · refine ld_glob (X := X.suite x) (I6.suite x) hgy gy.g ?_ hdy
   unfold callWith
   refine wpAny_bind (wpAny_holding (Calls.evalArgs_plain (Calls.spliced_cons (Calls.Constant_str (k := j) (pos := p) (Calls.spliced_nil ?_)))))
   refine wpAny_bind (wpAny_standAt ?_)
   refine wpAny_bind (wpAny_keeperOf_exc hC ?_)
   refine wpAny_bind (wpAny_call_exc_subT PySem.F.excBase_ValueError T hC hN hni fun h' e hm => wpAny_bind (wpAny_holding (wpAny_point (wpAny_pure ?_))))
   obtain ⟨t, ht, _, _⟩ := hm.there
   exact ⟨e, t, rfl, hm.keeps, hm.new, ht, rfl, rfl, rfl⟩
 · obtain ⟨e, t, rfl, kp, nw, he, g3, d3, o3⟩ := q3
   refine ⟨e, t, rfl, (fun z => by rw [z, hx6] at nw; cases nw), kp _ _ hC, he, ⟨ox, ws, kp _ _ hx6, hd6, hx2⟩, ?_, fun h' oth he' => ?_⟩
   · exact wpAny_bind (wpAny_Constant_none (wpAny_bind (wpAny_standAt (wpAny_pure ⟨rfl, rfl⟩))))
   · obtain ⟨h3, g3', d3', t3, o3'⟩ := s₃
     subst g3 d3 o3
     exact newX (s := { heap := h6, gens := s1.gens, drawn := s1.drawn, toks := s1.toks, os := s1.os }) (tk := t3) (o := some x) bd xe I6 (fun b o q => (oth b (fun z => by rw [z, nw] at q; cases q)).trans (kp b o q)) nw he' rfl rfl rfl rfl (rd x)
end
end L2
namespace L2
open PySem PySem.Spec PySem.Calls PyProof.Rows PySem.W PySem.Builtin PySem.Builtin.ObjectAttr PySem.Builtin.Getset_descriptor
structure ExcCls (K : W.Frag) (C : Addr) : Prop where
 ga : W.findIn K (.ref C) "__getattribute__" = some (some (.builtin "BaseException.__getattribute__"))
 gt : W.findIn K (.ref C) "__getattr__" = some none
 cl : W.findIn K (.ref C) "__class__" = some (some (.builtin "object.__class__"))
 mb : W.mroIn K C (.type "BaseException") = some true
 mo : W.mroIn K C (.type "object") = some true
 is : (W.clsIn K C).isSome = true
def XAt (x C : Addr) (h : Heap) : Prop := ∃ o vs, h.get? x = some o ∧ o.cls = .ref C ∧ o.data = .fields vs
theorem XAt.type {M : Model} {h : Heap} {x C : Addr} (I : XAt x C h) : W.Looks M h (typeOf (.ref x)) (.ref C) := by
 obtain ⟨o, vs, h1, h2, _⟩ := I
 exact h2 ▸ (W.Looks.ld h1).andThen .now
section
variable {prog : Program} {w : World} {A : Around} {E : Value → Shared → Prop} {s : Shared} {K : W.Frag} {x C : Addr}
theorem exc_class_get {tp : Value} {R : Result → Shared → Prop} (X : K.In s.heap) (I : XAt x C s.heap) (hm : W.mroIn K C (.type "object") = some true)
   (h : R (.ok (.ret (.ref C))) s) : codeAny (model prog w) A (.call (.builtin "getset_descriptor.__get__") ⟨[.builtin "object.__class__", .ref x, tp], []⟩) R s := by
 obtain ⟨hh, g, dr, t, os⟩ := s
 have L0 := I.type (M := model prog w)
 have L1 := W.looks_mroIn (M := model prog w) X hm
 refine codeAny_call_builtin W.KF.slot_gs.plain W.KF.entry_gs (W.KF.slot_gs.check _ _ _ _ _ _ _ _ W.KF.type_class (W.KF.args_gs _ _ _) ?_)
 unfold Builtin.«getset_descriptor.__get__» descrGet
 rw [W.dga_obj]
 refine wpAny_bind (wpAny_pure ?_)
 unfold descrGetter descrCheckInstance descrNameAndClass isInstance
 simp only [W.KF.owner_class]
 repeat lk
 refine ⟨Code.quiet_builtin _ (by decide +kernel), codeAny_builtin W.KF.entry_class ?_⟩
 unfold Builtin.«object.__class__» shownTypeOf
 repeat lk
 exact h
theorem exc_class_entry {tk : Tok} {Q : Fin → Shared → Prop} (c : ExcCls K C) (X : K.In s.heap) (I : XAt x C s.heap) (hq : Q (.done (.ret (.ref C))) s) :
   wpAny (model prog w) A (Builtin.«object.__getattribute__» ⟨[.ref x, .str "__class__" tk], []⟩) Q E s := by
 have hT5 : s.TypeIs (.builtin "object.__class__") "getset_descriptor" := F.typeOf_object_class
 have f5 := F.typeOf_object_class
 have f6 := F.slot_gs_get.lookup
 have f7 := F.slot_gs_set.lookup
 have L0 := I.type (M := model prog w)
 have L1 := W.looks_findIn (M := model prog w) X c.cl
 obtain ⟨h, g, d, t, os⟩ := s
 repeat (any_goals (first | assumption | with_reducible refine W.Looks.at L0 ?_ | with_reducible refine W.Looks.at L1 ?_ | wp_step))
 refine exc_class_get X I c.mo ?_
 repeat (any_goals (first | assumption | wp_step))
theorem exc_check_ga {M : Model} {nameV : Value} {Q : Unit → Shared → Prop} (c : ExcCls K C) (X : K.In s.heap) (I : XAt x C s.heap) (hq : Q () s) : wpAny M A (checkBuiltinCall "BaseException.__getattribute__" ⟨[.ref x, nameV], []⟩) Q E s := by
 have hk : builtinKind "BaseException.__getattribute__" = some .slot := by decide +kernel
 have hsplit : splitId "BaseException.__getattribute__" = some ("BaseException", "__getattribute__") := by decide +kernel
 have ha := F.args_bexc_ga (.ref x) nameV
 have L0 := I.type (M := M)
 have L1 := W.looks_mroIn (M := M) X c.mb
 obtain ⟨h, g, d, t, os⟩ := s
 simp only [checkBuiltinCall, hk, hsplit]
 refine wpAny_bind ?_
 · unfold isInstance
   repeat (first | with_reducible refine W.Looks.at L0 ?_ | with_reducible refine W.Looks.at L1 ?_ | wp_step)
   exact hq
theorem exc_class_call {tk : Tok} {R : Result → Shared → Prop} (c : ExcCls K C) (X : K.In s.heap) (I : XAt x C s.heap) (hq : R (.ok (.ret (.ref C))) s) :
   codeAny (model prog w) A (.call (.builtin "BaseException.__getattribute__") ⟨[.ref x, .str "__class__" tk], []⟩) R s :=
 codeAny_call_builtin F.attrBase_ValueError.ga.plain F.entry_bexc_ga (exc_check_ga c X I (exc_class_entry c X I hq))
theorem exc_class_by {tk : Tok} {fill expr : Bool} {Q : Value → Shared → Prop} (c : ExcCls K C) (X : K.In s.heap) (I : XAt x C s.heap) (hq : Q (.ref C) s) :
   wpAny (model prog w) A (getAttrBy (.ref x) (.str "__class__" tk) fill expr) Q E s := by
 have f3 := F.attrBase_ValueError.ga.bind (.ref x)
 have hx0 : (expr && onTheHeap (Value.builtin "BaseException.__getattribute__")) = false := by cases expr <;> rfl
 have hx2 : (Value.builtin "BaseException.__getattribute__" == Value.builtin "object.__getattribute__") = false := by decide +kernel
 have hx1 : (onTheHeap (Value.ref C) && Value.builtin "BaseException.__getattribute__" == Value.builtin "object.__getattribute__") = false := by rw [hx2]; rfl
 have L0 := I.type (M := model prog w)
 have L1 := W.looks_findIn (M := model prog w) X c.ga
 have L2 := W.looks_findIn (M := model prog w) X c.gt
 obtain ⟨h, g, d, t, os⟩ := s
 repeat (any_goals (first | assumption | with_reducible refine W.Looks.at L0 ?_ | with_reducible refine W.Looks.at L1 ?_ | with_reducible refine W.Looks.at L2 ?_ | wp_step))
 refine exc_class_call c X I ?_
 repeat (any_goals (first | assumption | wp_step))
theorem exc_class_attr {Q : Option Value → Shared → Prop} (c : ExcCls K C) (X : K.In s.heap) (I : XAt x C s.heap) (hq : Q (some (.ref C)) { s with toks := s.toks + 1 }) : wpAny (model prog w) A (getAttr? (.ref x) "__class__") Q E s := by
 obtain ⟨h, g, d, t, os⟩ := s
 unfold getAttr? getAttrBy?
 refine wpAny_bind (wpAny_mkText (wpAny_bind (wpAny_attempt (exc_class_by (s := ⟨h, g, d, t + 1, os⟩) c X I ?_))))
 exact wpAny_pure hq
theorem kitx_exc (c : ExcCls K C) : W.KitX K (.ref x) (.ref C) (XAt x C) where
 ty := fun _ _ _ I => I.type
 it := fun _ _ X _ => by
   have hcD := c.is
   unfold W.clsIn at hcD
   split at hcD
   · rename_i c' d' cd' sl' ho
     intro A' Q' E' s' k q
     unfold isType loadHead
     exact wpAny_bind (wpAny_loadPart (k _ _ (X _ _ ho)) (wpAny_pure q))
   · cases hcD
 ne := fun h tp dd its n sl X htp => by
   have hcD := c.is
   refine Bool.eq_false_iff.mpr fun q => ?_
   have e : C = tp := Value.ref.inj (beq_iff_eq.mp q)
   subst e
   unfold W.clsIn at hcD
   split at hcD
   · rename_i c' d' cd' sl' ho
     have z := (X _ _ ho).symm.trans htp
     cases z
   · cases hcD
 ca := fun X I k => exc_class_attr c X I k
end
section
variable {X : Cx} {pins : List (Addr × Obj)} {σ : St} {H : Hp} {s : Shared}
theorem call_isinstE : CallR X (.builtin "isinstance") (fun xs H Q => ∃ x C c cv b, xs = [.ref x, c] ∧ ClV c cv ∧ H x = some (xO C x) ∧ ExcCls X.K C ∧ W.kitOne X.K (.ref C) cv = some b ∧ Q (.bl b) H) := by
 intro pins s σ H xs us Q I r h
 obtain ⟨x, C, c, cv, b, rfl, hc, hx, hC, he, q⟩ := h
 cases r with
 | cons r1 r' =>
   cases r' with
   | cons r2 r'' =>
     cases r''
     obtain rfl := hc.rel r2
     cases (show _ = Value.ref x from r1)
     obtain ⟨hX, _⟩ := (show ObjOk X.prog X.w H s.heap x (xO C x) from I.hok x _ hx)
     exact W.kia_one (kitx_exc hC) I.kIn hX he (fun z => nomatch z) fun tk => ⟨.bl b, H, I.tok tk, rfl, q⟩
def Cx.loud (X : Cx) : Cx := { X with calm := false }
def offA (A : Around) : Around := { A with handled := none }
theorem Inv.loud {A : Around} {o : List Env} {P : Program} {w : World} {K : W.Frag} {mg : Str → Option Value} {base : Heap} {N : List Str} {qual : Str} {sc : Scope} {f : Addr} {cd : Value} {outer : List Env} {s0 : Shared} {H0 : Hp} {E : XK} {CX : CXT}
   (I : Inv (cxOf CX P w K mg base N qual sc f cd (offA A) outer s0 H0 E) pins σ H s) : Inv (cxOf CX P w K mg base N qual sc f cd A outer s0 H0 E).loud pins σ H s :=
 ⟨⟨I.ok.mod, I.ok.kind, I.ok.glob, I.ok.blt, I.ok.above, I.ok.inj, I.ok.has, I.ok.cab, fun z => absurd (show false = true from z) (by decide), I.ok.frames, I.ok.stk, I.ok.exf, I.ok.bs, I.ok.bsz, I.ok.noex, I.ok.exfs, I.ok.funs, I.ok.frf⟩, I.os, I.bare, I.base, I.loc, I.cell, I.free, I.freeC, I.pin, I.hok, I.len⟩
end
structure FnOkH (P : Program) (w : World) (K : W.Frag) (mg : Str → Option Value) (base : Heap) (k : Nat) (f : Addr) (fd : FuncData) (ps : List Str) (sp : Sp) : Prop where
 len : ∀ vs H Q E, sp vs H Q E → vs.length = ps.length
 run : ∀ (A : Around) (outer : List Env) (s : Shared) (H : Hp) (args : Args) (us : List Value) (vs : List V) (Q : VK) (E : XK), Room k (offA A) → Env0 P w K mg base A outer s H → BindsTo s fd args (ps.zip us) → Vals vs us → sp vs H Q E →
   codeAny (model P w) A (.call (.ref f) args) (CR CX0 outer P w H s Q E) s
section
variable {P : Program} {w : World} {K : W.Frag} {mg : Str → Option Value} {base : Heap}
theorem Fun.okH {x qual : Str} {st : Stmt} {f : Addr} {fd : FuncData} {N ps : List Str} {k : Nat} {sp : Sp} (F : Fun K x qual st f fd) (S : fSc N ps (dZ st)) (len : ∀ vs H Q E, sp vs H Q E → vs.length = ps.length)
   (hbody : ∀ (cdv : Value) (A : Around) (outer : List Env) (s : Shared) (H : Hp) (vs : List V) (Q : VK) (E : XK), sp vs H Q E →
     ∃ t, PSs (cxOf CX0 P w K mg base N qual (dZ st) f cdv A outer s H E).loud.nox (dB st) t ∧ t { nx := fun _ H' => Q .non H', rt := Q } (start N vs) H) : FnOkH P w K mg base (k + 1) f fd ps sp := by
 obtain ⟨oc, od, kV, doc, pm, an, cdv, ct, osl, rfl, lk, hcd⟩ := F.ex
 refine ⟨len, fun A outer s H args us vs Q E hr e0 hb r hsp => ?_⟩
 have hl := len _ _ _ _ hsp
 have KX : K.In s.heap := e0.mod.kin.keeps fun b o e => (e0.bs b o e).1
 have lim : s.heap.NoLimit := e0.mod.nolimit.keeps fun b o e => (e0.bs b o e).1
 have hkind : ∀ y ∈ ps.zip us, (dZ st).names.lookup y.1 = some .local ∨ ((dZ st).names.lookup y.1 = some .cell ∧ ((cellsFrom (s.heap.objs.size + 1) (dZ st).names []).lookup y.1).isSome = true) := fun ⟨n, v⟩ hy => by
   rcases S.par n (List.of_mem_zip hy).1 with q | q
   · exact .inl q
   · exact .inr ⟨q, W.cellsFrom_some _ _ _ (.inl q)⟩
 have hdep : A.depth < recursionLimit := hr.depth
 refine codeAny_call_function hdep (KX _ _ lk) rfl S.co S.gen rfl (W.codeRec_of KX hcd) (hb _ _ _ _ ?_)
 refine wpAny_newFunctionEnv_cells S.kind hkind fun env he s1 x => ?_
 subst he
 refine ⟨lim.keeps x.toInCall.keep, codeAny_func ?_⟩
 obtain ⟨t, ht, hq⟩ := hbody cdv A outer s H vs Q E hsp
 have I0 : Inv (cxOf CX0 P w K mg base N qual (dZ st) f cdv (offA A) outer s H E) [] (start N vs) H s1 := inv_start (A := offA A) S rfl ⟨e0.frames, e0.mod, e0.bs, e0.bsz, e0.funs, e0.frf, e0.hok, e0.bare⟩ hl r x
 have I := I0.loud (o := outer)
 refine wpAny_mono (ht.nox [] s1 (start N vs) H _ I hq) (fun fl s' hs => ?_) fun e s' hs => hs
 have fin : ∀ {σ' : St} {H' : Hp} {v : V} {u : Value}, Inv (cxOf CX0 P w K mg base N qual (dZ st) f cdv A outer s H E).loud [] σ' H' s' → RelV v u → Q v H' → CE outer P w H s Q u s' :=
   fun {σ' H' v u} J rv q => ⟨v, H', J.os, J.bare, J.base, J.hok, rv, q⟩
 cases fl with
 | ret u =>
   obtain ⟨v, σ', H', J, rv, q⟩ := hs
   exact fin J rv q
 | next =>
   obtain ⟨σ', H', J, q⟩ := hs
   exact fin (v := V.non) (u := Value.none) J rfl q
 | brk =>
   obtain ⟨_, _, _, q⟩ := hs
   exact False.elim q
 | cont =>
   obtain ⟨_, _, _, q⟩ := hs
   exact False.elim q
end
section
variable (P : Program) (w : World) (K : W.Frag) (mg : Str → Option Value) (base : Heap) (k : Nat)
def FnH (x : Str) (ps : List Str) (sp : Sp) : Prop := ∃ f fd, FnOkH P w K mg base k f fd ps sp ∧ mg x = some (.ref f) ∧ W.keepIn K (.ref f) = true ∧ Binds K fd ps []
end
section
variable {X : Cx} {k : Nat} {x m : Str} {C : Addr} {ps : List Str} {sp : Sp} {p pos apos : Pos} {e o : Expr} {es : List Expr} {ta : TE} {t : TA}
theorem pe_fnH (F : FnH X.prog X.w X.K X.mg X.base k x ps sp) (hr : Room k (offA X.A)) (ha : PA X (e :: es) t) (hg : Gl X x := by rfl) (hdb : (x == ("__debug__" : Str)) = false := by decide) (he : starEach (e :: es) X.env = (false, eval e X.env) :: starEach es X.env := by rfl) (hpl : (backTo pos (starEach es X.env)).any (·.1) = false := by rfl) :
   PE X (.Call (.Name x p) (e :: es) [] pos) (tCall sp [] E0 t) := by
 obtain ⟨f, fd, F, hm, hk, hb⟩ := F
 intro pins s σ H Q I h
 refine wpAny_Call_Name_kw (ld_glob I hg hm ?_ hdb)
 refine W.callWith_K (h₀ := X.base) I.ok.mod.kin hk (thn (ha pos pins s σ H _ I h) fun us s1 ⟨vs, H1, I1, r, q⟩ => ⟨I1.kIn, ?_⟩) he hpl
 have hl : (us ++ []).length = ps.length := by rw [List.append_nil, ← r.length]; simpa using F.len _ _ _ _ q
 have hb' := hb s1 us I1.kIn hl
 rw [List.append_nil] at hb'
 have q : sp (vs ++ []) H1 Q E0 := q
 rw [List.append_nil] at q
 refine wpAny_call (codeAny_mono (F.run X.A X.stack s1 H1 ⟨us, []⟩ us vs Q _ hr I1.env0 hb' r q) fun r s' hq => ?_)
 cases r with
 | error e => exact False.elim hq
 | ok fl =>
   cases fl with
   | ret u => exact I1.after hq
   | next => exact False.elim hq
   | brk => exact False.elim hq
   | cont => exact False.elim hq
end
end L2
namespace L2
open PySem PySem.Spec PyProof.Rows
section
variable {X : Cx} {E : XK} {k : Nat} {x m : Str} {ps : List Str} {sp : Sp} {p pos apos : Pos} {e o : Expr} {es : List Expr} {ta : TE} {t : TA}
def tMethUX (S : Addr → Prop) (m : Str) (sp : Sp) (E : XK) (ta : TE) (t : TA) : TE := fun σ H Q => ta σ H fun x H1 => ∃ C a dx fs, S C ∧ x = .ref a ∧ H1 a = some (.ins C dx fs) ∧ fs.lookup m = none ∧
 t σ H1 fun vs H2 => sp (x :: (vs ++ [])) H2 Q E
theorem pe_meUX {pl : Sem Bool} {S : Addr → Prop} (bd : Body X) (xe : XE X X.prog X.w E) (M : ∀ C, S C → MeX X.prog X.w X.K X.mg X.base k C m ps sp) (he : PE X o ta) (hr : Room k X.A) (ha : PA X (e :: es) t)
   (hst : starEach (e :: es) X.env = (false, eval e X.env) :: starEach es X.env := by rfl) (hpl : (backTo pos (starEach es X.env)).any (·.1) = false := by rfl)
   (ht : eval (.Call (.Attribute o m apos) (e :: es) [] pos) X.env = (do
     let ov ← eval o X.env
     standAt apos.atName
     let (f, first) ← holding [ov] (getMethod ov m pl)
     callWith pos f first (backTo pos (starEach (e :: es) X.env)) (backToKw pos (keywordEach [] X.env))) := by rfl) :
   PE X (.Call (.Attribute o m apos) (e :: es) [] pos) (tMethUX S m sp E ta t) := by
 intro pins s σ H Q I h
 refine W.methodCall_KW (pl := pl) (thn (he pins s σ H _ I h) fun u s1 ⟨x, H1, I1, rx, C, a, dx, fs, hS, ex, ea, l, q⟩ => ?_) ht
 subst ex
 obtain rfl : u = Value.ref a := rx
 obtain ⟨f, fd, F, hm, hb, c⟩ := M C hS
 refine getmeth_ok I1 ea c hm l ?_
 refine W.callWith_K (first := [.ref a]) (h₀ := X.base) I.ok.mod.kin hm.kp (thn (ha pos pins s1 σ H1 _ I1 q) fun us s2 ⟨vs, H2, I2, r, q2⟩ => ⟨I2.kIn, ?_⟩) hst hpl
 exact run_fn (us := .ref a :: us) (vs := .ref a :: vs) F hr hb .nil (passX bd xe) I2 (.cons rfl r) q2
end
section
variable {X : Cx}
def tLenSetG (K : W.Frag) (te : TE) : TE := fun σ H Q => te σ H fun x H1 => ∃ (l : Addr) (ns : List Int), x = .ref l ∧ SqL K H1 l (ns.map V.int) ∧ ns.length < 1000 ∧ Q (.int (firstMet (fun i => ns.getD i 0) ns.length).length) H1
theorem dedup_le : ∀ (ns acc : List Int), (ns.foldl step_dedup acc).length ≤ acc.length + ns.length
 | [], acc => by simp
 | n :: ns, acc => by
   rw [List.foldl_cons]
   have h := dedup_le ns (step_dedup acc n)
   have h2 : (step_dedup acc n).length ≤ acc.length + 1 := by
     unfold step_dedup
     split <;> simp
   rw [List.length_cons]
   omega
theorem firstMet_le (ns : List Int) : (firstMet (fun i => ns.getD i 0) ns.length).length ≤ ns.length := by
 unfold firstMet
 have := dedup_le ((List.range ns.length).map fun i => ns.getD i 0) []
 simpa using this
theorem pe_lensetG {e : Expr} {te : TE} {p p' pos pos' : Pos} (hc : X.calm = true) (hg : Gl X "len") (hm : X.mg "len" = none) (hg' : Gl X "set") (hm' : X.mg "set" = none) (he : PE X e te)
   (hs : starEach [e] X.env = (false, eval e X.env) :: starEach [] X.env := by rfl)
   (hs2 : starEach [Expr.Call (.Name "set" p') [e] [] pos'] X.env = (false, eval (.Call (.Name "set" p') [e] [] pos') X.env) :: starEach [] X.env := by rfl)
   (hv : bootBuiltins "set" = some (.type "set") := by decide +kernel) :
   PE X (.Call (.Name "len" p) [.Call (.Name "set" p') [e] [] pos'] [] pos) (tLenSetG X.K te) := by
 intro pins s σ H Q I h
 refine wpAny_Call_Name_kw (ld_blt I hg hm PySem.boot_len ?_)
 refine PyProof.Rows.callWith_builtin1 ?_ hs2
 rw [hs2]
 show wpAny _ _ (spliced ((false, eval (.Call (.Name "set" p') [e] [] pos') X.env) :: backTo pos (starEach [] X.env))) _ _ s
 refine Calls.spliced_cons (wpAny_Call_Name_kw (ld_blt I hg' hm' hv ?_))
 refine PyProof.Rows.callWith_type1 ?_ hs
 rw [hs]
 show wpAny _ _ (spliced ((false, eval e X.env) :: backTo pos' (starEach [] X.env))) _ _ s
 refine Calls.spliced_cons (thn (he pins s σ H _ I h) fun u s1 ⟨x, H1, I1, r1, l, ns, e1, hl, hlt, q⟩ => Calls.spliced_nil ?_)
 subst e1
 cases r1
 obtain ⟨its, rv, pl, _⟩ := I1.list hl
 have hi := intsAre_of rv
 have hlen := rv.length
 rw [List.length_map] at hlen
 refine PySem.call_set_list (items := its.toArray) (ns := ns) (I1.ok.hd hc) pl.isList (by simpa using hi) (by rw [List.size_toArray]; unfold scanBound; omega) fun h' tk hS hk => ?_
 have I2 : Inv X pins σ H1 { s1 with heap := h', toks := tk } := I1.kept (t' := tk) fun b o e => hk b o (Heap.lt_size e) e
 have hsz : its.toArray.size = ns.length := by rw [List.size_toArray, hlen]
 have hle := firstMet_le ns
 rw [hsz] at hS
 obtain ⟨o, es, ep, t, ho, hex, hd, _, _, _, hf, hn⟩ := hS
 refine Calls.spliced_nil ?_
 refine call_len_set ho hex hd hf (by omega) ?_
 rw [hn]
 exact ⟨.int _, H1, I2.tok _, ⟨_, rfl⟩, q⟩
end
end L2
namespace L2
open PySem PySem.Spec PyProof.Rows
def Fnal (K : W.Frag) (H : Hp) (f : Addr) : Prop := W.keepIn K (.ref f) = true ∨ ∃ φ, H f = some (.ext φ) ∧ ∀ h, φ h → W.FnAt f h
def Callee (P : Program) (w : World) (K : W.Frag) (mg : Str → Option Value) (base : Heap) (k : Nat) (f : Addr) (vs : List V) (H : Hp) (Q : VK) (E : XK) : Prop :=
 ∀ (A : Around) (outer : List Env) (s : Shared) (us : List Value), Room k A → Env0 P w K mg base A outer s H → Vals vs us → codeAny (model P w) A (.call (.ref f) ⟨us, []⟩) (CR (CX1 P w) outer P w H s Q E) s
theorem Callee.of {P : Program} {w : World} {K : W.Frag} {mg : Str → Option Value} {base : Heap} {k : Nat} {f : Addr} {fd : FuncData} {ps : List Str} {sp : Sp} {vs : List V} {H : Hp} {Q : VK} {E : XK} (F : FnOk P w K mg base (CX1 P w) k f fd ps sp) (hb : Binds K fd ps []) (h : sp vs H Q E) : Callee P w K mg base k f vs H Q E := by
 intro A outer s us hr e0 hv
 have hl : (us ++ []).length = ps.length := by rw [List.append_nil, ← hv.length]; exact F.len _ _ _ _ h
 have KX : K.In s.heap := e0.mod.kin.keeps fun b o e => (e0.bs b o e).1
 have hb' := hb s us KX hl
 rw [List.append_nil] at hb'
 exact F.run A outer s H ⟨us, []⟩ us vs Q E hr e0 hb' hv h
section
variable {X : Cx} {k : Nat} {x m : Str} {p pos apos : Pos} {e o : Expr} {es : List Expr} {t : TA}
theorem px_ask {i : Nat} (hN : X.N[i]? = some x) (hv : Vis X.env.scope x) (hr : Room k X.A) (ha : ∀ xe, PA (X.catch xe) (e :: es) t) (hd : (x == ("__debug__" : Str)) = false := by decide) (hcd : (x == ("__classdict__" : Str)) = false := by decide)
   (he : starEach (e :: es) X.env = (false, eval e X.env) :: starEach es X.env := by rfl) (hpl : (backTo pos (starEach es X.env)).any (·.1) = false := by rfl) :
   PX X (.Call (.Name x p) (e :: es) [] pos) (fun σ H Q E => ∃ f, σ[i]? = some (some (.ref f)) ∧ t σ H fun vs H1 => Fnal X.K H1 f ∧ Callee X.prog X.w X.K X.mg X.base k f vs H1 Q E) := by
 intro pins s σ H Q E I h
 obtain ⟨f, hf, h⟩ := h
 refine wpAny_Call_Name_kw ?_
 refine wpAny_mono (pe_var (X := X.catch (XP X pins σ E)) (i := i) hN hv hd hcd pins s σ H (fun v H1 => v = .ref f ∧ H1 = H) I.catch ⟨_, hf, rfl, rfl⟩) (fun u s1 h1 => ?_) fun _ _ z => z
 obtain ⟨v, H1, I1, rv, e1, e2⟩ := h1
 subst e1 e2
 cases rv
 rw [he]
 refine W.callWith_of (P := fun h => ∃ k, (k = Keeper.frame ∨ k = Keeper.machine ∨ k = Keeper.boundFrame) ∧ W.Looks (model X.prog X.w) h (keeperOf (.ref f)) k) (by show ((false || (backTo pos (starEach es X.env)).any (·.1)) || false) = false; rw [hpl]; rfl) (fun _ z => z) ?_
 have h2 := ha (XP X pins σ E) pos pins s1 σ H1 _ I1 h
 have h2 : wpAny (model X.prog X.w) X.A (spliced (backTo pos (starEach (e :: es) X.env))) _ (XP X pins σ E) s1 := h2
 rw [he] at h2
 refine Calls.evalArgs_plain (wpAny_mono h2 (fun us s2 hq => ?_) fun _ _ z => z)
 obtain ⟨vs, H2, I2, r, fn, q⟩ := hq
 refine ⟨?_, ?_⟩
 · rcases fn with hk | ⟨φ, e, hφ⟩
   · exact W.keeps_K hk _ I2.uncatch.kIn
   · obtain ⟨hX, _⟩ := (show ObjOk X.prog X.w H2 s2.heap f (.ext φ) from I2.hok f _ e)
     exact W.keeps_F _ (hφ _ hX)
 · have I3 := I2.uncatch
   refine wpAny_call (codeAny_mono (q X.A X.stack s2 us hr I3.env0 r) fun r s' hq => ?_)
   cases r with
   | error e =>
     obtain ⟨x, C, H', B, o, rfl, os, bare, un, hok, hx, fl, cH, c, he⟩ := hq
     exact ⟨x, C, H', B, o, H2, s2, rfl, I3.call' os un hok bare (fun b z => absurd z (by simp)), hx, fl, cH, I3, c, he⟩
   | ok fl =>
     cases fl with
     | ret u => exact I3.after hq
     | next => exact False.elim hq
     | brk => exact False.elim hq
     | cont => exact False.elim hq
end
end L2
namespace L2
open PySem PySem.Spec PyProof.Rows PySem.W
def lamO (f : Addr) (qual : Str) (ar : Arguments) (body : Expr) (sc : Scope) (c' : Addr) : HO := .ext fun h => ∃ pm ctv, h.get? f = some (kla_obj "<lambda>" qual ar body sc [] pm c' ctv)
def codO (c' : Addr) (qual : Str) : HO := .ext fun h => h.CodeRec (.ref c') qual
def BMain (mg : Str → Option Value) (h : Heap) : Prop := ∃ bm ob, mg "__builtins__" = some (.ref bm) ∧ bm ≠ builtinsNs ∧ h.get? bm = some ob ∧ ob.cls = .type "module" ∧ ob.dict = some builtinsNs ∧ ob.data = .plain
section
variable {X : Cx} {pins : List (Addr × Obj)} {σ : St} {H : Hp} {s : Shared}
theorem Inv.lam {P c' : Addr} {ps : Array Value} {more : Array Value} {h' : Heap} {t' : Nat} {qual : Str} {oF : Obj} {φ : HO} (I : Inv X pins σ H s) (hP : H P = some (.tbl ps)) (hx : Heap.ExtBut P s.heap h') (hP' : h'.get? P = some (tabObj (ps ++ more))) (hge : s.heap.objs.size ≤ c') (hlt : c' < h'.objs.size) (hrec : h'.CodeRec (.ref c') qual)
   (hφ : ∀ H', ObjOk X.prog X.w H' (h'.push oF) h'.objs.size φ) :
   Inv X pins σ (upd (upd (upd H P (.tbl (ps ++ more))) c' (codO c' qual)) h'.objs.size φ) { s with heap := h'.push oF, toks := t' } := by
 have nc : H c' = none := I.hok.fresh hge
 have hsz : s.heap.objs.size ≤ h'.objs.size := Nat.le_of_lt (Nat.lt_of_le_of_lt hge hlt)
 have nf : H h'.objs.size = none := I.hok.fresh hsz
 have cP : c' ≠ P := fun z => by rw [z, hP] at nc; cases nc
 have fP : h'.objs.size ≠ P := fun z => by rw [z, hP] at nf; cases nf
 have fc : h'.objs.size ≠ c' := Nat.ne_of_gt hlt
 have up : ∀ b, b ≠ P → b ≠ c' → b ≠ h'.objs.size → (upd (upd (upd H P (.tbl (ps ++ more))) c' (codO c' qual)) h'.objs.size φ) b = H b := fun b h1 h2 h3 => by rw [uN h3, uN h2, uN h1]
 have old : ∀ b o, b ≠ P → s.heap.get? b = some o → (h'.push oF).get? b = some o := fun b o n e => Heap.get?_push_of_some _ (hx b o n e)
 have neP : ∀ b, H b = none → b ≠ P := fun b n z => by rw [z, hP] at n; cases n
 have lt : ∀ b o, s.heap.get? b = some o → b ≠ c' ∧ b ≠ h'.objs.size := fun b o e => ⟨Nat.ne_of_lt (Nat.lt_of_lt_of_le (Heap.lt_size e) hge), Nat.ne_of_lt (Nat.lt_of_lt_of_le (Heap.lt_size e) hsz)⟩
 have tr : ∀ b u, H b = some u → b ≠ c' ∧ b ≠ h'.objs.size := fun b u e => ⟨nN e nc, nN e nf⟩
 refine I.step (g' := s.gens) (d' := s.drawn) (t' := t') (ch := []) (fun b hb => absurd hb (by simp)) (fun b o _ _ _ e n => old b o (neP b n) e) (fun b o _ _ _ e n => ⟨o.slots, old b o (neP b n) e⟩) (fun b o _ e n => ?_) (fun b o _ e => ?_) (fun b xs e => ?_) (fun b o u e => ?_) (fun b qs e => ?_) (fun m hn => ?_) (fun b u e => ?_) I.bare
 · rw [up b (neP b n) (lt b o e).1 (lt b o e).2]; exact n
 · by_cases hb : b = P
   · subst hb; exact ⟨_, Heap.get?_push_of_some _ hP'⟩
   · exact ⟨o, old b o hb e⟩
 · have hb : b ≠ P := fun z => by rw [z, hP] at e; cases e
   rw [up b hb (tr b _ e).1 (tr b _ e).2]; exact e
 · have hb : b ≠ P := fun z => by rw [z, hP] at e; cases e
   rw [up b hb (tr b _ e).1 (tr b _ e).2]; exact e
 · by_cases hb : b = P
   · subst hb
     rw [hP] at e
     cases e
     exact ⟨more, by rw [uN (Ne.symm fP), uN (Ne.symm cP), uS]⟩
   · exact ⟨#[], by rw [up b hb (tr b _ e).1 (tr b _ e).2, e]; simp⟩
 · exact (hn.extBut hx (neP _ I.free)).push _
 · by_cases h1 : b = h'.objs.size
   · subst h1
     rw [uS] at e
     cases e
     exact hφ _
   · rw [uN h1] at e
     by_cases h2 : b = c'
     · subst h2
       rw [uS] at e
       cases e
       obtain ⟨c, oc, vs, t, e1, e2, e3, e4⟩ := hrec
       cases e1
       refine ⟨⟨b, oc, vs, t, rfl, Heap.get?_push_of_some _ e2, e3, e4⟩, ⟨oc, Heap.get?_push_of_some _ e2⟩, fun h1 h2 ⟨c, o, ws, t, q1, q2, q3, q4⟩ st => ?_⟩
       cases q1
       exact ⟨b, o, ws, t, rfl, st _ q2, q3, q4⟩
     · rw [uN h2] at e
       by_cases h3 : b = P
       · subst h3
         rw [uS] at e
         cases e
         exact Heap.get?_push_of_some _ hP'
       · rw [uN h3] at e
         refine (I.hok b u e).stay (fun c w hc q => old c w (fun z => ?_) q) (fun c q => ?_) fun c xs q => ?_
         · rcases hc with hc | hc
           · exact h3 (hc ▸ z)
           · rw [z, hP] at hc; cases hc
         · have hb : c ≠ P := fun z => by rw [z, hP] at q; cases q
           rw [up c hb (tr c _ q).1 (tr c _ q).2]; exact q
         · have hb : c ≠ P := fun z => by rw [z, hP] at q; cases q
           rw [up c hb (tr c _ q).1 (tr c _ q).2]; exact q
theorem Inv.lam1 {h' : Heap} {t' : Nat} {oF : Obj} {φ : HO} (I : Inv X pins σ H s) (hk : ∀ b o, s.heap.get? b = some o → h'.get? b = some o) (hsz : s.heap.objs.size ≤ h'.objs.size) (hφ : ∀ H', ObjOk X.prog X.w H' (h'.push oF) h'.objs.size φ) :
   Inv X pins σ (upd H h'.objs.size φ) { s with heap := h'.push oF, toks := t' } := by
 have nf : H h'.objs.size = none := I.hok.fresh hsz
 have up : ∀ b, b ≠ h'.objs.size → (upd H h'.objs.size φ) b = H b := fun b h3 => by rw [uN h3]
 have old : ∀ b o, s.heap.get? b = some o → (h'.push oF).get? b = some o := fun b o e => Heap.get?_push_of_some _ (hk b o e)
 have lt : ∀ b o, s.heap.get? b = some o → b ≠ h'.objs.size := fun b o e => Nat.ne_of_lt (Nat.lt_of_lt_of_le (Heap.lt_size e) hsz)
 have tr : ∀ b u, H b = some u → b ≠ h'.objs.size := fun b u e => nN e nf
 refine I.step (g' := s.gens) (d' := s.drawn) (t' := t') (ch := []) (fun b hb => absurd hb (by simp)) (fun b o _ _ _ e n => old b o e) (fun b o _ _ _ e n => ⟨o.slots, old b o e⟩) (fun b o _ e n => ?_) (fun b o _ e => ⟨o, old b o e⟩) (fun b xs e => ?_) (fun b o u e => ?_) (fun b qs e => ?_) (fun m hn => (hn.keeps hk).push _) (fun b u e => ?_) I.bare
 · rw [up b (lt b o e)]; exact n
 · rw [up b (tr b _ e)]; exact e
 · rw [up b (tr b _ e)]; exact e
 · exact ⟨#[], by rw [up b (tr b _ e), e]; simp⟩
 · by_cases h1 : b = h'.objs.size
   · subst h1
     rw [uS] at e
     cases e
     exact hφ _
   · rw [uN h1] at e
     refine (I.hok b u e).stay (fun c w _ q => old c w q) (fun c q => ?_) fun c xs q => ?_
     · rw [up c (tr c _ q)]; exact q
     · rw [up c (tr c _ q)]; exact q
theorem lam_ok {h : Heap} {qual : Str} {ar : Arguments} {body : Expr} {sc : Scope} {pm ctv : Value} {c' : Addr} {P : Program} {w : World} (H' : Hp) : ObjOk P w H' (h.push (kla_obj "<lambda>" qual ar body sc [] pm c' ctv)) h.objs.size (lamO h.objs.size qual ar body sc c') :=
 ⟨⟨pm, ctv, Heap.get?_push_size _ rfl⟩, ⟨_, Heap.get?_push_size _ rfl⟩, fun h1 h2 ⟨pm, ctv, e⟩ st => ⟨pm, ctv, st _ e⟩⟩
def tLam (P : Addr) (qual : Str) (ar : Arguments) (body : Expr) (sc : Scope) (pos : Pos) : TE := fun _ H Q => ∃ ps, H P = some (.tbl ps) ∧ TriplesOk ps.toList ∧
 ((codeAmong pos ps.toList = none ∧ ∀ c' f, H c' = none → H f = none → f ≠ c' → f ≠ P → c' ≠ P → Q (.ref f) (upd (upd (upd H P (.tbl (ps ++ #[rawInt pos.line, rawInt pos.col, .ref c']))) c' (codO c' qual)) f (lamO f qual ar body sc c'))) ∨
  ∃ c', codeAmong pos ps.toList = some (.ref c') ∧ ∀ f, H f = none → Q (.ref f) (upd H f (lamO f qual ar body sc c')))
theorem pe_lam {ar : Arguments} {body : Expr} {sc : Scope} {pos : Pos} {c P : Addr} {qual : Str} (hcode : X.env.code = .ref c) (hC : CodeHd X.base c P) (hgl : X.env.globals = mainGlobals) (hq : X.env.qual ++ "<lambda>" = qual) (hdef : defaultsOf ar X.env = ([], [])) (hcl : closureFor sc X.env = pure []) (bm : BMain X.mg X.base) :
   PE X (.Lambda ar body sc pos) (tLam P qual ar body sc pos) := by
 intro pins s σ H Q I h
 obtain ⟨ps, hP, ht, h⟩ := h
 refine kla_eval hdef ?_
 rw [hq]
 have keep : ∀ b o, X.base.get? b = some o → s.heap.get? b = some o := I.bk
 have hgs : s.heap.Ns mainGlobals X.mg := I.ok.mod.glob.keeps keep
 have hPs : s.heap.get? P = some (tabObj ps) := I.hok P _ hP
 obtain ⟨b, ob, b1, b2, b3, b4, b5, b6⟩ := bm
 have hgP : mainGlobals ≠ P := fun q => by
   obtain ⟨o, es, ep, e, hd, _⟩ := hgs
   rw [q, hPs] at e; cases e; cases hd
 have hbP : b ≠ P := fun q => by
   have e := keep _ _ b3
   rw [q, hPs] at e; cases e; cases b4
 have hbG : b ≠ mainGlobals := fun q => by
   obtain ⟨o, es, ep, e, hd, _⟩ := I.ok.mod.glob
   rw [q, e] at b3; cases b3; rw [hd] at b6; cases b6
 have hBA : s.heap.BuiltinsAt X.mg P := ⟨b, ob, b1, b2, hbG, hbP, keep _ _ b3, b4, b5, b6⟩
 rcases h with ⟨hnf, k⟩ | ⟨c', hf, k⟩
 · refine kla_makeFunction hcl hgl hgs hcode (hC.keeps keep) hPs ht hnf hgP hBA fun c' ctv h' tk hx hge hlt hrec htb => ?_
   have nc : H c' = none := I.hok.fresh hge
   have nf : H h'.objs.size = none := I.hok.fresh (Nat.le_of_lt (Nat.lt_of_le_of_lt hge hlt))
   refine ⟨.ref h'.objs.size, _, I.lam (t' := tk) hP hx htb hge hlt hrec lam_ok, rfl, k c' h'.objs.size nc nf (Nat.ne_of_gt hlt) (fun z => by rw [z, hP] at nf; cases nf) fun z => by rw [z, hP] at nc; cases nc⟩
 · refine kla_makeFunctionHit hcl hgl hgs hcode (hC.keeps keep) hPs ht hf hBA fun ctv h' tk hk hsz => ?_
   exact ⟨.ref h'.objs.size, _, I.lam1 (t' := tk) hk hsz lam_ok, rfl, k _ (I.hok.fresh hsz)⟩
end
section
variable {P : Program} {w : World} {K : Frag} {mg : Str → Option Value} {base : Heap}
theorem lam_of {k : Nat} {f c' : Addr} {qual : Str} {ar : Arguments} {body : Expr} {sc : Scope} {N ps : List Str} {vs : List V} {H : Hp} {Q : VK} {E : XK} (S : fSc N ps sc) (hf : H f = some (lamO f qual ar body sc c')) (hc : H c' = some (codO c' qual)) (hl : vs.length = ps.length)
   (hb : ∀ (pm ctv : Value) (us : List Value), us.length = ps.length → bindArgs (kla_fn "<lambda>" qual ar body sc [] pm (.ref c') ctv) ⟨us, []⟩ = pure (ps.zip us))
   (hbody : ∀ (A : Around) (outer : List Env) (s : Shared), Room k (A.deeper (envOfC qual sc s.heap.objs.size f (.ref c'))) → ∃ t, PE (cxX P w K mg base N qual sc f (.ref c') A outer s H E) body t ∧ t (start N vs) H Q) : Callee P w K mg base (k + 1) f vs H Q E := by
 intro A outer s us hr e0 r
 obtain ⟨⟨pm, ctv, ho⟩, _⟩ := (show ObjOk P w H s.heap f (lamO f qual ar body sc c') from e0.hok f _ hf)
 obtain ⟨hrec, _⟩ := (show ObjOk P w H s.heap c' (codO c' qual) from e0.hok c' _ hc)
 have hlu : us.length = ps.length := by rw [← r.length]; exact hl
 have lim : s.heap.NoLimit := e0.mod.nolimit.keeps fun b o e => (e0.bs b o e).1
 have hkind : ∀ y ∈ ps.zip us, sc.names.lookup y.1 = some .local ∨ (sc.names.lookup y.1 = some .cell ∧ ((cellsFrom (s.heap.objs.size + 1) sc.names []).lookup y.1).isSome = true) := fun ⟨n, v⟩ hy => by
   rcases S.par n (List.of_mem_zip hy).1 with q | q
   · exact .inl q
   · exact .inr ⟨q, W.cellsFrom_some _ _ _ (.inl q)⟩
 refine kla_callFunE hr.depth ho rfl S.co S.gen rfl hrec ?_
 rw [hb pm ctv us hlu]
 refine wpAny_pure ?_
 refine wpAny_newFunctionEnv_cells S.kind hkind fun env he s1 x => ?_
 subst he
 refine ⟨lim.keeps x.toInCall.keep, kla_codeExpr ?_⟩
 obtain ⟨t, ht, hq⟩ := hbody A outer s (hr.deeper _)
 have I : Inv (cxX P w K mg base N qual sc f (.ref c') A outer s H E) [] (start N vs) H s1 := inv_start S hr.hd e0 hl r x
 refine wpAny_mono (ht [] s1 (start N vs) H _ I hq) (fun v s' hs => ?_) fun e s' hs => hs
 obtain ⟨v', H', J, rv, q⟩ := hs
 exact ⟨v', H', J.os, J.bare, J.base, J.hok, rv, q⟩
theorem lam_fnal {K : Frag} {H : Hp} {f c' : Addr} {qual : Str} {ar : Arguments} {body : Expr} {sc : Scope} (hf : H f = some (lamO f qual ar body sc c')) : Fnal K H f := .inr ⟨_, hf, fun h ⟨_, _, e⟩ => ⟨_, _, _, _, e⟩⟩
end
end L2
namespace L2
open PySem PySem.Spec PyProof.Rows PySem.W
def topH (P1 P2 a : Addr) (o : Option HO) : Hp := fun b => if b = P1 then some (.tbl #[]) else if b = P2 then some (.tbl #[]) else if b = a then o else none
theorem law_callT {P : Program} {w : World} {K : W.Frag} {mg mb : Str → Option Value} {CX : CXT} {k : Nat} {fa a P1 P2 c1 c2 : Addr} {fd : FuncData} {x : Str} {sp : Sp} {s₁ : Shared} {vs : List Value} {ns : List Int}
   (KX : K.In s₁.heap) (hns : s₁.heap.Ns mainGlobals mg) (hb : s₁.heap.Ns builtinsNs mb) (hbb : ∀ x : Str, x ≠ "__name__" → mb x = bootBuiltins x) (hlim : s₁.heap.NoLimit) (hbm : BMain mg s₁.heap) (hg : s₁.gens = #[])
   (ha : s₁.heap.get? a = some { cls := .type "list", data := .seq vs.toArray }) (hi : IntsAre vs ns) (hl : ns.length ≤ sizeLine) (hr : Room k callerA)
   (h12 : P1 ≠ P2) (hP1 : s₁.heap.get? P1 = some (tabObj #[])) (hP2 : s₁.heap.get? P2 = some (tabObj #[])) (k1 : K.lookup P1 = none) (k2 : K.lookup P2 = none) (hC1 : CodeHd s₁.heap c1 P1) (hC2 : CodeHd s₁.heap c2 P2)
   (F : ∀ base : Heap, K.In base → base.Ns mainGlobals mg → BMain mg base → FnOk P w K mg base CX k fa fd [x] sp) (hbind : ∀ (s : Shared) (u : Value), BindsTo s fd ⟨[u], []⟩ [(x, u)])
   (hsp : ∀ H : Hp, H P1 = some (.tbl #[]) → H P2 = some (.tbl #[]) → SqL K H a (ns.map V.int) → sp [.ref a] H (fun v _ => v = .bl true) fun _ _ _ => False)
   (hCX : ∀ H e s', CX [] H s₁ (fun _ _ _ => False) e s' → False) :
   codeAny (model P w) callerA (.call (.ref fa) ⟨[.ref a], []⟩) (fun r s' => r = .ok (.ret (.bool true)) ∧ OldK s₁.heap s'.heap ∧ s'.os = s₁.os ∧ AllBare s'.gens) s₁ := by
 have rv := vals_ints hi
 have lenV := hi.length
 have a1 : a ≠ P1 := fun z => by rw [z, hP1] at ha; cases ha
 have a2 : a ≠ P2 := fun z => by rw [z, hP2] at ha; cases ha
 have core : ∀ o : Option HO, (o = none ∨ (K.lookup a = none ∧ o = some (.frz { cls := .type "list", data := .seq vs.toArray } (.lst (ns.map V.int))))) → SqL K (topH P1 P2 a o) a (ns.map V.int) →
     codeAny (model P w) callerA (.call (.ref fa) ⟨[.ref a], []⟩) (fun r s' => r = .ok (.ret (.bool true)) ∧ OldK s₁.heap s'.heap ∧ s'.os = s₁.os ∧ AllBare s'.gens) s₁ := by
   intro o ho hS
   have t1 : topH P1 P2 a o P1 = some (.tbl #[]) := if_pos rfl
   have t2 : topH P1 P2 a o P2 = some (.tbl #[]) := by unfold topH; rw [if_neg (Ne.symm h12), if_pos rfl]
   have ta : topH P1 P2 a o a = o := by unfold topH; rw [if_neg a1, if_neg a2, if_pos rfl]
   have tn : ∀ b, b ≠ P1 → b ≠ P2 → b ≠ a → topH P1 P2 a o b = none := fun b n1 n2 n3 => by unfold topH; rw [if_neg n1, if_neg n2, if_neg n3]
   have hok : HOk P w (topH P1 P2 a o) s₁.heap := fun b u e => by
     by_cases n1 : b = P1
     · subst n1; rw [t1] at e; cases e; exact hP1
     · by_cases n2 : b = P2
       · subst n2; rw [t2] at e; cases e; exact hP2
       · by_cases n3 : b = a
         · subst n3
           rw [ta] at e
           rcases ho with rfl | ⟨_, rfl⟩
           · cases e
           · cases e
             exact ⟨ha, by rw [List.length_map]; exact hl, vs, _, rv, ha⟩
         · rw [tn b n1 n2 n3] at e; cases e
   generalize hH : topH P1 P2 a o = H at *
   have base_of : ∀ {b : Addr} {o : Obj}, s₁.heap.get? b = some o → H b = none → (hidT s₁.heap H).get? b = some o := fun e n => hidT_get e n
   have noD : ∀ {b : Addr} {o : Obj}, s₁.heap.get? b = some o → o ≠ tabObj #[] → o ≠ { cls := .type "list", data := .seq vs.toArray } → H b = none := fun {b ob} e d1 d2 =>
     tn b (fun z => by rw [z, hP1] at e; cases e; exact d1 rfl) (fun z => by rw [z, hP2] at e; cases e; exact d1 rfl) (fun z => by rw [z, ha] at e; cases e; exact d2 rfl)
   have nsK : ∀ {b : Addr} {m : Str → Option Value}, s₁.heap.Ns b m → (hidT s₁.heap H).Ns b m := fun {b m} ⟨o, es, ep, e, d, r⟩ => ⟨o, es, ep, base_of e (noD e (fun z => by rw [z] at d; cases d) (fun z => by rw [z] at d; cases d)), d, r⟩
   have hKb : K.In (hidT s₁.heap H) := fun b ob e => base_of (KX b ob e) (by
     by_cases n1 : b = P1
     · rw [n1, k1] at e; cases e
     · by_cases n2 : b = P2
       · rw [n2, k2] at e; cases e
       · by_cases n3 : b = a
         · subst n3
           rcases ho with rfl | ⟨hk, _⟩
           · exact ta
           · rw [hk] at e; cases e
         · exact tn b n1 n2 n3)
   have hM : Mod K mg (hidT s₁.heap H) := ⟨hKb, nsK hns, ⟨mb, nsK hb, hbb⟩, let ⟨mc, h1, h2⟩ := hlim; ⟨mc, nsK h1, h2⟩⟩
   have hB : BMain mg (hidT s₁.heap H) := by
     obtain ⟨bm, ob, b1, b2, b3, b4, b5, b6⟩ := hbm
     exact ⟨bm, ob, b1, b2, base_of b3 (noD b3 (fun z => by rw [z] at b4; cases b4) (fun z => by rw [z] at b4; exact absurd (Value.type.inj b4) (by decide))), b4, b5, b6⟩
   have e0 : Env0 P w K mg (hidT s₁.heap H) callerA [] s₁ H := ⟨rfl, hM, fun b o e => of_hidT e, Nat.le_of_eq (hidT_size _ _), trivial, fun b hb => absurd (show b ∈ ([] : List Addr) from hb) (by simp), hok, .of_eq hg⟩
   refine codeAny_mono ((F _ hKb (nsK hns) hB).run callerA [] s₁ H ⟨[.ref a], []⟩ [.ref a] [.ref a] _ _ hr e0 (hbind s₁ (.ref a)) (.cons rfl .nil) (hsp H t1 t2 hS)) fun r s' h => ?_
   cases r with
   | error e => exact (hCX H e s' h).elim
   | ok fl =>
     cases fl with
     | next => exact False.elim h
     | brk => exact False.elim h
     | cont => exact False.elim h
     | ret u =>
       obtain ⟨v, H', os, bare, un, hok', r', q⟩ := h
       have q' : v = .bl true := q
       subst q'
       obtain rfl : u = Value.bool true := r'
       have keepN : ∀ b ob, s₁.heap.get? b = some ob → H b = none → s'.heap.get? b = some ob := fun b ob e n => un.keep b ob e n (by intro z; exact absurd (show b ∈ ([] : List Addr) from z) (by simp)) (by simp)
       have grow : ∀ {p c : Addr}, H p = some (.tbl #[]) → CodeHd s₁.heap c p → s₁.heap.get? p = some (tabObj #[]) → ∀ ob, s₁.heap.get? p = some ob → asItWas s₁.heap s'.heap p ob ∧ ∃ o', s'.heap.get? p = some o' := fun {p c} hp hC hp1 ob e => by
         rw [hp1] at e
         cases e
         obtain ⟨more, z⟩ := un.tbls p _ hp
         have z2 := hok' p _ z
         obtain ⟨oc, ws, _, _, _, _, _, _, _, e1, e2, e3, e4, _⟩ := hC
         exact ⟨.inr (.inl ⟨⟨c, oc, ws, e1, e2, e3, e4⟩, rfl, #[], more, rfl, z2⟩), _, z2⟩
       have both : ∀ b ob, s₁.heap.get? b = some ob → asItWas s₁.heap s'.heap b ob ∧ ∃ o', s'.heap.get? b = some o' := fun b ob e => by
         by_cases n1 : b = P1
         · subst n1; exact grow t1 hC1 hP1 ob e
         · by_cases n2 : b = P2
           · subst n2; exact grow t2 hC2 hP2 ob e
           · by_cases n3 : b = a
             · subst n3
               rcases ho with rfl | ⟨_, rfl⟩
               · have := keepN b ob e ta; exact ⟨.inl this, _, this⟩
               · have z2 := un.frzs b _ _ ta
                 obtain ⟨e2, _⟩ := hok' b _ z2
                 rw [ha] at e; cases e
                 exact ⟨.inl e2, _, e2⟩
             · have := keepN b ob e (tn b n1 n2 n3); exact ⟨.inl this, _, this⟩
       exact ⟨rfl, ⟨fun b ob e => (both b ob e).1, fun b ob e => (both b ob e).2⟩, os, bare⟩
 cases hk : K.lookup a with
 | some o =>
   have e := KX a o hk
   rw [ha] at e
   cases e
   exact core none (.inl rfl) (.inr ⟨_, vs.toArray, _, hk, rfl, rfl, rfl, by rw [List.size_toArray, lenV]; exact hl, by simpa using rv⟩)
 | none => exact core _ (.inr ⟨hk, rfl⟩) (.inl (.inr ⟨{ cls := .type "list", data := .seq vs.toArray }, by unfold topH; rw [if_neg a1, if_neg a2, if_pos rfl]⟩))
theorem walk_ofT {l : W.OpenLaw} {n k : Nat} {q : Program} {loose : List Str} {XP : (Str → Option Value) → Heap → Prop} {YP : World → Heap → Prop} {d : DefRec} {K : Params → W.Frag} {CX : World → CXT} {sp : World → Sp} {x : Str} {P1 P2 c1 c2 : Addr}
   (hn : l.most = some n) (hn2 : n ≤ sizeLine) (hdf : d.params.defaults = []) (hr : Room k callerA) (h12 : P1 ≠ P2)
   (hY : ∀ (w : World) (h : Heap), YP w h → (K w.params).In h ∧ h.get? P1 = some (tabObj #[]) ∧ h.get? P2 = some (tabObj #[]) ∧ CodeHd h c1 P1 ∧ CodeHd h c2 P2 ∧ (K w.params).lookup P1 = none ∧ (K w.params).lookup P2 = none)
   (F : ∀ (w : World) (mg : Str → Option Value) (fa : Addr) (h : Heap), (K w.params).In h → h.Ns mainGlobals mg → mg d.name = some (.ref fa) →
     ∃ fd : FuncData, (∀ (s : Shared) (u : Value), BindsTo s fd ⟨[u], []⟩ [(x, u)]) ∧
       ∀ base : Heap, (K w.params).In base → base.Ns mainGlobals mg → BMain mg base → FnOk l.prog w (K w.params) mg base (CX w) k fa fd [x] (sp w))
   (hsp : ∀ (w : World) (H : Hp) (a : Addr) (ns : List Int), ns.length ≤ n → H P1 = some (.tbl #[]) → H P2 = some (.tbl #[]) → SqL (K w.params) H a (ns.map V.int) → sp w [.ref a] H (fun v _ => v = .bl true) fun _ _ _ => False)
   (hCX : ∀ (w : World) (H : Hp) (s : Shared) (e : Value) (s' : Shared), CX w [] H s (fun _ _ _ => False) e s' → False) :
   W.WalkO q loose XP YP l.row.toRowW d [] (fun f vs => PySem.call f vs) := by
 refine Att.attach_call hn hdf fun w s₀ s₁ mg mb fa o pm cd doc a vs ns G Y ho hd hcd hmg hobj hints hlen hg => ?_
 obtain ⟨KX, p1, p2, q1, q2, k1, k2⟩ := hY w _ Y
 obtain ⟨fd, hb, hF⟩ := F w mg fa _ KX G.T.g hmg
 exact law_callT KX G.T.g G.T.b G.T.builtins G.T.nolimit G.T.bmain hg hobj hints (Nat.le_trans hlen hn2) hr h12 p1 p2 k1 k2 q1 q2 hF hb (fun H h1 h2 hS => hsp w H a ns hlen h1 h2 hS) fun H e s' => hCX w H s₁ e s'
end L2
namespace J
inductive Mv where
 | pour (a b : Nat) | fill (a : Nat) | emp (a : Nat)
 deriving DecidableEq
def at0 (l : List Int) (i : Nat) : Int := l.getD i 0
def much (sz st : List Int) (a b : Nat) : Int := if at0 sz b - at0 st b < at0 st a then at0 sz b - at0 st b else at0 st a
def behind (sz st : List Int) : Mv → List Int
 | .pour a b => (st.set a (at0 st a - much sz st a b)).set b (at0 st b + much sz st a b)
 | .fill a => st.set a (at0 sz a)
 | .emp a => st.set a 0
def pours (n : Nat) : List Mv := (List.range n).flatMap fun a => ((List.range n).filter fun b => b != a).map fun b => Mv.pour a b
def moves (n : Nat) (tap : Bool) : List Mv := pours n ++ if tap = true then (List.range n).map Mv.fill ++ (List.range n).map Mv.emp else []
def Mv.ok (n : Nat) (tap : Bool) : Mv → Prop
 | .pour a b => a < n ∧ b < n ∧ a ≠ b
 | .fill a => a < n ∧ tap = true
 | .emp a => a < n ∧ tap = true
theorem mem_moves {n : Nat} {tap : Bool} {m : Mv} : m ∈ moves n tap ↔ m.ok n tap := by
 unfold moves pours
 cases tap <;> cases m <;> simp [Mv.ok] <;> (try omega)
 all_goals
   constructor
   · rintro ⟨h1, h2, h3⟩; exact ⟨h1, h2, fun e => h3 e.symm⟩
   · rintro ⟨h1, h2, h3⟩; exact ⟨h1, h2, fun e => h3 e.symm⟩
structure IsSt (sz st : List Int) : Prop where
 len : st.length = sz.length
 bnd : ∀ i, i < sz.length → 0 ≤ at0 st i ∧ at0 st i ≤ at0 sz i
theorem at0_set (l : List Int) (a i : Nat) (v : Int) : at0 (l.set a v) i = if a = i ∧ i < l.length then v else at0 l i := by
 unfold at0
 simp only [List.getD_eq_getElem?_getD, List.getElem?_set]
 by_cases h : a = i
 · subst h
   by_cases hl : a < l.length
   · simp [hl]
   · simp [hl]
 · simp [h]
theorem IsSt.behind {sz st : List Int} {tap : Bool} {m : Mv} (hs : ∀ i, i < sz.length → 0 ≤ at0 sz i) (h : IsSt sz st) (hm : m.ok sz.length tap) : IsSt sz (behind sz st m) := by
 have hl := h.len
 cases m with
 | pour a b =>
   obtain ⟨ha, hb, hab⟩ := hm
   have h1 := h.bnd a ha
   have h2 := h.bnd b hb
   refine ⟨by simp [J.behind, hl], fun i hi => ?_⟩
   have h3 := h.bnd i hi
   simp only [J.behind, at0_set, List.length_set, hl]
   unfold much
   by_cases e1 : b = i
   · subst e1; simp only [hi, and_self, if_true]; split <;> omega
   · simp only [e1, false_and, if_false]
     by_cases e2 : a = i
     · subst e2; simp only [hi, and_self, if_true]; split <;> omega
     · simp only [e2, false_and, if_false]; exact h3
 | fill a =>
   refine ⟨by simp [J.behind, hl], fun i hi => ?_⟩
   have h3 := h.bnd i hi
   have h4 := hs i hi
   simp only [J.behind, at0_set, hl]
   by_cases e2 : a = i
   · subst e2; simp only [hi, and_self, if_true]; omega
   · simp only [e2, false_and, if_false]; exact h3
 | emp a =>
   refine ⟨by simp [J.behind, hl], fun i hi => ?_⟩
   have h3 := h.bnd i hi
   have h4 := hs i hi
   simp only [J.behind, at0_set, hl]
   by_cases e2 : a = i
   · subst e2; simp only [hi, and_self, if_true]; omega
   · simp only [e2, false_and, if_false]; exact h3
def more (told : List (List Int)) (size : Int) : List (List Int) := told.flatMap fun st => (List.range (size + 1).toNat).map fun (k : Nat) => st ++ [(k : Int)]
def states (sz : List Int) : List (List Int) := sz.foldl more [[]]
def prod1 (sz : List Int) : Int := sz.foldl (fun m s => m * (s + 1)) 1
theorem mem_fold (sz : List Int) : ∀ (L : List (List Int)) (x : List Int), x ∈ sz.foldl more L ↔ ∃ l ∈ L, ∃ t : List Int, x = l ++ t ∧ IsSt sz t := by
 induction sz with
 | nil =>
   intro L x
   simp only [List.foldl_nil]
   constructor
   · intro h; exact ⟨x, h, [], by simp, ⟨rfl, fun i hi => by simp at hi⟩⟩
   · rintro ⟨l, hl, t, rfl, ht⟩
     have : t = [] := by have := ht.len; simpa using this
     subst this; simpa using hl
 | cons s r ih =>
   intro L x
   rw [List.foldl_cons, ih]
   constructor
   · rintro ⟨l, hl, t, rfl, ht⟩
     unfold more at hl
     simp only [List.mem_flatMap, List.mem_map, List.mem_range] at hl
     obtain ⟨l0, h0, k, hk, rfl⟩ := hl
     refine ⟨l0, h0, (k : Int) :: t, by simp, ⟨by simp [ht.len], fun i hi => ?_⟩⟩
     cases i with
     | zero => simp [at0]; omega
     | succ i => have := ht.bnd i (by simpa using hi); simpa [at0] using this
   · rintro ⟨l, hl, t, rfl, ht⟩
     cases t with
     | nil => have := ht.len; simp at this
     | cons v t =>
       refine ⟨l ++ [v], ?_, t, by simp, ⟨by have := ht.len; simpa using this, fun i hi => ?_⟩⟩
       · unfold more
         simp only [List.mem_flatMap, List.mem_map, List.mem_range]
         have := ht.bnd 0 (by simp)
         simp [at0] at this
         exact ⟨l, hl, v.toNat, by omega, by rw [Int.toNat_of_nonneg this.1]⟩
       · have := ht.bnd (i + 1) (by simpa using hi); simpa [at0] using this
theorem mem_states {sz x : List Int} : x ∈ states sz ↔ IsSt sz x := by
 unfold states
 rw [mem_fold]
 constructor
 · rintro ⟨l, hl, t, rfl, ht⟩
   have : l = [] := by simpa using hl
   subst this; simpa using ht
 · intro h; exact ⟨[], by simp, x, by simp, h⟩
theorem len_more (L : List (List Int)) (s : Int) : (more L s).length = L.length * (s + 1).toNat := by
 unfold more
 induction L with
 | nil => simp
 | cons a L ih => rw [List.flatMap_cons, List.length_append, ih]; simp [Nat.add_mul]; omega
theorem len_fold (sz : List Int) (hs : ∀ s ∈ sz, 0 ≤ s) : ∀ (L : List (List Int)) (p : Int), (L.length : Int) = p → ((sz.foldl more L).length : Int) = sz.foldl (fun m s => m * (s + 1)) p := by
 induction sz with
 | nil => intro L p h; simpa using h
 | cons s r ih =>
   intro L p h
   rw [List.foldl_cons, List.foldl_cons]
   refine ih (fun x hx => hs x (List.mem_cons_of_mem _ hx)) _ _ ?_
   have := hs s List.mem_cons_self
   rw [len_more, Int.natCast_mul, h, Int.toNat_of_nonneg (by omega)]
theorem len_states {sz : List Int} (hs : ∀ s ∈ sz, 0 ≤ s) : ((states sz).length : Int) = prod1 sz := len_fold sz hs _ _ (by simp)
theorem nodup_le {α : Type} [DecidableEq α] : ∀ (xs ys : List α), xs.Nodup → (∀ x ∈ xs, x ∈ ys) → xs.length ≤ ys.length
 | [], ys, _, _ => by simp
 | x :: xs, ys, nd, h => by
   have hx : x ∈ ys := h x List.mem_cons_self
   obtain ⟨hn, nd'⟩ := List.nodup_cons.mp nd
   have := nodup_le xs (ys.erase x) nd' fun z hz => (List.mem_erase_of_ne (show z ≠ x from fun e => hn (e ▸ hz))).mpr (h z (List.mem_cons_of_mem _ hz))
   rw [List.length_erase_of_mem hx] at this
   have : 0 < ys.length := List.length_pos_of_mem hx
   simp only [List.length_cons]; omega
end J
namespace J
abbrev Way := List Int × Option (Nat × Mv)
def addOne (sz here : List Int) (p : Nat) (w : List Way) (m : Mv) : List Way :=
 if behind sz here m ∈ w.map (·.1) then w else w ++ [(behind sz here m, some (p, m))]
def addAll (sz here : List Int) (p : Nat) (ms : List Mv) (w : List Way) : List Way := ms.foldl (addOne sz here p) w
def run (sz : List Int) (ms : List Mv) (st : List Int) : Nat → List Way
 | 0 => [(st, none)]
 | p + 1 => match (run sz ms st p)[p]? with
   | none => run sz ms st p
   | some x => addAll sz x.1 p ms (run sz ms st p)
def ways (sz : List Int) (ms : List Mv) (st : List Int) : List Way := run sz ms st (states sz).length
theorem snoc_get {α : Type} {W : List α} {e y : α} {i : Nat} : (W ++ [e])[i]? = some y ↔ W[i]? = some y ∨ (i = W.length ∧ y = e) := by
 rw [List.getElem?_append]
 by_cases h : i < W.length
 · rw [if_pos h]
   constructor
   · exact .inl
   · rintro (z | ⟨z, _⟩)
     · exact z
     · omega
 · rw [if_neg h]
   constructor
   · intro z
     obtain ⟨hl, z⟩ := List.getElem?_eq_some_iff.mp z
     simp at hl
     refine .inr ⟨by omega, ?_⟩
     have : i - W.length = 0 := by omega
     simp [this] at z
     exact z.symm
   · rintro (z | ⟨z, rfl⟩)
     · have := (List.getElem?_eq_some_iff.mp z).1; omega
     · subst z; simp
structure WIn (sz : List Int) (ms : List Mv) (st : List Int) (p : Nat) (P : Nat) (done : List Mv) (W : List Way) : Prop where
 hd : W[0]? = some (st, none)
 nd : (W.map (·.1)).Nodup
 sts : ∀ x ∈ W, IsSt sz x.1
 par : ∀ (i : Nat) (x : List Int) (q : Nat) (m : Mv), W[i]? = some (x, some (q, m)) → q < P ∧ q < i ∧ m ∈ ms ∧ ∃ y, W[q]? = some y ∧ x = behind sz y.1 m
 non : ∀ (i : Nat) (x : List Int), W[i]? = some (x, none) → i = 0
 mono : ∀ (i j : Nat) (x y : List Int) (q : Nat) (m : Mv) (q' : Nat) (m' : Mv), i ≤ j → W[i]? = some (x, some (q, m)) → W[j]? = some (y, some (q', m')) → q ≤ q'
 cls : ∀ (i : Nat) (x : Way) (m : Mv), W[i]? = some x → (i < p ∧ m ∈ ms) ∨ (i = p ∧ m ∈ done) → ∃ (j : Nat) (y : Way), W[j]? = some y ∧ y.1 = behind sz x.1 m ∧ (y.2 = none ∨ ∃ q m', y.2 = some (q, m') ∧ q ≤ i)
section
variable {sz st : List Int} {ms done : List Mv} {p P : Nat} {W : List Way} {here : List Int} {m : Mv}
theorem WIn.add (h : WIn sz ms st p (p + 1) done W) (hp : ∃ o, W[p]? = some (here, o)) (hm : m ∈ ms) (hs : IsSt sz (behind sz here m)) : WIn sz ms st p (p + 1) (done ++ [m]) (addOne sz here p W m) := by
 obtain ⟨o, hp⟩ := hp
 have plt : p < W.length := (List.getElem?_eq_some_iff.mp hp).1
 unfold addOne
 by_cases hb : behind sz here m ∈ W.map (·.1)
 · rw [if_pos hb]
   refine ⟨h.hd, h.nd, h.sts, h.par, h.non, h.mono, fun i x m' hx hc => ?_⟩
   rcases hc with ⟨h1, h2⟩ | ⟨h1, h2⟩
   · exact h.cls i x m' hx (.inl ⟨h1, h2⟩)
   · rcases List.mem_append.mp h2 with h3 | h3
     · exact h.cls i x m' hx (.inr ⟨h1, h3⟩)
     · have e : m' = m := by simpa using h3
       subst e; subst h1
       rw [hp] at hx; cases hx
       obtain ⟨y, hy, e⟩ := List.mem_map.mp hb
       obtain ⟨j, hj⟩ := List.mem_iff_getElem?.mp hy
       refine ⟨j, y, hj, e, ?_⟩
       obtain ⟨y1, y2⟩ := y
       cases y2 with
       | none => exact .inl rfl
       | some qm => obtain ⟨q, m''⟩ := qm; exact .inr ⟨q, m'', rfl, by have := (h.par j _ _ _ hj).1; omega⟩
 · rw [if_neg hb]
   refine ⟨?_, ?_, ?_, ?_, ?_, ?_, ?_⟩
   · exact snoc_get.mpr (.inl h.hd)
   · rw [List.map_append, List.nodup_append]
     refine ⟨h.nd, by simp, fun a ha b hb' e => ?_⟩
     have : b = behind sz here m := by simpa using hb'
     subst this; subst e; exact hb ha
   · intro x hx
     rcases List.mem_append.mp hx with z | z
     · exact h.sts x z
     · have : x = (behind sz here m, some (p, m)) := by simpa using z
       subst this; exact hs
   · intro i x q m' hx
     rcases snoc_get.mp hx with z | ⟨z1, z2⟩
     · obtain ⟨a, b, c, y, hy, e⟩ := h.par i x q m' z
       exact ⟨a, b, c, y, snoc_get.mpr (.inl hy), e⟩
     · cases z2
       exact ⟨by omega, by omega, hm, (here, o), snoc_get.mpr (.inl hp), rfl⟩
   · intro i x hx
     rcases snoc_get.mp hx with z | ⟨z1, z2⟩
     · exact h.non i x z
     · cases z2
   · intro i j x y q m1 q' m2 hij hi hj
     rcases snoc_get.mp hi with z | ⟨z1, z2⟩
     · rcases snoc_get.mp hj with u | ⟨u1, u2⟩
       · exact h.mono i j x y q m1 q' m2 hij z u
       · cases u2; have := (h.par i x q m1 z).1; omega
     · cases z2
       rcases snoc_get.mp hj with u | ⟨u1, u2⟩
       · have := (List.getElem?_eq_some_iff.mp u).1; omega
       · cases u2; omega
   · intro i x m' hx hc
     rcases snoc_get.mp hx with z | ⟨z1, z2⟩
     · have old : ((i < p ∧ m' ∈ ms) ∨ (i = p ∧ m' ∈ done)) → ∃ (j : Nat) (y : Way), (W ++ [(behind sz here m, some (p, m))])[j]? = some y ∧ y.1 = behind sz x.1 m' ∧ (y.2 = none ∨ ∃ q m', y.2 = some (q, m') ∧ q ≤ i) := fun hc => by
         obtain ⟨j, y, a, b, c⟩ := h.cls i x m' z hc
         exact ⟨j, y, snoc_get.mpr (.inl a), b, c⟩
       rcases hc with hc | ⟨h1, h2⟩
       · exact old (.inl hc)
       · rcases List.mem_append.mp h2 with h3 | h3
         · exact old (.inr ⟨h1, h3⟩)
         · have e : m' = m := by simpa using h3
           subst e; subst h1
           rw [hp] at z; cases z
           exact ⟨W.length, _, snoc_get.mpr (.inr ⟨rfl, rfl⟩), rfl, .inr ⟨i, m', rfl, Nat.le_refl _⟩⟩
     · rcases hc with ⟨h1, h2⟩ | ⟨h1, h2⟩ <;> omega
theorem addOne_pre {here : List Int} {p : Nat} {m : Mv} {W : List Way} {i : Nat} {y : Way} (h : W[i]? = some y) : (addOne sz here p W m)[i]? = some y := by
 unfold addOne
 split
 · exact h
 · exact snoc_get.mpr (.inl h)
theorem WIn.all : ∀ (todo : List Mv) {done : List Mv} {W : List Way}, WIn sz ms st p (p + 1) done W → (∃ o, W[p]? = some (here, o)) → (∀ m ∈ todo, m ∈ ms) → (∀ m ∈ todo, IsSt sz (behind sz here m)) →
   WIn sz ms st p (p + 1) (done ++ todo) (addAll sz here p todo W)
 | [], done, W, h, _, _, _ => by simpa [addAll] using h
 | m :: todo, done, W, h, hp, hm, hs => by
   have h1 := h.add hp (hm m List.mem_cons_self) (hs m List.mem_cons_self)
   obtain ⟨o, hp⟩ := hp
   have h2 := WIn.all todo h1 ⟨o, addOne_pre hp⟩ (fun x hx => hm x (List.mem_cons_of_mem _ hx)) (fun x hx => hs x (List.mem_cons_of_mem _ hx))
   simpa [addAll, List.append_assoc] using h2
theorem WIn.next (h : WIn sz ms st p (p + 1) ms W) : WIn sz ms st (p + 1) (p + 1) [] W :=
 ⟨h.hd, h.nd, h.sts, h.par, h.non, h.mono, fun i x m hx hc => h.cls i x m hx (by
   rcases hc with ⟨h1, h2⟩ | ⟨_, h2⟩
   · by_cases e : i = p
     · exact .inr ⟨e, h2⟩
     · exact .inl ⟨by omega, h2⟩
   · simp at h2)⟩
theorem WIn.open (h : WIn sz ms st p p [] W) : WIn sz ms st p (p + 1) [] W :=
 ⟨h.hd, h.nd, h.sts, fun i x q m e => let ⟨a, b⟩ := h.par i x q m e; ⟨by omega, b⟩, h.non, h.mono, h.cls⟩
theorem WIn.beyond (h : WIn sz ms st p p [] W) (hl : W.length ≤ p) : WIn sz ms st (p + 1) (p + 1) [] W :=
 ⟨h.hd, h.nd, h.sts, fun i x q m e => let ⟨a, b⟩ := h.par i x q m e; ⟨by omega, b⟩, h.non, h.mono, fun i x m hx hc => by
   have := (List.getElem?_eq_some_iff.mp hx).1
   rcases hc with ⟨_, h2⟩ | ⟨_, h2⟩
   · exact h.cls i x m hx (.inl ⟨by omega, h2⟩)
   · simp at h2⟩
structure Good (sz : List Int) (ms : List Mv) : Prop where
 keep : ∀ st m, IsSt sz st → m ∈ ms → IsSt sz (behind sz st m)
theorem run_inv (g : Good sz ms) (hst : IsSt sz st) : ∀ p, WIn sz ms st p p [] (run sz ms st p)
 | 0 => by
   unfold run
   refine ⟨rfl, by simp, fun x hx => ?_, fun i x q m e => ?_, fun i x e => ?_, fun i j x y q m q' m' _ e _ => ?_, fun i x m _ hc => ?_⟩
   · have : x = (st, none) := by simpa using hx
     subst this; exact hst
   · cases i with
     | zero => simp at e
     | succ i => simp at e
   · cases i with
     | zero => rfl
     | succ i => simp at e
   · cases i with
     | zero => simp at e
     | succ i => simp at e
   · rcases hc with ⟨h1, _⟩ | ⟨_, h2⟩
     · omega
     · simp at h2
 | p + 1 => by
   have h := run_inv g hst p
   unfold run
   cases e : (run sz ms st p)[p]? with
   | none => exact h.beyond (List.getElem?_eq_none_iff.mp e)
   | some x =>
     have hx : IsSt sz x.1 := h.sts x (List.mem_iff_getElem?.mpr ⟨p, e⟩)
     have := h.open.all (here := x.1) ms ⟨x.2, e⟩ (fun _ q => q) (fun m q => g.keep x.1 m hx q)
     exact WIn.next (by simpa using this)
theorem run_le (g : Good sz ms) (hst : IsSt sz st) (p : Nat) : (run sz ms st p).length ≤ (states sz).length := by
 have h := run_inv g hst p
 have := nodup_le _ (states sz) h.nd fun x hx => by
   obtain ⟨y, hy, rfl⟩ := List.mem_map.mp hx
   exact mem_states.mpr (h.sts y hy)
 simpa using this
theorem run_stay {p : Nat} (h : (run sz ms st p).length ≤ p) : ∀ k, run sz ms st (p + k) = run sz ms st p
 | 0 => rfl
 | k + 1 => by
   have ih := run_stay h k
   show run sz ms st ((p + k) + 1) = _
   rw [run, ih, List.getElem?_eq_none_iff.mpr (by omega)]
theorem run_end (g : Good sz ms) (hst : IsSt sz st) {p : Nat} (h : (run sz ms st p).length ≤ p) : run sz ms st p = ways sz ms st := by
 unfold ways
 by_cases e : p ≤ (states sz).length
 · have := run_stay h ((states sz).length - p)
   rw [← this]; congr 1; omega
 · have := run_stay (p := (states sz).length) (run_le g hst _) (p - (states sz).length)
   rw [← this]; congr 1; omega
theorem run_step {p : Nat} {x : Way} (e : (run sz ms st p)[p]? = some x) : run sz ms st (p + 1) = addAll sz x.1 p ms (run sz ms st p) := by
 rw [run, e]
theorem ways_inv (g : Good sz ms) (hst : IsSt sz st) : WIn sz ms st (ways sz ms st).length (states sz).length [] (ways sz ms st) := by
 have h := run_inv g hst (states sz).length
 exact ⟨h.hd, h.nd, h.sts, h.par, h.non, h.mono, fun i x m hx hc => h.cls i x m hx (by
   rcases hc with ⟨h1, h2⟩ | ⟨_, h2⟩
   · exact .inl ⟨Nat.lt_of_lt_of_le h1 (run_le g hst _), h2⟩
   · simp at h2)⟩
end
theorem good_moves {sz : List Int} {tap : Bool} (hs : ∀ i, i < sz.length → 0 ≤ at0 sz i) : Good sz (moves sz.length tap) :=
 ⟨fun _ _ h hm => h.behind hs (mem_moves.mp hm)⟩
end J
namespace J
section
variable {sz st : List Int} {ms done : List Mv} {p P : Nat} {W : List Way}
end
end J
namespace Jug
open PySem L2
set_option hygiene false in
macro "if0%" : term => `(ps_if (pt_cmpR op_eq (pv 0) eI (nomark _)) sV sN)
set_option hygiene false in
macro "r7%" : term => `(⟨rfl, rfl, rfl, by decide +kernel, rfl, by decide +kernel, by decide +kernel⟩)
set_option hygiene false in
macro "gok" a:ident b:ident : tactic => `(tactic| refine $a $b (fun vs H Q E h => ?_) (fun cdv A outer s H vs Q E hr h => ?_))
set_option hygiene false in
macro "z%" n:num : term => `(by show $n ≤ sizeLine; decide)
set_option hygiene false in
macro "v5%" : command => `(variable {P : Program} {w : World} {K : W.Frag} {mg : Str → Option Value} {base : Heap})
set_option hygiene false in
macro "n1%" : term => `(fun _ _ _ _ _ _ us hl => by obtain ⟨_, rfl⟩ := len1 hl; rfl)
set_option hygiene false in
macro "n2%" : term => `(fun _ _ _ _ _ _ us hl => by obtain ⟨_, _, rfl⟩ := len2 hl; rfl)
set_option hygiene false in
macro "n3%" : term => `(fun _ _ _ _ _ _ us hl => by obtain ⟨_, _, _, rfl⟩ := len3 hl; rfl)
set_option hygiene false in
macro "fb%" xs:(colGt term:max)* : term => `(FnB P w K mg base $xs*)
set_option hygiene false in
macro "me%" xs:(colGt term:max)* : term => `(MeB P w K mg base $xs*)
set_option hygiene false in
macro "mk%" xs:(colGt term:max)* : term => `(MkB P w K mg base $xs*)
set_option hygiene false in
macro "fx%" xs:(colGt term:max)* : term => `(FnX P w K mg base $xs*)
set_option hygiene false in
macro "mx%" xs:(colGt term:max)* : term => `(MeX P w K mg base $xs*)
set_option hygiene false in
macro "kx%" xs:(colGt term:max)* : term => `(MkX P w K mg base $xs*)
set_option hygiene false in
macro "fo%" xs:(colGt term:max)* : term => `(FnOk P w K mg base $xs*)
end Jug
namespace Jug
open PySem L2
def top (i : Nat) : Stmt := PySem.Challenge.pw_jughouse_k08_refused.main.body.getD i (.Pass ⟨0, 0, 0, 0⟩)
abbrev s_is_number : Stmt := top 10
theorem sc_is_number : fSc ["value", "least", "most"] ["value", "least", "most"] (dZ s_is_number) := r7%
abbrev s_is_jug : Stmt := top 11
theorem sc_is_jug : fSc ["value"] ["value"] (dZ s_is_jug) := r7%
abbrev s_held_in : Stmt := top 12
theorem sc_held_in : fSc ["house", "state", "held", "sizes", "many", "size"] ["house", "state"] (dZ s_held_in) := r7%
abbrev s_check_jug : Stmt := top 14
theorem sc_check_jug : fSc ["jug"] ["jug"] (dZ s_check_jug) := r7%
abbrev s_check_house_has : Stmt := top 16
theorem sc_check_house_has : fSc ["house", "jug"] ["house", "jug"] (dZ s_check_house_has) := r7%
abbrev s_check_house_can_tap : Stmt := top 18
theorem sc_check_house_can_tap : fSc ["house", "jug"] ["house", "jug"] (dZ s_check_house_can_tap) := r7%
abbrev s_with_amount : Stmt := top 19
theorem sc_with_amount : fSc ["held", "jug", "many", "behind"] ["held", "jug", "many"] (dZ s_with_amount) := r7%
abbrev s_Move_done : Stmt := inClass (top 20) 0
theorem sc_Move_done : fSc ["self", "house", "state", "held"] ["self", "house", "state"] (dZ s_Move_done) := r7%
abbrev s_Move_held_behind : Stmt := inClass (top 20) 1
theorem sc_Move_held_behind : fSc ["self", "house", "held"] ["self", "house", "held"] (dZ s_Move_held_behind) := r7%
abbrev s_Pour_init : Stmt := inClass (top 21) 0
theorem sc_Pour_init : fSc ["self", "one", "other"] ["self", "one", "other"] (dZ s_Pour_init) := r7%
abbrev s_Pour_held_behind : Stmt := inClass (top 21) 1
theorem sc_Pour_held_behind : fSc ["self", "house", "held", "room", "many", "less"] ["self", "house", "held"] (dZ s_Pour_held_behind) := r7%
abbrev s_Fill_init : Stmt := inClass (top 22) 0
theorem sc_Fill_init : fSc ["self", "jug"] ["self", "jug"] (dZ s_Fill_init) := r7%
abbrev s_Fill_held_behind : Stmt := inClass (top 22) 1
theorem sc_Fill_held_behind : fSc ["self", "house", "held"] ["self", "house", "held"] (dZ s_Fill_held_behind) := r7%
abbrev s_Empty_init : Stmt := inClass (top 23) 0
theorem sc_Empty_init : fSc ["self", "jug"] ["self", "jug"] (dZ s_Empty_init) := r7%
abbrev s_Empty_held_behind : Stmt := inClass (top 23) 1
theorem sc_Empty_held_behind : fSc ["self", "house", "held"] ["self", "house", "held"] (dZ s_Empty_held_behind) := r7%
abbrev s_moves_in : Stmt := top 24
theorem sc_moves_in : fSc ["moves", "told", "move"] ["moves"] (dZ s_moves_in) := r7%
abbrev s_done_all : Stmt := top 25
theorem sc_done_all : fSc ["moves", "house", "state", "told", "behind", "move"] ["moves", "house", "state"] (dZ s_done_all) := r7%
abbrev s_check_jug' : Stmt := top 28
theorem sc_check_jug' : fSc ["jug"] ["jug"] (dZ s_check_jug') := r7%
abbrev s_check_amount : Stmt := top 30
theorem sc_check_amount : fSc ["many"] ["many"] (dZ s_check_amount) := r7%
abbrev s_jugs_in : Stmt := top 31
theorem sc_jugs_in : fSc ["jugs", "told", "jug"] ["jugs"] (dZ s_jugs_in) := r7%
abbrev s_amounts_in : Stmt := top 32
theorem sc_amounts_in : fSc ["state", "told", "many"] ["state"] (dZ s_amounts_in) := r7%
abbrev s_check_house_has' : Stmt := top 33
theorem sc_check_house_has' : fSc ["house", "jug"] ["house", "jug"] (dZ s_check_house_has') := r7%
abbrev s_check_state_of : Stmt := top 35
theorem sc_check_state_of : fSc ["house", "state"] ["house", "state"] (dZ s_check_state_of) := r7%
abbrev s_Goal_come : Stmt := inClass (top 36) 0
theorem sc_Goal_come : fSc ["self", "house", "state", "held"] ["self", "house", "state"] (dZ s_Goal_come) := r7%
abbrev s_Goal_met_by : Stmt := inClass (top 36) 1
theorem sc_Goal_met_by : fSc ["self", "house", "held"] ["self", "house", "held"] (dZ s_Goal_met_by) := r7%
abbrev s_Holds_init : Stmt := inClass (top 37) 0
theorem sc_Holds_init : fSc ["self", "jug", "many"] ["self", "jug", "many"] (dZ s_Holds_init) := r7%
abbrev s_Holds_met_by : Stmt := inClass (top 37) 1
theorem sc_Holds_met_by : fSc ["self", "house", "held"] ["self", "house", "held"] (dZ s_Holds_met_by) := r7%
abbrev s_Some_init : Stmt := inClass (top 38) 0
theorem sc_Some_init : fSc ["self", "many"] ["self", "many"] (dZ s_Some_init) := r7%
abbrev s_Some_met_by : Stmt := inClass (top 38) 1
theorem sc_Some_met_by : fSc ["self", "house", "held"] ["self", "house", "held"] (dZ s_Some_met_by) := r7%
abbrev s_Sum_init : Stmt := inClass (top 39) 0
theorem sc_Sum_init : fSc ["self", "jugs", "many"] ["self", "jugs", "many"] (dZ s_Sum_init) := r7%
abbrev s_Sum_met_by : Stmt := inClass (top 39) 1
theorem sc_Sum_met_by : fSc ["self", "house", "held", "jug"] ["self", "house", "held"] (dZ s_Sum_met_by) := r7%
abbrev s_Whole_init : Stmt := inClass (top 40) 0
theorem sc_Whole_init : fSc ["self", "state"] ["self", "state"] (dZ s_Whole_init) := r7%
abbrev s_Whole_met_by : Stmt := inClass (top 40) 1
theorem sc_Whole_met_by : fSc ["self", "house", "held"] ["self", "house", "held"] (dZ s_Whole_met_by) := r7%
abbrev s_check_goal : Stmt := top 41
theorem sc_check_goal : fSc ["goal"] ["goal"] (dZ s_check_goal) := r7%
abbrev s_ways_from : Stmt := top 43
theorem sc_ways_from : fSc ["house", "state", "start", "moves", "ways", "row", "place", "here", "move", "behind"] ["house", "state"] (dZ s_ways_from) := r7%
abbrev s_reached : Stmt := top 44
theorem sc_reached : fSc ["house", "state"] ["house", "state"] (dZ s_reached) := r7%
abbrev s_measured : Stmt := top 45
theorem sc_measured : fSc ["house", "state", "amounts", "held", "many"] ["house", "state"] (dZ s_measured) := r7%
abbrev s_tied : Stmt := top 46
theorem sc_tied : fSc ["house", "one", "other", "ahead", "behind"] ["house", "one", "other"] (dZ s_tied) := r7%
abbrev s_Poured_init : Stmt := inClass (top 49) 0
theorem sc_Poured_init : fSc ["self", "pours", "heights"] ["self", "pours", "heights"] (dZ s_Poured_init) := r7%
abbrev s_Barred_init : Stmt := inClass (top 50) 0
theorem sc_Barred_init : fSc ["self", "among"] ["self", "among"] (dZ s_Barred_init) := r7%
abbrev s_nearest : Stmt := top 51
theorem sc_nearest : fSc ["house", "ways", "goal", "state"] ["house", "ways", "goal"] (dZ s_nearest) := r7%
abbrev s_moves_to : Stmt := top 52
theorem sc_moves_to : fSc ["ways", "state", "back", "way"] ["ways", "state"] (dZ s_moves_to) := r7%
abbrev s_heights_in : Stmt := top 53
theorem sc_heights_in : fSc ["ways", "heights", "state", "way"] ["ways"] (dZ s_heights_in) := r7%
abbrev s_fewest : Stmt := top 54
theorem sc_fewest : fSc ["house", "state", "goal", "ways", "last"] ["house", "state", "goal"] (dZ s_fewest) := r7%
abbrev s_sizes_in : Stmt := top 57
theorem sc_sizes_in : fSc ["sizes", "told", "size"] ["sizes"] (dZ s_sizes_in) := r7%
abbrev s_count_states : Stmt := top 58
theorem sc_count_states : fSc ["sizes", "many", "size"] ["sizes"] (dZ s_count_states) := r7%
abbrev s_pours_among : Stmt := top 59
theorem sc_pours_among : fSc ["many", "pours", "one", "other"] ["many"] (dZ s_pours_among) := r7%
abbrev s_with_one_more : Stmt := top 60
theorem sc_with_one_more : fSc ["states", "size", "longer", "state", "many"] ["states", "size"] (dZ s_with_one_more) := r7%
abbrev s_House_init : Stmt := inClass (top 61) 0
theorem sc_House_init : fSc ["self", "sizes", "tap"] ["self", "sizes", "tap"] (dZ s_House_init) := r7%
abbrev s_House_sizes : Stmt := inClass (top 61) 1
theorem sc_House_sizes : fSc ["self"] ["self"] (dZ s_House_sizes) := r7%
abbrev s_House_moves : Stmt := inClass (top 61) 2
theorem sc_House_moves : fSc ["self", "many", "told"] ["self"] (dZ s_House_moves) := r7%
abbrev s_House_states : Stmt := inClass (top 61) 3
theorem sc_House_states : fSc ["self", "told", "size"] ["self"] (dZ s_House_states) := r7%
abbrev s_House_empty : Stmt := inClass (top 61) 4
theorem sc_House_empty : fSc ["self"] ["self"] (dZ s_House_empty) := r7%
abbrev s_move_text : Stmt := top 63
theorem sc_move_text : fSc ["move"] ["move"] (dZ s_move_text) := r7%
abbrev s_routine_text : Stmt := top 64
theorem sc_routine_text : fSc ["moves"] ["moves"] (dZ s_routine_text) := r7%
abbrev s__law_cell_at : Stmt := top 66
theorem sc__law_cell_at : fSc ["_law_script", "_law_k"] ["_law_script", "_law_k"] (dZ s__law_cell_at) := r7%
abbrev s__law_kinds : Stmt := top 67
theorem sc__law_kinds : fSc ["_law_error", "_law_found"] ["_law_error"] (dZ s__law_kinds) := r7%
abbrev s__law_told : Stmt := top 68
theorem sc__law_told : fSc ["_law_ask", "_law_one", "_law_other", "_law_error"] ["_law_ask", "_law_one", "_law_other"] (dZ s__law_told) := r7%
abbrev s__law_house : Stmt := top 69
theorem sc__law_house : fSc ["_law_door", "_law_bad"] ["_law_door", "_law_bad"] (dZ s__law_house) := r7%
abbrev s__law_with_state : Stmt := top 70
theorem sc__law_with_state : fSc ["_law_door", "_law_bad", "_law_house_here"] ["_law_door", "_law_bad"] (dZ s__law_with_state) := r7%
abbrev s__law_with_move : Stmt := top 71
theorem sc__law_with_move : fSc ["_law_door", "_law_bad", "_law_house_here"] ["_law_door", "_law_bad"] (dZ s__law_with_move) := r7%
abbrev s__law_unfit : Stmt := top 72
theorem sc__law_unfit : fSc ["_law_door", "_law_way", "_law_house_here", "_law_move"] ["_law_door", "_law_way"] (dZ s__law_unfit) := r7%
abbrev s__law_with_goal : Stmt := top 73
theorem sc__law_with_goal : fSc ["_law_door", "_law_bad"] ["_law_door", "_law_bad"] (dZ s__law_with_goal) := r7%
abbrev s__law_goal_unfit : Stmt := top 74
theorem sc__law_goal_unfit : fSc ["_law_door", "_law_way", "_law_goal"] ["_law_door", "_law_way"] (dZ s__law_goal_unfit) := r7%
abbrev s__law_all : Stmt := top 75
theorem sc__law_all : fSc ["_law_ask", "_law_doors", "_law_things", "_law_due", "_law_door", "_law_thing"] ["_law_ask", "_law_doors", "_law_things", "_law_due"] (dZ s__law_all) := r7%
abbrev s__law_goals_right : Stmt := top 76
theorem sc__law_goals_right : fSc ["_law_far", "_law_due", "_law_jugs", "_law_thing"] ["_law_far", "_law_due"] (dZ s__law_goals_right) := r7%
abbrev s__law_good : Stmt := top 77
theorem sc__law_good : fSc [] [] (dZ s__law_good) := r7%
abbrev s_law : Stmt := top 78
theorem sc_law : fSc ["_law_script", "_law_far", "_law_due", "_law_k", "_law_sizes", "_law_states", "_law_bad", "_law_thing"] ["_law_script"] (dZ s_law) := r7%
end Jug
namespace Jug
open PySem L2
structure Bt (mg : Str → Option Value) : Prop where
 isinstance : mg "isinstance" = none
 int : mg "int" = none
 bool : mg "bool" = none
 tuple : mg "tuple" = none
 list : mg "list" = none
 len : mg "len" = none
 zip : mg "zip" = none
 range : mg "range" = none
 min : mg "min" = none
 str : mg "str" = none
 jugs : ∃ t, mg "MOST_JUGS" = some (.int 4 t)
 size : ∃ t, mg "MOST_SIZE" = some (.int 60 t)
theorem bI : bootBuiltins "isinstance" = some (.builtin "isinstance") := by decide +kernel
theorem bt_int : bootBuiltins "int" = some (.type "int") := by decide +kernel
theorem bt_bool : bootBuiltins "bool" = some (.type "bool") := by decide +kernel
theorem bt_tuple : bootBuiltins "tuple" = some (.type "tuple") := by decide +kernel
theorem bt_list : bootBuiltins "list" = some (.type "list") := by decide +kernel
theorem bt_min : bootBuiltins "min" = some (.builtin "min") := by decide +kernel
section
v5%
theorem kit_ii : W.kitOne K (.type "int") (.type "int") = some true := by
 unfold W.kitOne
 rw [if_pos (by simp)]
theorem kit_ib : W.kitOne K (.type "int") (.type "bool") = some false := by
 unfold W.kitOne
 rw [if_neg (by decide)]
 with_unfolding_all rfl
theorem kit_tt : W.kitOne K (.type "tuple") (.type "tuple") = some true := by
 unfold W.kitOne
 rw [if_pos (by simp)]
theorem kit_ll : W.kitOne K (.type "list") (.type "list") = some true := by
 unfold W.kitOne
 rw [if_pos (by simp)]
theorem kit_bb : W.kitOne K (.type "bool") (.type "bool") = some true := by
 unfold W.kitOne
 rw [if_pos (by simp)]
def sp_is_number : Sp := fun vs H Q _ => ∃ i lo hi : Int, vs = [.int i, .int lo, .int hi] ∧ Q (.bl (decide (lo ≤ i) && decide (i ≤ hi))) H
theorem ok_is_number {f : Addr} {fd : FuncData} (F : Fun K "is_number" "is_number" s_is_number f fd) (B : Bt mg) : fo% CX0 1 f fd ["value", "least", "most"] sp_is_number := by
 gok F.ok sc_is_number
 · obtain ⟨i, lo, hi, rfl, _⟩ := h
   rfl
 · obtain ⟨i, lo, hi, rfl, k⟩ := h
   refine ⟨_, s1' (sR (pe_and (eZ call_isinst (by rfl) B.isinstance bI (pK (pv 0) (pK (pe_bltn (v := .ty "int") (by rfl) B.int bt_int rfl) pN)))
     (pe_and (pe_not (eZ call_isinst (by rfl) B.isinstance bI (pK (pv 0) (pK (pe_bltn (v := .ty "bool") (by rfl) B.bool bt_bool rfl) pN))))
     (pe_one (pe_chain op_le op_le (pv 1) (pv 0) (pv 2)))))), ?_⟩
   refine ⟨_, rfl, _, _, _, _, _, rfl, .ty "int", .int i, kit_ii, _, rfl, iteT ?_⟩
   refine ⟨_, rfl, _, _, _, _, _, rfl, .ty "bool", .int i, kit_ib, _, rfl, _, rfl, iteT ?_⟩
   refine ⟨_, rfl, _, rfl, _, _, rfl, rfl, _, rfl, ?_⟩
   by_cases h1 : lo ≤ i
   · rw [decide_eq_true h1]
     refine iteT ⟨_, rfl, _, _, rfl, rfl, ?_⟩
     rw [decide_eq_true h1, Bool.true_and] at k
     exact k
   · rw [decide_eq_false h1]
     refine iteF ?_
     rw [decide_eq_false h1, Bool.false_and] at k
     exact k
def sp_is_jug : Sp := fun vs H Q _ => ∃ i : Int, vs = [.int i] ∧ Q (.bl (decide (0 ≤ i) && decide (i ≤ 3))) H
theorem ok_is_jug {f : Addr} {fd : FuncData} (F : Fun K "is_jug" "is_jug" s_is_jug f fd) (B : Bt mg) (N : fb% 1 "is_number" ["value", "least", "most"] sp_is_number) : fo% CX0 2 f fd ["value"] sp_is_jug := by
 obtain ⟨t4, e4⟩ := B.jugs
 gok F.ok sc_is_jug
 · obtain ⟨i, rfl, _⟩ := h
   rfl
 · obtain ⟨i, rfl, k⟩ := h
   refine ⟨_, s1' (sR (eF N hr (pK (pv 0) (pK eI (pK (pe_op op_sub (pe_glob (v := .int 4) (by rfl) e4 ⟨_, rfl⟩) eI) pN))))), ?_⟩
   exact ⟨_, rfl, _, _, rfl, rfl, i, 0, 3, rfl, k⟩
end
theorem mem_ints {l : List Int} {i : Nat} {x : V} (h : (l.map V.int)[i]? = some x) : ∃ z, l[i]? = some z ∧ x = .int z := by
 rw [List.getElem?_map] at h
 cases e : l[i]? with
 | none => rw [e] at h; cases h
 | some z => rw [e] at h; exact ⟨z, rfl, (Option.some.inj h).symm⟩
theorem at0_of {l : List Int} {i : Nat} {z : Int} (h : l[i]? = some z) : J.at0 l i = z := by
 unfold J.at0
 rw [List.getD_eq_getElem?_getD, h]; rfl
theorem get_of {l : List Int} {i : Nat} (h : i < l.length) : l[i]? = some (J.at0 l i) := by
 unfold J.at0
 rw [List.getD_eq_getElem?_getD, List.getElem?_eq_getElem h]; rfl
theorem getV_of {l : List Int} {i : Nat} (h : i < l.length) : (l.map V.int)[i]? = some (.int (J.at0 l i)) := by
 rw [List.getElem?_map, get_of h]; rfl
theorem st_at {sz st : List Int} {i : Nat} {z y : Int} (h : J.IsSt sz st) (h1 : st[i]? = some z) (h2 : sz[i]? = some y) : 0 ≤ z ∧ z ≤ y := by
 have := h.bnd i (List.getElem?_eq_some_iff.mp h2).1
 rw [at0_of h1, at0_of h2] at this
 exact this
def hF (t : Addr) (tap : Bool) : List (Str × V) := putF "tap" (.bl tap) (putF "jug_sizes" (.ref t) [])
theorem n_tap_js : ¬ (("tap" : Str) = "jug_sizes") := by decide +kernel
theorem hF_js (t : Addr) (tap : Bool) : (hF t tap).lookup ("jug_sizes" : Str) = some (.ref t) := by
 unfold hF
 rw [lP, if_neg (fun e => n_tap_js e.symm), lP, if_pos rfl]
theorem hF_tap (t : Addr) (tap : Bool) : (hF t tap).lookup ("tap" : Str) = some (.bl tap) := by
 unfold hF
 rw [lP, if_pos rfl]
theorem hF_no (t : Addr) (tap : Bool) {m : Str} (h1 : ¬ m = "tap") (h2 : ¬ m = "jug_sizes") : (hF t tap).lookup m = none := by
 unfold hF
 rw [lP, if_neg h1, lP, if_neg h2]
 rfl
def House (CH : Addr) (H : Hp) (p : Addr) (sz : List Int) (tap : Bool) : Prop := ∃ dx t, H p = some (.ins CH dx (hF t tap)) ∧ H t = some (.tup (sz.map V.int))
theorem House.mono {CH : Addr} {H H' : Hp} {p : Addr} {sz : List Int} {tap : Bool} (h : House CH H p sz tap) (s : Same H H') : House CH H' p sz tap := by
 obtain ⟨dx, t, h1, h2⟩ := h
 exact ⟨dx, t, s _ _ h1, s _ _ h2⟩
structure CHs (K : W.Frag) (C : Addr) : Prop where
 cl : Cls K C
 js : NoAttr K C "jug_sizes"
 tap : NoAttr K C "tap"
section
v5%
variable {CH : Addr}
def sp_sizes (CH : Addr) : Sp := fun vs H Q _ => ∃ p sz tap, vs = [.ref p] ∧ House CH H p sz tap ∧ ∀ l, H l = none → Q (.ref l) (upd H l (.lst (sz.map V.int)))
theorem ok_sizes {f : Addr} {fd : FuncData} (F : Fun K "sizes" "House.sizes" s_House_sizes f fd) (B : Bt mg) (C : CHs K CH) : fo% CX0 1 f fd ["self"] (sp_sizes CH) := by
 gok F.ok sc_House_sizes
 · obtain ⟨p, sz, tap, rfl, _⟩ := h
   rfl
 · obtain ⟨p, sz, tap, rfl, ⟨dx, t, hp, ht⟩, k⟩ := h
   refine ⟨_, s1' (sR (eT cL (by rfl) B.list bt_list (pK (pe_fld (pv 0) rfl) pN))), ?_⟩
   exact ⟨_, rfl, p, CH, dx, _, _, rfl, hp, C.cl, C.js, hF_js _ _, t, _, rfl, .inr (SqT.of ht), fun l hl => k l hl⟩
def sp_held_in (CH : Addr) : Sp := fun vs H Q _ => ∃ p sz tap a st, vs = [.ref p, .ref a] ∧ House CH H p sz tap ∧ H a = some (.tup (st.map V.int)) ∧ J.IsSt sz st ∧
 ∀ l H', Same H H' → H l = none → H' l = some (.lst (st.map V.int)) → Q (.ref l) H'
theorem ok_held_in {f : Addr} {fd : FuncData} (F : Fun K "held_in" "held_in" s_held_in f fd) (B : Bt mg) (N : fb% 1 "is_number" ["value", "least", "most"] sp_is_number)
   (S : me% 1 CH "sizes" ["self"] (sp_sizes CH)) : fo% CX0 2 f fd ["house", "state"] (sp_held_in CH) := by
 gok F.ok sc_held_in
 · obtain ⟨p, sz, tap, a, st, rfl, _⟩ := h
   rfl
 · obtain ⟨p, sz, tap, a, st, rfl, hh, ha, hst, k⟩ := h
   refine ⟨_, sK (ps_if (pt_not (pt_val (eZ call_isinst (by rfl) B.isinstance bI (pK (pv 1) (pK (pe_bltn (v := .ty "tuple") (by rfl) B.tuple bt_tuple rfl) pN))))) sV sN)
     (sK (sS (i := 2) sc_held_in.nd rfl (Or.inl rfl) (eT cL (by rfl) B.list bt_list (pK (pv 1) pN)))
     (sK (sS (i := 3) sc_held_in.nd rfl (Or.inl rfl) (pe_me0 S (pv 0) hr))
     (sK (ps_if (pt_cmpR op_ne (eZ call_len_seq (by rfl) B.len PySem.boot_len (pK (pv 2) pN)) (eZ call_len_seq (by rfl) B.len PySem.boot_len (pK (pv 3) pN)) (nomark _)) sV sN)
     (sK (ps_for PassesOwn.never rfl (pi_zip (by rfl) B.zip (pK (pv 2) (pK (pv 3) pN)))
       (pg_tup rfl (pgs_cons (pg_name (i := 4) sc_held_in.nd rfl (Or.inl rfl)) (pgs_cons (pg_name (i := 5) sc_held_in.nd rfl (Or.inl rfl)) pgs_nil)))
       (s1' (ps_if (pt_not (pt_val (eF N hr (pK (pv 4) (pK eI (pK (pv 5) pN)))))) sV sN)))
     (s1' (sR (pv 2))))))), ?_⟩
   refine ⟨_, rfl, _, _, _, _, _, rfl, .ty "tuple", .tup ha, kit_tt, _, rfl, iteF ?_⟩
   refine ⟨_, rfl, a, _, rfl, .inr (SqT.of ha), fun l hl => ?_⟩
   have s1 : Same H (upd H l (.lst (st.map V.int))) := Same.new hl
   obtain ⟨dx, t, hp, ht⟩ := id hh
   refine ⟨_, rfl, p, dx, _, rfl, s1 _ _ hp, hF_no _ _ (by decide +kernel) (by decide +kernel), p, sz, tap, rfl, hh.mono s1, fun m hm => ?_⟩
   have s2 : Same (upd H l (.lst (st.map V.int))) (upd (upd H l (.lst (st.map V.int))) m (.lst (sz.map V.int))) := Same.new hm
   have e1 := s2 _ _ (uS (H := H))
   have hlen : (st.map V.int).length = (sz.map V.int).length := by simp [hst.len]
   refine ⟨_, rfl, l, _, rfl, .inl (SqL.of e1), _, rfl, m, _, rfl, .inl (SqL.of uS), rfl, _, rfl, iteNS (by rw [hlen]) ?_⟩
   refine ⟨_, rfl, _, rfl, l, m, _, _, rfl, SqL.of e1, SqL.of uS, for_zip (xs := st.map V.int) (ys := sz.map V.int) hlen
     (fun i σ H' => ∃ v4 v5, σ = [some (.ref p), some (.ref a), some (.ref l), some (.ref m), v4, v5] ∧ Same (upd (upd H l (.lst (st.map V.int))) m (.lst (sz.map V.int))) H')
     ⟨none, none, rfl, Same.refl _⟩ (fun i σ H' _ ⟨_, _, _, s3⟩ => ⟨SqL.of (s3 _ _ e1), SqL.of (s3 _ _ uS)⟩) ?_ ?_⟩
   · rintro i x y T σ H' hx hy hT ⟨v4, v5, rfl, s3⟩
     obtain ⟨zx, ex, rfl⟩ := mem_ints hx
     obtain ⟨zy, ey, rfl⟩ := mem_ints hy
     have hb := st_at hst ex ey
     refine ⟨T, _, rfl, SqT.of uS, rfl, _, _, rfl, _, _, rfl, rfl, ?_⟩
     refine ⟨_, rfl, _, rfl, zx, 0, zy, rfl, _, rfl, ?_⟩
     rw [decide_eq_true hb.1, decide_eq_true hb.2]
     refine iteF ?_
     exact ⟨_, _, rfl, s3.lay hT⟩
   · rintro σ H' ⟨v4, v5, rfl, s3⟩
     exact ⟨_, rfl, k l H' (s1.trans (s2.trans s3)) hl (s3 _ _ e1)⟩
end
end Jug
namespace Jug
open PySem L2
structure Cz where
 P : Addr
 F : Addr
 E : Addr
def pF (a b : Nat) : List (Str × V) := putF "other" (.int b) (putF "one" (.int a) [])
def jF (a : Nat) : List (Str × V) := putF "jug" (.int a) []
theorem n_one_other : ¬ (("one" : Str) = "other") := by decide +kernel
theorem pF_one (a b : Nat) : (pF a b).lookup ("one" : Str) = some (.int a) := by
 unfold pF
 rw [lP, if_neg n_one_other, lP, if_pos rfl]
theorem pF_other (a b : Nat) : (pF a b).lookup ("other" : Str) = some (.int b) := by
 unfold pF
 rw [lP, if_pos rfl]
theorem pF_no (a b : Nat) {m : Str} (h1 : ¬ m = "other") (h2 : ¬ m = "one") : (pF a b).lookup m = none := by
 unfold pF
 rw [lP, if_neg h1, lP, if_neg h2]
 rfl
theorem jF_jug (a : Nat) : (jF a).lookup ("jug" : Str) = some (.int a) := by
 unfold jF
 rw [lP, if_pos rfl]
theorem jF_no (a : Nat) {m : Str} (h1 : ¬ m = "jug") : (jF a).lookup m = none := by
 unfold jF
 rw [lP, if_neg h1]
 rfl
def Cz.cl (Z : Cz) : J.Mv → Addr
 | .pour _ _ => Z.P
 | .fill _ => Z.F
 | .emp _ => Z.E
def fsOf : J.Mv → List (Str × V)
 | .pour a b => pF a b
 | .fill a => jF a
 | .emp a => jF a
def MvAt (Z : Cz) (H : Hp) (p : Addr) (m : J.Mv) : Prop := ∃ dx, H p = some (.ins (Z.cl m) dx (fsOf m))
theorem MvAt.mono {Z : Cz} {H H' : Hp} {p : Addr} {m : J.Mv} (h : MvAt Z H p m) (s : Same H H') : MvAt Z H' p m := let ⟨dx, e⟩ := h; ⟨dx, s _ _ e⟩
structure CPo (K : W.Frag) (C : Addr) : Prop where
 cl : Cls K C
 one : NoAttr K C "one"
 other : NoAttr K C "other"
structure CJu (K : W.Frag) (C : Addr) : Prop where
 cl : Cls K C
 jug : NoAttr K C "jug"
theorem ixN_of {n j : Nat} (h : j < n) : ixN n (j : Int) = some j := by
 unfold ixN
 rw [if_pos (by omega), if_pos (by omega)]; simp
theorem map_set_int (l : List Int) (j : Nat) (v : Int) : (l.map V.int).set j (.int v) = (l.set j v).map V.int := by
 rw [List.map_set]
section
v5%
variable {CH : Addr} {Z : Cz}
def sp_with_amount : Sp := fun vs H Q _ => ∃ (l : Addr) (xs : List Int) (j : Nat) (v : Int), vs = [.ref l, .int j, .int v] ∧ H l = some (.lst (xs.map V.int)) ∧ j < xs.length ∧
 ∀ m H', Same H H' → H' m = some (.lst ((xs.set j v).map V.int)) → Q (.ref m) H'
theorem ok_with_amount {f : Addr} {fd : FuncData} (F : Fun K "with_amount" "with_amount" s_with_amount f fd) (B : Bt mg) : fo% CX0 1 f fd ["held", "jug", "many"] sp_with_amount := by
 gok F.ok sc_with_amount
 · obtain ⟨l, xs, j, v, rfl, _⟩ := h
   rfl
 · obtain ⟨l, xs, j, v, rfl, hl, hj, k⟩ := h
   refine ⟨_, sK (sS (i := 3) sc_with_amount.nd rfl (Or.inl rfl) (eT cL (by rfl) B.list bt_list (pK (pv 0) pN)))
     (sK (ps_asg (pv 2) (pg_sub (pv 3) (pv 1) set_list)) (s1' (sR (pv 3)))), ?_⟩
   refine ⟨_, rfl, l, _, rfl, .inl (SqL.of hl), fun m hm => ?_⟩
   refine ⟨_, rfl, _, rfl, _, rfl, m, _, _, j, rfl, rfl, uS, ixN_of (by simpa using hj), ?_⟩
   refine ⟨_, rfl, k m _ ((Same.new hm).put hm) ?_⟩
   rw [uS, map_set_int]
def sp_check_jug : Sp := fun vs H Q _ => ∃ (j : Nat), vs = [.int j] ∧ j ≤ 3 ∧ Q .non H
theorem ok_check_jug {f : Addr} {fd : FuncData} (F : Fun K "check_jug" "check_jug" s_check_jug f fd) (N : fb% 2 "is_jug" ["value"] sp_is_jug) : fo% CX0 3 f fd ["jug"] sp_check_jug := by
 gok F.ok sc_check_jug
 · obtain ⟨j, rfl, _⟩ := h
   rfl
 · obtain ⟨j, rfl, hj, k⟩ := h
   refine ⟨_, s1' (ps_if (pt_not (pt_val (eF N hr (pK (pv 0) pN)))) sV sN), ?_⟩
   refine ⟨_, rfl, (j : Int), rfl, _, rfl, ?_⟩
   rw [decide_eq_true (by omega : (0 : Int) ≤ j), decide_eq_true (by omega : (j : Int) ≤ 3)]
   exact iteF k
def sp_check_house_has (CH : Addr) : Sp := fun vs H Q _ => ∃ p sz tap, ∃ (j : Nat), vs = [.ref p, .int j] ∧ House CH H p sz tap ∧ j < sz.length ∧ ∀ H', Same H H' → Q .non H'
theorem ok_check_house_has {f : Addr} {fd : FuncData} (F : Fun K "check_house_has" "check_house_has" s_check_house_has f fd) (B : Bt mg) (S : me% 1 CH "sizes" ["self"] (sp_sizes CH)) :
   fo% CX0 2 f fd ["house", "jug"] (sp_check_house_has CH) := by
 gok F.ok sc_check_house_has
 · obtain ⟨p, sz, tap, j, rfl, _⟩ := h
   rfl
 · obtain ⟨p, sz, tap, j, rfl, hh, hj, k⟩ := h
   obtain ⟨dx, t, hp, ht⟩ := id hh
   refine ⟨_, s1' (ps_if (pt_cmpR op_ge (pv 1) (eZ call_len_seq (by rfl) B.len PySem.boot_len (pK (pe_me0 S (pv 0) hr) pN)) (nomark _)) sV sN), ?_⟩
   refine ⟨_, rfl, _, rfl, p, dx, _, rfl, hp, hF_no _ _ (by decide +kernel) (by decide +kernel), p, sz, tap, rfl, hh, fun m hm => ?_⟩
   refine ⟨m, _, rfl, .inl (SqL.of uS), _, _, rfl, rfl, _, rfl, ?_⟩
   rw [decide_eq_false (by simp; omega)]
   exact iteF (k _ (Same.new hm))
def sp_check_house_can_tap (CH : Addr) : Sp := fun vs H Q _ => ∃ p sz, ∃ (j : Nat), vs = [.ref p, .int j] ∧ House CH H p sz true ∧ j < sz.length ∧ ∀ H', Same H H' → Q .non H'
theorem ok_check_house_can_tap {f : Addr} {fd : FuncData} (F : Fun K "check_house_can_tap" "check_house_can_tap" s_check_house_can_tap f fd) (C : CHs K CH) (N : fb% 2 "check_house_has_moves" ["house", "jug"] (sp_check_house_has CH)) :
   fo% CX0 3 f fd ["house", "jug"] (sp_check_house_can_tap CH) := by
 gok F.ok sc_check_house_can_tap
 · obtain ⟨p, sz, j, rfl, _⟩ := h
   rfl
 · obtain ⟨p, sz, j, rfl, hh, hj, k⟩ := h
   refine ⟨_, sK (ps_expr (eF N hr (pK (pv 0) (pK (pv 1) pN)))) (s1' (ps_if (pt_not (pt_val (pe_fld (pv 0) rfl))) sV sN)), ?_⟩
   refine ⟨_, rfl, _, rfl, p, sz, true, j, rfl, hh, hj, fun H1 s1 => ?_⟩
   obtain ⟨dx, t, hp, ht⟩ := hh.mono s1
   exact ⟨_, rfl, p, CH, dx, _, _, rfl, hp, C.cl, C.tap, hF_tap _ _, _, rfl, iteF (k _ s1)⟩
def sp_Pour_init (Z : Cz) : Sp := fun vs H Q _ => ∃ (p dx : Addr) (a b : Nat), vs = [.ref p, .int a, .int b] ∧ H p = some (.ins Z.P dx []) ∧ a ≤ 3 ∧ b ≤ 3 ∧ a ≠ b ∧
 ∀ H', (∀ c o, H c = some o → c ≠ p → H' c = some o) → H' p = some (.ins Z.P dx (pF a b)) → Q .non H'
theorem ok_Pour_init {f : Addr} {fd : FuncData} (F : Fun K "__init__" "Pour.__init__" s_Pour_init f fd) (C : CPo K Z.P) (N : fb% 3 "check_jug_moves" ["jug"] sp_check_jug) :
   fo% CX0 4 f fd ["self", "one", "other"] (sp_Pour_init Z) := by
 gok F.ok sc_Pour_init
 · obtain ⟨p, dx, a, b, rfl, _⟩ := h
   rfl
 · obtain ⟨p, dx, a, b, rfl, hp, ha, hb, hab, k⟩ := h
   refine ⟨_, sK (ps_expr (eF N hr (pK (pv 1) pN))) (sK (ps_expr (eF N hr (pK (pv 2) pN)))
     (sK (ps_if (pt_cmpR op_eq (pv 1) (pv 2) (nomark _)) sV sN)
     (sK (ps_fld (pv 0) (pv 1) rfl) (s1' (ps_fld (pv 0) (pv 2) rfl))))), ?_⟩
   refine ⟨_, rfl, a, rfl, ha, ?_⟩
   refine ⟨_, rfl, b, rfl, hb, ?_⟩
   refine ⟨_, rfl, _, rfl, rfl, _, rfl, ?_⟩
   rw [decide_eq_false (by simp; omega)]
   refine iteF ?_
   refine ⟨_, rfl, _, rfl, p, Z.P, dx, [], rfl, hp, C.cl, C.one, (by show 0 < 1000; decide), ?_⟩
   refine ⟨_, rfl, _, rfl, p, Z.P, dx, _, rfl, uS, C.cl, C.other, (by show 1 < 1000; decide), ?_⟩
   exact k _ (fun c o e hc => by rw [uN hc, uN hc]; exact e) uS
def sp_jug_init (C : Addr) : Sp := fun vs H Q _ => ∃ (p dx : Addr) (a : Nat), vs = [.ref p, .int a] ∧ H p = some (.ins C dx []) ∧ a ≤ 3 ∧
 ∀ H', (∀ c o, H c = some o → c ≠ p → H' c = some o) → H' p = some (.ins C dx (jF a)) → Q .non H'
theorem ok_Fill_init {f : Addr} {fd : FuncData} (F : Fun K "__init__" "Fill.__init__" s_Fill_init f fd) (C : CJu K Z.F) (N : fb% 3 "check_jug_moves" ["jug"] sp_check_jug) :
   fo% CX0 4 f fd ["self", "jug"] (sp_jug_init Z.F) := by
 gok F.ok sc_Fill_init
 · obtain ⟨p, dx, a, rfl, _⟩ := h
   rfl
 · obtain ⟨p, dx, a, rfl, hp, ha, k⟩ := h
   refine ⟨_, sK (ps_expr (eF N hr (pK (pv 1) pN))) (s1' (ps_fld (pv 0) (pv 1) rfl)), ?_⟩
   refine ⟨_, rfl, a, rfl, ha, ?_⟩
   refine ⟨_, rfl, _, rfl, p, Z.F, dx, [], rfl, hp, C.cl, C.jug, (by show 0 < 1000; decide), ?_⟩
   exact k _ (fun c o e hc => by rw [uN hc]; exact e) uS
theorem ok_Empty_init {f : Addr} {fd : FuncData} (F : Fun K "__init__" "Empty.__init__" s_Empty_init f fd) (C : CJu K Z.E) (N : fb% 3 "check_jug_moves" ["jug"] sp_check_jug) :
   fo% CX0 4 f fd ["self", "jug"] (sp_jug_init Z.E) := by
 gok F.ok sc_Empty_init
 · obtain ⟨p, dx, a, rfl, _⟩ := h
   rfl
 · obtain ⟨p, dx, a, rfl, hp, ha, k⟩ := h
   refine ⟨_, sK (ps_expr (eF N hr (pK (pv 1) pN))) (s1' (ps_fld (pv 0) (pv 1) rfl)), ?_⟩
   refine ⟨_, rfl, a, rfl, ha, ?_⟩
   refine ⟨_, rfl, _, rfl, p, Z.E, dx, [], rfl, hp, C.cl, C.jug, (by show 0 < 1000; decide), ?_⟩
   exact k _ (fun c o e hc => by rw [uN hc]; exact e) uS
def sp_hb (Z : Cz) (CH : Addr) (ok : J.Mv → Prop) : Sp := fun vs H Q _ => ∃ p h l sz tap st m, vs = [.ref p, .ref h, .ref l] ∧ ok m ∧ MvAt Z H p m ∧ House CH H h sz tap ∧ H l = some (.lst (st.map V.int)) ∧ J.IsSt sz st ∧ m.ok sz.length tap ∧
 ∀ r H', Same H H' → H' r = some (.lst ((J.behind sz st m).map V.int)) → Q (.ref r) H'
def isPour : J.Mv → Prop := fun m => match m with | .pour _ _ => True | _ => False
def isFill : J.Mv → Prop := fun m => match m with | .fill _ => True | _ => False
def isEmp : J.Mv → Prop := fun m => match m with | .emp _ => True | _ => False
theorem ok_Pour_hb {f : Addr} {fd : FuncData} (F : Fun K "held_behind" "Pour.held_behind" s_Pour_held_behind f fd) (B : Bt mg) (C : CPo K Z.P) (N : fb% 2 "check_house_has_moves" ["house", "jug"] (sp_check_house_has CH))
   (S : me% 1 CH "sizes" ["self"] (sp_sizes CH)) (W : fb% 1 "with_amount" ["held", "jug", "many"] sp_with_amount) :
   fo% CX0 3 f fd ["self", "house", "held"] (sp_hb Z CH isPour) := by
 gok F.ok sc_Pour_held_behind
 · obtain ⟨p, h', l, sz, tap, st, m, rfl, _⟩ := h
   rfl
 · obtain ⟨p, q, l, sz, tap, st, m, rfl, hm, hmv, hh, hl, hst, hok, k⟩ := h
   cases m with
   | fill a => exact hm.elim
   | emp a => exact hm.elim
   | pour a b =>
     obtain ⟨ha, hb, hab⟩ := hok
     have hr1 : Room 1 _ := hr.mono (by decide)
     have la : a < st.length := by rw [hst.len]; exact ha
     have lb : b < st.length := by rw [hst.len]; exact hb
     refine ⟨_, sK (ps_expr (eF N hr (pK (pv 1) (pK (pe_fld (pv 0) rfl) pN)))) (sK (ps_expr (eF N hr (pK (pv 1) (pK (pe_fld (pv 0) rfl) pN))))
       (sK (sS (i := 3) sc_Pour_held_behind.nd rfl (Or.inl rfl) (pe_op op_sub (pe_ix ix_list (pe_me0 S (pv 1) hr1) (pe_fld (pv 0) rfl) (fun _ _ => rfl)) (pe_ix ix_list (pv 2) (pe_fld (pv 0) rfl) (fun _ _ => rfl))))
       (sK (sS (i := 4) sc_Pour_held_behind.nd rfl (Or.inl rfl) (eZ (call_min2 rfl) (by rfl) B.min bt_min (pK (pe_ix ix_list (pv 2) (pe_fld (pv 0) rfl) (fun _ _ => rfl)) (pK (pv 3) pN))))
       (sK (sS (i := 5) sc_Pour_held_behind.nd rfl (Or.inl rfl) (eF W hr1 (pK (pv 2) (pK (pe_fld (pv 0) rfl) (pK (pe_op op_sub (pe_ix ix_list (pv 2) (pe_fld (pv 0) rfl) (fun _ _ => rfl)) (pv 4)) pN)))))
       (s1' (sR (eF W hr1 (pK (pv 5) (pK (pe_fld (pv 0) rfl) (pK (pe_op op_add (pe_ix ix_list (pv 2) (pe_fld (pv 0) rfl) (fun _ _ => rfl)) (pv 4)) pN)))))))))), ?_⟩
     obtain ⟨dp, hp⟩ := hmv
     have hp : H p = some (.ins Z.P dp (pF a b)) := hp
     refine ⟨_, rfl, _, rfl, p, Z.P, dp, _, _, rfl, hp, C.cl, C.one, pF_one _ _, q, sz, tap, a, rfl, hh, ha, fun H1 s1 => ?_⟩
     refine ⟨_, rfl, _, rfl, p, Z.P, dp, _, _, rfl, s1 _ _ hp, C.cl, C.other, pF_other _ _, q, sz, tap, b, rfl, hh.mono s1, hb, fun H2 s2 => ?_⟩
     have s02 := s1.trans s2
     obtain ⟨dq, t, hq, ht⟩ := hh.mono s02
     refine ⟨_, rfl, q, dq, _, rfl, hq, hF_no _ _ (by decide +kernel) (by decide +kernel), q, sz, tap, rfl, hh.mono s02, fun x hx => ?_⟩
     have s03 : Same H (upd H2 x (.lst (sz.map V.int))) := s02.lay hx
     refine ⟨_, rfl, p, Z.P, dp, _, _, rfl, s03 _ _ hp, C.cl, C.other, pF_other _ _, x, _, _, _, rfl, rfl, SqL.of uS, atI_nat (getV_of hb), ?_⟩
     refine ⟨_, rfl, _, rfl, p, Z.P, dp, _, _, rfl, s03 _ _ hp, C.cl, C.other, pF_other _ _, l, _, _, _, rfl, rfl, SqL.of (s03 _ _ hl), atI_nat (getV_of lb), _, _, rfl, rfl, ?_⟩
     refine ⟨_, rfl, _, rfl, p, Z.P, dp, _, _, rfl, s03 _ _ hp, C.cl, C.one, pF_one _ _, l, _, _, _, rfl, rfl, SqL.of (s03 _ _ hl), atI_nat (getV_of la), _, rfl, _, _, rfl, ?_⟩
     refine ⟨_, rfl, _, rfl, p, Z.P, dp, _, _, rfl, s03 _ _ hp, C.cl, C.one, pF_one _ _, _, rfl, _, rfl, p, Z.P, dp, _, _, rfl, s03 _ _ hp, C.cl, C.one, pF_one _ _, l, _, _, _, rfl, rfl, SqL.of (s03 _ _ hl), atI_nat (getV_of la), _, rfl, _, _, rfl, rfl, l, st, a, _, rfl, s03 _ _ hl, la, fun r H4 s4 e4 => ?_⟩
     have s04 := s03.trans s4
     refine ⟨_, rfl, _, rfl, p, Z.P, dp, _, _, rfl, s04 _ _ hp, C.cl, C.other, pF_other _ _, _, rfl, _, rfl, p, Z.P, dp, _, _, rfl, s04 _ _ hp, C.cl, C.other, pF_other _ _, l, _, _, _, rfl, rfl, SqL.of (s04 _ _ hl), atI_nat (getV_of lb), _, rfl, _, _, rfl, rfl, r, _, b, _, rfl, e4, (by simpa using lb), fun r' H5 s5 e5 => ?_⟩
     exact k r' H5 (s04.trans s5) e5
end
end Jug
namespace Jug
open PySem L2
def fx : HO → Bool
 | .lst _ => false
 | .dK _ => false
 | .dT _ => false
 | _ => true
def Fix (H H' : Hp) : Prop := ∀ c o, H c = some o → fx o = true → H' c = some o
theorem Fix.of {H H' : Hp} (s : Same H H') : Fix H H' := fun c o e _ => s c o e
theorem Fix.trans {H H1 H2 : Hp} (a : Fix H H1) (b : Fix H1 H2) : Fix H H2 := fun c o e f => b c o (a c o e f) f
theorem Fix.put {H : Hp} {l : Addr} {o o' : HO} (h : H l = some o) (f : fx o = false) : Fix H (upd H l o') := fun c u e g => by
 rw [uN]
 · exact e
 · rintro rfl
   rw [h] at e
   cases e
   rw [f] at g
   cases g
theorem MvAt.fix {Z : Cz} {H H' : Hp} {p : Addr} {m : J.Mv} (h : MvAt Z H p m) (s : Fix H H') : MvAt Z H' p m := let ⟨dx, e⟩ := h; ⟨dx, s _ _ e rfl⟩
theorem House.fix {CH : Addr} {H H' : Hp} {p : Addr} {sz : List Int} {tap : Bool} (h : House CH H p sz tap) (s : Fix H H') : House CH H' p sz tap := by
 obtain ⟨dx, t, h1, h2⟩ := h
 exact ⟨dx, t, s _ _ h1 rfl, s _ _ h2 rfl⟩
def isM (Z : Cz) (H : Hp) : V → J.Mv → Prop := fun v m => ∃ p, v = .ref p ∧ MvAt Z H p m
def isTI (H : Hp) : V → List Int → Prop := fun v st => ∃ a, v = .ref a ∧ H a = some (.tup (st.map V.int))
theorem isM.fix {Z : Cz} {H H' : Hp} (s : Fix H H') : ∀ v m, isM Z H v m → isM Z H' v m := fun _ _ ⟨p, e, h⟩ => ⟨p, e, h.fix s⟩
theorem isTI.fix {H H' : Hp} (s : Fix H H') : ∀ v m, isTI H v m → isTI H' v m := fun _ _ ⟨p, e, h⟩ => ⟨p, e, s _ _ h rfl⟩
theorem pm_fix {Z : Cz} {H H' : Hp} {vs : List V} {ms : List J.Mv} (h : Paired (isM Z H) vs ms) (s : Fix H H') : Paired (isM Z H') vs ms := Paired.mapP h (isM.fix s)
theorem pt_fix {H H' : Hp} {vs : List V} {ms : List (List Int)} (h : Paired (isTI H) vs ms) (s : Fix H H') : Paired (isTI H') vs ms := Paired.mapP h (isTI.fix s)
structure CTy (K : W.Frag) (C : Addr) : Prop where
 ha : W.findIn K (.ref C) "__class__" = some (some (.builtin "object.__class__"))
 hn : W.specialIn K (.builtin "object.__class__") "__get__" = some (some (.builtin "getset_descriptor.__get__"))
 htk : W.takesIn K (.builtin "object.__class__") = some true
 hm : W.mroIn K C (.type "object") = some true
structure MvC (K : W.Frag) (mg : Str → Option Value) (Z : Cz) : Prop where
 po : CPo K Z.P
 fi : CJu K Z.F
 em : CJu K Z.E
 tP : CTy K Z.P
 tF : CTy K Z.F
 tE : CTy K Z.E
 gP : mg "Pour" = some (.ref Z.P)
 gF : mg "Fill" = some (.ref Z.F)
 gE : mg "Empty" = some (.ref Z.E)
 kFP : W.kitOne K (.ref Z.F) (.ref Z.P) = some false
 kEP : W.kitOne K (.ref Z.E) (.ref Z.P) = some false
 kEF : W.kitOne K (.ref Z.E) (.ref Z.F) = some false
theorem kit_self {K : W.Frag} (C : Addr) : W.kitOne K (.ref C) (.ref C) = some true := by
 unfold W.kitOne
 rw [if_pos (by simp)]
theorem MvC.ty {K : W.Frag} {mg : Str → Option Value} {Z : Cz} (M : MvC K mg Z) {H : Hp} {p : Addr} {m : J.Mv} (h : MvAt Z H p m) : TyOf K H (.ref p) (.ref (Z.cl m)) := by
 obtain ⟨dx, h⟩ := h
 cases m with
 | pour a b => exact .ins h M.po.cl M.tP.ha M.tP.hn M.tP.htk M.tP.hm
 | fill a => exact .ins h M.fi.cl M.tF.ha M.tF.hn M.tF.htk M.tF.hm
 | emp a => exact .ins h M.em.cl M.tE.ha M.tE.hn M.tE.htk M.tE.hm
theorem MvC.any {K : W.Frag} {mg : Str → Option Value} {Z : Cz} (M : MvC K mg Z) (m : J.Mv) : W.kitAny K (.ref (Z.cl m)) [.ref Z.P, .ref Z.F, .ref Z.E] = some true := by
 cases m with
 | pour a b => show (match W.kitOne K (.ref Z.P) (.ref Z.P) with | some true => some true | some false => _ | none => none) = _; rw [kit_self]
 | fill a =>
   show (match W.kitOne K (.ref Z.F) (.ref Z.P) with | some true => some true | some false => (match W.kitOne K (.ref Z.F) (.ref Z.F) with | some true => some true | some false => _ | none => none) | none => none) = _
   rw [M.kFP]; dsimp only; rw [kit_self]
 | emp a =>
   show (match W.kitOne K (.ref Z.E) (.ref Z.P) with | some true => some true | some false => (match W.kitOne K (.ref Z.E) (.ref Z.F) with | some true => some true | some false => (match W.kitOne K (.ref Z.E) (.ref Z.E) with | some true => some true | some false => _ | none => none) | none => none) | none => none) = _
   rw [M.kEP]; dsimp only; rw [M.kEF]; dsimp only; rw [kit_self]
section
v5%
variable {CH : Addr} {Z : Cz}
theorem ok_Fill_hb {f : Addr} {fd : FuncData} (F : Fun K "held_behind" "Fill.held_behind" s_Fill_held_behind f fd) (B : Bt mg) (C : CJu K Z.F) (N : fb% 3 "check_house_can_tap" ["house", "jug"] (sp_check_house_can_tap CH))
   (S : me% 1 CH "sizes" ["self"] (sp_sizes CH)) (W : fb% 1 "with_amount" ["held", "jug", "many"] sp_with_amount) :
   fo% CX0 4 f fd ["self", "house", "held"] (sp_hb Z CH isFill) := by
 gok F.ok sc_Fill_held_behind
 · obtain ⟨p, h', l, sz, tap, st, m, rfl, _⟩ := h
   rfl
 · obtain ⟨p, q, l, sz, tap, st, m, rfl, hm, hmv, hh, hl, hst, hok, k⟩ := h
   cases m with
   | pour a b => exact hm.elim
   | emp a => exact hm.elim
   | fill a =>
     obtain ⟨ha, rfl⟩ := hok
     have hr1 : Room 1 _ := hr.mono (by decide)
     have la : a < st.length := by rw [hst.len]; exact ha
     refine ⟨_, sK (ps_expr (eF N hr (pK (pv 1) (pK (pe_fld (pv 0) rfl) pN))))
       (s1' (sR (eF W hr1 (pK (pv 2) (pK (pe_fld (pv 0) rfl) (pK (pe_ix ix_list (pe_me0 S (pv 1) hr1) (pe_fld (pv 0) rfl) (fun _ _ => rfl)) pN)))))), ?_⟩
     obtain ⟨dp, hp⟩ := hmv
     have hp : H p = some (.ins Z.F dp (jF a)) := hp
     refine ⟨_, rfl, _, rfl, p, Z.F, dp, _, _, rfl, hp, C.cl, C.jug, jF_jug _, q, sz, a, rfl, hh, ha, fun H1 s1 => ?_⟩
     obtain ⟨dq, t, hq, ht⟩ := hh.mono s1
     refine ⟨_, rfl, _, rfl, p, Z.F, dp, _, _, rfl, s1 _ _ hp, C.cl, C.jug, jF_jug _, _, rfl, q, dq, _, rfl, hq, hF_no _ _ (by decide +kernel) (by decide +kernel), q, sz, true, rfl, hh.mono s1, fun x hx => ?_⟩
     have s2 : Same H (upd H1 x (.lst (sz.map V.int))) := s1.lay hx
     refine ⟨_, rfl, p, Z.F, dp, _, _, rfl, s2 _ _ hp, C.cl, C.jug, jF_jug _, x, _, _, _, rfl, rfl, SqL.of uS, atI_nat (getV_of ha), l, st, a, _, rfl, s2 _ _ hl, la, fun r H4 s4 e4 => ?_⟩
     exact k r H4 (s2.trans s4) e4
theorem ok_Empty_hb {f : Addr} {fd : FuncData} (F : Fun K "held_behind" "Empty.held_behind" s_Empty_held_behind f fd) (B : Bt mg) (C : CJu K Z.E) (N : fb% 3 "check_house_can_tap" ["house", "jug"] (sp_check_house_can_tap CH))
   (W : fb% 1 "with_amount" ["held", "jug", "many"] sp_with_amount) :
   fo% CX0 4 f fd ["self", "house", "held"] (sp_hb Z CH isEmp) := by
 gok F.ok sc_Empty_held_behind
 · obtain ⟨p, h', l, sz, tap, st, m, rfl, _⟩ := h
   rfl
 · obtain ⟨p, q, l, sz, tap, st, m, rfl, hm, hmv, hh, hl, hst, hok, k⟩ := h
   cases m with
   | pour a b => exact hm.elim
   | fill a => exact hm.elim
   | emp a =>
     obtain ⟨ha, rfl⟩ := hok
     have hr1 : Room 1 _ := hr.mono (by decide)
     have la : a < st.length := by rw [hst.len]; exact ha
     refine ⟨_, sK (ps_expr (eF N hr (pK (pv 1) (pK (pe_fld (pv 0) rfl) pN))))
       (s1' (sR (eF W hr1 (pK (pv 2) (pK (pe_fld (pv 0) rfl) (pK eI pN)))))), ?_⟩
     obtain ⟨dp, hp⟩ := hmv
     have hp : H p = some (.ins Z.E dp (jF a)) := hp
     refine ⟨_, rfl, _, rfl, p, Z.E, dp, _, _, rfl, hp, C.cl, C.jug, jF_jug _, q, sz, a, rfl, hh, ha, fun H1 s1 => ?_⟩
     refine ⟨_, rfl, _, rfl, p, Z.E, dp, _, _, rfl, s1 _ _ hp, C.cl, C.jug, jF_jug _, l, st, a, _, rfl, s1 _ _ hl, la, fun r H4 s4 e4 => ?_⟩
     exact k r H4 (s1.trans s4) e4
def sp_done (Z : Cz) (CH : Addr) : Sp := fun vs H Q _ => ∃ p h a sz tap st m, vs = [.ref p, .ref h, .ref a] ∧ MvAt Z H p m ∧ House CH H h sz tap ∧ H a = some (.tup (st.map V.int)) ∧ J.IsSt sz st ∧ m.ok sz.length tap ∧
 ∀ r H', Same H H' → H' r = some (.tup ((J.behind sz st m).map V.int)) → Q (.ref r) H'
theorem ok_done {f : Addr} {fd : FuncData} (F : Fun K "done" "Move.done" s_Move_done f fd) (B : Bt mg) (N : fb% 2 "held_in" ["house", "state"] (sp_held_in CH))
   (HP : me% 4 Z.P "held_behind" ["self", "house", "held"] (sp_hb Z CH isPour)) (HF : me% 4 Z.F "held_behind" ["self", "house", "held"] (sp_hb Z CH isFill)) (HE : me% 4 Z.E "held_behind" ["self", "house", "held"] (sp_hb Z CH isEmp)) :
   fo% CX0 5 f fd ["self", "house", "state"] (sp_done Z CH) := by
 gok F.ok sc_Move_done
 · obtain ⟨p, h', a, sz, tap, st, m, rfl, _⟩ := h
   rfl
 · obtain ⟨p, q, a, sz, tap, st, m, rfl, hmv, hh, ha, hst, hok, k⟩ := h
   have hr2 : Room 2 _ := hr.mono (by decide)
   obtain ⟨dp, hp⟩ := id hmv
   cases m with
   | pour x y =>
     refine ⟨_, sK (sS (i := 3) sc_Move_done.nd rfl (Or.inl rfl) (eF N hr2 (pK (pv 1) (pK (pv 2) pN))))
       (s1' (sR (eT cT (by rfl) B.tuple bt_tuple (pK (pe_me HP (pv 0) hr (pK (pv 1) (pK (pv 3) pN))) pN)))), ?_⟩
     refine ⟨_, rfl, _, rfl, q, sz, tap, a, st, rfl, hh, ha, hst, fun l H1 s1 nl hl => ?_⟩
     refine ⟨_, rfl, p, dp, _, rfl, s1 _ _ hp, pF_no _ _ (by decide +kernel) (by decide +kernel), _, rfl, _, rfl, p, q, l, sz, tap, st, .pour x y, rfl, trivial, hmv.mono s1, hh.mono s1, hl, hst, hok, fun r H2 s2 hr2 => ?_⟩
     exact ⟨r, _, rfl, .inl ⟨SqL.of hr2, fun t nt => k t _ ((s1.trans s2).lay nt) uS⟩⟩
   | fill x =>
     refine ⟨_, sK (sS (i := 3) sc_Move_done.nd rfl (Or.inl rfl) (eF N hr2 (pK (pv 1) (pK (pv 2) pN))))
       (s1' (sR (eT cT (by rfl) B.tuple bt_tuple (pK (pe_me HF (pv 0) hr (pK (pv 1) (pK (pv 3) pN))) pN)))), ?_⟩
     refine ⟨_, rfl, _, rfl, q, sz, tap, a, st, rfl, hh, ha, hst, fun l H1 s1 nl hl => ?_⟩
     refine ⟨_, rfl, p, dp, _, rfl, s1 _ _ hp, jF_no _ (by decide +kernel), _, rfl, _, rfl, p, q, l, sz, tap, st, .fill x, rfl, trivial, hmv.mono s1, hh.mono s1, hl, hst, hok, fun r H2 s2 hr2 => ?_⟩
     exact ⟨r, _, rfl, .inl ⟨SqL.of hr2, fun t nt => k t _ ((s1.trans s2).lay nt) uS⟩⟩
   | emp x =>
     refine ⟨_, sK (sS (i := 3) sc_Move_done.nd rfl (Or.inl rfl) (eF N hr2 (pK (pv 1) (pK (pv 2) pN))))
       (s1' (sR (eT cT (by rfl) B.tuple bt_tuple (pK (pe_me HE (pv 0) hr (pK (pv 1) (pK (pv 3) pN))) pN)))), ?_⟩
     refine ⟨_, rfl, _, rfl, q, sz, tap, a, st, rfl, hh, ha, hst, fun l H1 s1 nl hl => ?_⟩
     refine ⟨_, rfl, p, dp, _, rfl, s1 _ _ hp, jF_no _ (by decide +kernel), _, rfl, _, rfl, p, q, l, sz, tap, st, .emp x, rfl, trivial, hmv.mono s1, hh.mono s1, hl, hst, hok, fun r H2 s2 hr2 => ?_⟩
     exact ⟨r, _, rfl, .inl ⟨SqL.of hr2, fun t nt => k t _ ((s1.trans s2).lay nt) uS⟩⟩
def sp_moves_in (Z : Cz) : Sp := fun vs H Q _ => ∃ l xs ms, vs = [.ref l] ∧ H l = some (.lst xs) ∧ Paired (isM Z H) xs ms ∧ ∀ r H', Same H H' → H r = none → H' r = some (.lst xs) → Q (.ref r) H'
theorem ok_moves_in {f : Addr} {fd : FuncData} (F : Fun K "moves_in" "moves_in" s_moves_in f fd) (B : Bt mg) (M : MvC K mg Z) : fo% CX0 1 f fd ["moves"] (sp_moves_in Z) := by
 gok F.ok sc_moves_in
 · obtain ⟨l, xs, ms, rfl, _⟩ := h
   rfl
 · obtain ⟨l, xs, ms, rfl, hl, hp, k⟩ := h
   refine ⟨_, sK (ps_if (pt_not (pt_val (eZ call_isinst (by rfl) B.isinstance bI (pK (pv 0) (pK (pe_bltn (v := .ty "list") (by rfl) B.list bt_list rfl) pN))))) sV sN)
     (sK (sS (i := 1) sc_moves_in.nd rfl (Or.inl rfl) (eT cL (by rfl) B.list bt_list (pK (pv 0) pN)))
     (sK (ps_for PassesOwn.never rfl (pi_list (pv 1)) (pg_name (i := 2) sc_moves_in.nd rfl (Or.inl rfl))
       (s1' (ps_if (pt_not (pt_val (eZ call_isinstT (by rfl) B.isinstance bI (pK (pv 2) (pK (pe_tup (pK (pe_glob (v := .ref Z.P) (by rfl) M.gP rfl) (pK (pe_glob (v := .ref Z.F) (by rfl) M.gF rfl) (pK (pe_glob (v := .ref Z.E) (by rfl) M.gE rfl) pN)))) pN))))) sV sN)))
     (s1' (sR (pv 1))))), ?_⟩
   refine ⟨_, rfl, _, _, _, _, _, rfl, .ty "list", .lst hl, kit_ll, _, rfl, iteF ?_⟩
   refine ⟨_, rfl, l, _, rfl, .inl (SqL.of hl), fun r nr => ?_⟩
   have s1 : Same H (upd H r (.lst xs)) := Same.new nr
   refine ⟨_, rfl, r, rfl, ⟨_, SqL.of uS⟩, for_list (K := K) (a := r) (xs := xs) (fun i σ H' => ∃ v, σ = [some (.ref l), some (.ref r), v] ∧ Same (upd H r (.lst xs)) H')
     ⟨none, rfl, Same.refl _⟩ (fun i σ H' _ ⟨_, _, s2⟩ => SqL.of (s2 _ _ uS)) ?_ ?_⟩
   · rintro i x σ H' hx ⟨v, rfl, s2⟩
     obtain ⟨m, hm, p, rfl, hmv⟩ := L2.Paired.get hp hx
     have hmv' := (hmv.mono s1).mono s2
     refine ⟨_, rfl, (z% 3), fun tp nt => ?_⟩
     refine ⟨_, tp, _, _, _, _, rfl, uS, .cons (.ref _) (.cons (.ref _) (.cons (.ref _) .nil)), M.ty (hmv'.mono (Same.new nt)), M.any m, _, rfl, iteF ?_⟩
     exact ⟨_, rfl, s2.lay nt⟩
   · rintro σ H' ⟨v, rfl, s2⟩
     exact ⟨_, rfl, k r H' (s1.trans s2) nr (s2 _ _ uS)⟩
def anyMv (Z : Cz) : Addr → Prop := fun C => C = Z.P ∨ C = Z.F ∨ C = Z.E
theorem anyMv_cl (Z : Cz) (m : J.Mv) : anyMv Z (Z.cl m) := by
 cases m with
 | pour _ _ => exact .inl rfl
 | fill _ => exact .inr (.inl rfl)
 | emp _ => exact .inr (.inr rfl)
theorem fsOf_no (m : J.Mv) {x : Str} (h1 : ¬ x = "other") (h2 : ¬ x = "one") (h3 : ¬ x = "jug") : (fsOf m).lookup x = none := by
 cases m with
 | pour _ _ => exact pF_no _ _ h1 h2
 | fill _ => exact jF_no _ h3
 | emp _ => exact jF_no _ h3
theorem foldl_st {sz st : List Int} {tap : Bool} (hs : ∀ i, i < sz.length → 0 ≤ J.at0 sz i) (hst : J.IsSt sz st) : ∀ (ms : List J.Mv), (∀ m ∈ ms, m.ok sz.length tap) → J.IsSt sz (ms.foldl (J.behind sz) st) := by
 intro ms
 induction ms generalizing st with
 | nil => intro _; exact hst
 | cons m ms ih => intro h; exact ih (hst.behind hs (h m List.mem_cons_self)) fun x hx => h x (List.mem_cons_of_mem _ hx)
end
end Jug
namespace Jug
open PySem L2
structure Hz (sz : List Int) : Prop where
 l1 : 1 ≤ sz.length
 l4 : sz.length ≤ 4
 bd : ∀ s ∈ sz, 1 ≤ s ∧ s ≤ 60
 pr : J.prod1 sz ≤ 2000
theorem Hz.nn {sz : List Int} (h : Hz sz) : ∀ i, i < sz.length → 0 ≤ J.at0 sz i := fun i hi => by
 have := h.bd _ (List.mem_of_getElem? (get_of hi))
 omega
theorem prod_pos : ∀ (sz : List Int) (p : Int), (∀ s ∈ sz, 0 ≤ s) → 1 ≤ p → p ≤ sz.foldl (fun m s => m * (s + 1)) p
 | [], p, _, h => Int.le_refl _
 | s :: r, p, hs, h => by
   have h0 := hs s List.mem_cons_self
   have h1 : p ≤ p * (s + 1) := by
     have := Int.mul_le_mul_of_nonneg_left (show (1 : Int) ≤ s + 1 by omega) (show (0 : Int) ≤ p by omega)
     omega
   have := prod_pos r (p * (s + 1)) (fun x hx => hs x (List.mem_cons_of_mem _ hx)) (by omega)
   rw [List.foldl_cons]; omega
theorem take_states_le {sz : List Int} (hs : ∀ s ∈ sz, 0 ≤ s) (i : Nat) : ((sz.take i).foldl J.more [[]]).length ≤ (J.states sz).length := by
 have h1 := J.len_fold (sz.take i) (fun s h => hs s (List.mem_of_mem_take h)) [[]] 1 (by simp)
 have h2 := J.len_fold (sz.drop i) (fun s h => hs s (List.mem_of_mem_drop h)) ((sz.take i).foldl J.more [[]]) _ h1
 have h3 : J.states sz = (sz.drop i).foldl J.more ((sz.take i).foldl J.more [[]]) := by
   unfold J.states
   conv => lhs; rw [← List.take_append_drop i sz, List.foldl_append]
 have h4 := prod_pos (sz.take i) 1 (fun s h => hs s (List.mem_of_mem_take h)) (by omega)
 have h5 := prod_pos (sz.drop i) _ (fun s h => hs s (List.mem_of_mem_drop h)) (by omega : 1 ≤ List.foldl (fun m s => m * (s + 1)) 1 (sz.take i))
 rw [h3]
 omega
theorem Hz.states_le {sz : List Int} (h : Hz sz) : (J.states sz).length ≤ 2000 := by
 have h1 := J.len_states (sz := sz) fun s hs => by have := h.bd s hs; omega
 have h2 := h.pr
 omega
section
v5%
variable {CH : Addr} {Z : Cz}
def sp_count_states : Sp := fun vs H Q _ => ∃ l sz, vs = [.ref l] ∧ H l = some (.lst (sz.map V.int)) ∧ (∀ s ∈ sz, 1 ≤ s ∧ s ≤ 60) ∧ Q (.int (J.prod1 sz)) H
theorem ok_count_states {f : Addr} {fd : FuncData} (F : Fun K "count_states" "count_states" s_count_states f fd) : fo% CX0 1 f fd ["sizes"] sp_count_states := by
 gok F.ok sc_count_states
 · obtain ⟨l, sz, rfl, _⟩ := h
   rfl
 · obtain ⟨l, sz, rfl, hl, hb, k⟩ := h
   refine ⟨_, sK (sS (i := 1) sc_count_states.nd rfl (Or.inl rfl) eI)
     (sK (ps_for PassesOwn.never rfl (pi_list (pv 0)) (pg_name (i := 2) sc_count_states.nd rfl (Or.inl rfl))
       (s1' (sS (i := 1) sc_count_states.nd rfl (Or.inl rfl) (pe_op op_mul (pv 1) (pe_op op_add (pv 2) eI)))))
     (s1' (sR (pv 1)))), ?_⟩
   refine ⟨_, rfl, l, rfl, ⟨_, SqL.of hl⟩, for_list (K := K) (a := l) (xs := sz.map V.int) (fun i σ H' => ∃ v, σ = [some (.ref l), some (.int ((sz.take i).foldl (fun m s => m * (s + 1)) 1)), v] ∧ H' = H)
     ⟨none, rfl, rfl⟩ (fun i σ H' _ ⟨_, _, e⟩ => by subst e; exact SqL.of hl) ?_ ?_⟩
   · rintro i x σ H' hx ⟨v, rfl, rfl⟩
     obtain ⟨z, ez, rfl⟩ := mem_ints hx
     have hz := hb z (List.mem_of_getElem? ez)
     refine ⟨_, rfl, _, rfl, _, _, rfl, rfl, _, _, rfl, rfl, .inr ⟨by omega, by omega⟩, ?_⟩
     refine ⟨some (.int z), ?_, rfl⟩
     rw [List.take_add_one, ez, List.foldl_append]
     rfl
   · rintro σ H' ⟨v, rfl, rfl⟩
     refine ⟨_, rfl, ?_⟩
     rw [List.length_map, List.take_length]
     exact k
def sp_sizes_in : Sp := fun vs H Q _ => ∃ l sz, vs = [.ref l] ∧ H l = some (.lst (sz.map V.int)) ∧ Hz sz ∧ ∀ r H', Same H H' → H' r = some (.lst (sz.map V.int)) → Q (.ref r) H'
theorem ok_sizes_in {f : Addr} {fd : FuncData} (F : Fun K "sizes_in" "sizes_in" s_sizes_in f fd) (B : Bt mg) (hst : ∃ t, mg "MOST_STATES" = some (.int 2000 t)) (N : fb% 1 "is_number" ["value", "least", "most"] sp_is_number)
   (C : fb% 1 "count_states" ["sizes"] sp_count_states) : fo% CX0 2 f fd ["sizes"] sp_sizes_in := by
 obtain ⟨t4, e4⟩ := B.jugs
 obtain ⟨t60, e60⟩ := B.size
 obtain ⟨t2, e2⟩ := hst
 gok F.ok sc_sizes_in
 · obtain ⟨l, sz, rfl, _⟩ := h
   rfl
 · obtain ⟨l, sz, rfl, hl, hz, k⟩ := h
   refine ⟨_, sK (ps_if (pt_not (pt_val (eZ call_isinst (by rfl) B.isinstance bI (pK (pv 0) (pK (pe_bltn (v := .ty "list") (by rfl) B.list bt_list rfl) pN))))) sV sN)
     (sK (sS (i := 1) sc_sizes_in.nd rfl (Or.inl rfl) (eT cL (by rfl) B.list bt_list (pK (pv 0) pN)))
     (sK (ps_if (pt_not (pt_chain op_le op_le eI (eZ call_len_seq (by rfl) B.len PySem.boot_len (pK (pv 1) pN)) (pe_glob (v := .int 4) (by rfl) e4 ⟨_, rfl⟩))) sV sN)
     (sK (ps_for PassesOwn.never rfl (pi_list (pv 1)) (pg_name (i := 2) sc_sizes_in.nd rfl (Or.inl rfl))
       (s1' (ps_if (pt_not (pt_val (eF N hr (pK (pv 2) (pK eI (pK (pe_glob (v := .int 60) (by rfl) e60 ⟨_, rfl⟩) pN)))))) sV sN)))
     (sK (ps_if (pt_cmpR op_gt (eF C hr (pK (pv 1) pN)) (pe_glob (v := .int 2000) (by rfl) e2 ⟨_, rfl⟩) (nomark _)) sV sN)
     (s1' (sR (pv 1))))))), ?_⟩
   refine ⟨_, rfl, _, _, _, _, _, rfl, .ty "list", .lst hl, kit_ll, _, rfl, iteF ?_⟩
   refine ⟨_, rfl, l, _, rfl, .inl (SqL.of hl), fun r nr => ?_⟩
   have s1 : Same H (upd H r (.lst (sz.map V.int))) := Same.new nr
   refine ⟨_, rfl, r, _, rfl, .inl (SqL.of uS), _, _, rfl, rfl, _, rfl, ?_⟩
   have h1 := hz.l1
   have h4 := hz.l4
   rw [decide_eq_true (by simp; omega)]
   refine iteT ⟨_, _, rfl, rfl, _, rfl, ?_⟩
   rw [decide_eq_true (by simp; omega)]
   refine iteF ?_
   refine ⟨_, rfl, r, rfl, ⟨_, SqL.of uS⟩, for_list (K := K) (a := r) (xs := sz.map V.int) (fun i σ H' => ∃ v, σ = [some (.ref l), some (.ref r), v] ∧ H' = upd H r (.lst (sz.map V.int)))
     ⟨none, rfl, rfl⟩ (fun i σ H' _ ⟨_, _, e⟩ => by subst e; exact SqL.of uS) ?_ ?_⟩
   · rintro i x σ H' hx ⟨v, rfl, rfl⟩
     obtain ⟨z, ez, rfl⟩ := mem_ints hx
     have hb := hz.bd z (List.mem_of_getElem? ez)
     refine ⟨_, rfl, z, 1, 60, rfl, _, rfl, ?_⟩
     rw [decide_eq_true hb.1, decide_eq_true hb.2]
     exact iteF ⟨_, rfl, rfl⟩
   · rintro σ H' ⟨v, rfl, rfl⟩
     refine ⟨_, rfl, r, sz, rfl, uS, hz.bd, _, _, rfl, rfl, _, rfl, ?_⟩
     have := hz.pr
     rw [decide_eq_false (by omega)]
     exact iteF ⟨_, rfl, k r _ s1 uS⟩
def sp_House_init (CH : Addr) : Sp := fun vs H Q _ => ∃ (p dx l : Addr) (sz : List Int) (tap : Bool), vs = [.ref p, .ref l, .bl tap] ∧ H p = some (.ins CH dx []) ∧ H l = some (.lst (sz.map V.int)) ∧ Hz sz ∧
 ∀ H', (∀ c o, H c = some o → c ≠ p → H' c = some o) → House CH H' p sz tap → Q .non H'
theorem ok_House_init {f : Addr} {fd : FuncData} (F : Fun K "__init__" "House.__init__" s_House_init f fd) (B : Bt mg) (C : CHs K CH) (N : fb% 2 "sizes_in" ["sizes"] sp_sizes_in) :
   fo% CX0 3 f fd ["self", "sizes", "tap"] (sp_House_init CH) := by
 gok F.ok sc_House_init
 · obtain ⟨p, dx, l, sz, tap, rfl, _⟩ := h
   rfl
 · obtain ⟨p, dx, l, sz, tap, rfl, hp, hl, hz, k⟩ := h
   refine ⟨_, sK (ps_fld (pv 0) (eT cT (by rfl) B.tuple bt_tuple (pK (eF N hr (pK (pv 1) pN)) pN)) rfl)
     (sK (ps_if (pt_not (pt_val (eZ call_isinst (by rfl) B.isinstance bI (pK (pv 2) (pK (pe_bltn (v := .ty "bool") (by rfl) B.bool bt_bool rfl) pN))))) sV sN)
     (s1' (ps_fld (pv 0) (pv 2) rfl))), ?_⟩
   refine ⟨_, rfl, l, sz, rfl, hl, hz, fun r H1 s1 hr1 => ?_⟩
   refine ⟨r, _, rfl, .inl ⟨SqL.of hr1, fun t nt => ?_⟩⟩
   have s2 : Same H (upd H1 t (.tup (sz.map V.int))) := s1.lay nt
   have tp : t ≠ p := fun e => by subst e; rw [s1 _ _ hp] at nt; cases nt
   refine ⟨_, rfl, p, CH, dx, [], rfl, s2 _ _ hp, C.cl, C.js, (by show 0 < 1000; decide), ?_⟩
   refine ⟨_, rfl, _, _, _, _, _, rfl, .ty "bool", .bl tap, kit_bb, _, rfl, iteF ?_⟩
   refine ⟨_, rfl, _, rfl, p, CH, dx, _, rfl, uS, C.cl, C.tap, (by show 1 < 1000; decide), ?_⟩
   refine k _ (fun c o e hc => by rw [uN hc, uN hc]; exact s2 _ _ e) ⟨dx, t, uS, ?_⟩
   rw [uN tp, uN tp, uS]
end
end Jug
namespace Jug
open PySem L2
def row (n a : Nat) : List J.Mv := ((List.range n).filter fun b => b != a).map fun b => J.Mv.pour a b
def rowTo (a j : Nat) : List J.Mv := ((List.range j).filter fun b => b != a).map fun b => J.Mv.pour a b
theorem rowTo_len (a j : Nat) : (rowTo a j).length ≤ j := by
 unfold rowTo
 rw [List.length_map]
 exact Nat.le_trans (List.length_filter_le _ _) (by simp)
theorem rowTo_eq (a j : Nat) : rowTo a (j + 1) = rowTo a j ++ (if j = a then [] else [J.Mv.pour a j]) := by
 unfold rowTo
 rw [List.range_succ, List.filter_append, List.map_append]
 congr 1
 by_cases h : j = a
 · simp [h]
 · simp [h]
theorem rows_len (n : Nat) : ∀ i, ((List.range i).flatMap (row n)).length ≤ i * n
 | 0 => by simp
 | i + 1 => by
   rw [List.range_succ, List.flatMap_append, List.length_append]
   have := rows_len n i
   have h2 := rowTo_len i n
   simp only [List.flatMap_cons, List.flatMap_nil, List.append_nil]
   have h3 : (row n i).length = (rowTo i n).length := rfl
   rw [Nat.succ_mul]
   omega
theorem Paired.snocP {α β : Type} {F : α → β → Prop} {a : α} {b : β} {l₁ : List α} {l₂ : List β} (h : Paired F l₁ l₂) (h' : F a b) : Paired F (l₁ ++ [a]) (l₂ ++ [b]) := PySem.Paired.snoc h h'
theorem Paired.appP {α β : Type} {F : α → β → Prop} : ∀ {l₁ m₁ : List α} {l₂ m₂ : List β}, Paired F l₁ l₂ → Paired F m₁ m₂ → Paired F (l₁ ++ m₁) (l₂ ++ m₂)
 | _, _, _, _, .nil, h => h
 | _, _, _, _, .cons r t, h => .cons r (Paired.appP t h)
section
v5%
variable {CH : Addr} {Z : Cz}
def sp_pours_among (Z : Cz) : Sp := fun vs H Q _ => ∃ n : Nat, vs = [.int n] ∧ n ≤ 4 ∧ ∀ r H' xs, Same H H' → H r = none → H' r = some (.lst xs) → Paired (isM Z H') xs (J.pours n) → Q (.ref r) H'
theorem ok_pours_among {f : Addr} {fd : FuncData} (F : Fun K "pours_among" "pours_among" s_pours_among f fd) (B : Bt mg) (M : mk% 4 "Pour" Z.P ["self", "one", "other"] (sp_Pour_init Z)) :
   fo% CX0 6 f fd ["many"] (sp_pours_among Z) := by
 gok F.ok sc_pours_among
 · obtain ⟨n, rfl, _⟩ := h
   rfl
 · obtain ⟨n, rfl, hn, k⟩ := h
   refine ⟨_, sK (sS (i := 1) sc_pours_among.nd rfl (Or.inl rfl) (pe_lst pN))
     (sK (ps_for PassesOwn.never rfl (pi_range1 (by rfl) B.range (pK (pv 0) pN)) (pg_name (i := 2) sc_pours_among.nd rfl (Or.inl rfl))
       (s1' (ps_for PassesOwn.never rfl (pi_range1 (by rfl) B.range (pK (pv 0) pN)) (pg_name (i := 3) sc_pours_among.nd rfl (Or.inl rfl))
         (s1' (ps_if (pt_cmpR op_ne (pv 2) (pv 3) (nomark _)) (s1' (ps_expr (pe_append (pv 1) (pe_mk M hr (pK (pv 2) (pK (pv 3) pN)))))) sN)))))
     (s1' (sR (pv 1)))), ?_⟩
   refine ⟨(z% 0), fun r nr => ?_⟩
   have s1 : Same H (upd H r (.lst [])) := Same.new nr
   refine ⟨_, rfl, (n : Int), rfl, by omega, by omega, for_rangeN (n := n) (fun i σ H' => ∃ xs v2 v3, σ = [some (.int n), some (.ref r), v2, v3] ∧ Same H H' ∧ H' r = some (.lst xs) ∧ Paired (isM Z H') xs ((List.range i).flatMap (row n)))
     ⟨[], none, none, rfl, s1, uS, .nil⟩ ?_ ?_⟩
   · rintro i σ H1 hi ⟨xs, v2, v3, rfl, s2, e2, p2⟩
     refine ⟨_, rfl, (n : Int), rfl, by omega, by omega, for_rangeN (n := n) (fun j σ H' => ∃ xs v3, σ = [some (.int n), some (.ref r), some (.int i), v3] ∧ Same H H' ∧ H' r = some (.lst xs) ∧ Paired (isM Z H') xs ((List.range i).flatMap (row n) ++ rowTo i j))
       ⟨xs, v3, rfl, s2, e2, by simpa [rowTo] using p2⟩ ?_ ?_⟩
     · rintro j σ H2 hj ⟨ys, v3, rfl, s3, e3, p3⟩
       refine ⟨_, rfl, _, rfl, rfl, _, rfl, ?_⟩
       by_cases hij : i = j
       · subst hij
         rw [decide_eq_true rfl]
         refine iteF ⟨ys, _, rfl, s3, e3, ?_⟩
         rw [rowTo_eq, if_pos rfl, List.append_nil]
         exact p3
       · rw [decide_eq_false (by simp; omega)]
         refine iteT ?_
         refine ⟨_, rfl, .inl ⟨rfl, _, SqL.of e3⟩, _, rfl, _, rfl, fun x dx nx ndx nex => ?_⟩
         refine ⟨x, dx, i, j, rfl, uS, by omega, by omega, hij, fun H4 kp hx => ⟨rfl, ?_⟩⟩
         have s4 : Same H2 H4 := fun c o e => kp c o (by rw [uN (nN e nx), uN (nN e ndx)]; exact e) (nN e nx)
         have hlen : ys.length ≤ 20 := by
           have h1 := p3.length
           have h2 := rows_len n i
           have h3 := rowTo_len i j
           rw [List.length_append] at h1
           have h4 : i * n ≤ 3 * 4 := Nat.mul_le_mul (by omega) hn
           omega
         refine ⟨r, _, _, rfl, rfl, s4 _ _ e3, small1000 (by omega), ?_⟩
         have fx1 : Fix H4 (upd H4 r (.lst (ys ++ [.ref x]))) := Fix.put (s4 _ _ e3) rfl
         refine ⟨_, _, rfl, (s3.trans s4).put nr, uS, ?_⟩
         rw [rowTo_eq, if_neg (fun e => hij e.symm), ← List.append_assoc]
         exact Paired.snocP (pm_fix p3 ((Fix.of s4).trans fx1)) ⟨x, rfl, dx, fx1 _ _ hx rfl⟩
     · rintro σ H2 ⟨ys, v3, rfl, s3, e3, p3⟩
       refine ⟨ys, _, _, rfl, s3, e3, ?_⟩
       rw [List.range_succ, List.flatMap_append]
       have e : (List.flatMap (row n) [i]) = rowTo i n := by simp [row, rowTo]
       rw [e]; exact p3
   · rintro σ H1 ⟨xs, v2, v3, rfl, s2, e2, p2⟩
     exact ⟨_, rfl, k r H1 xs s2 nr e2 p2⟩
def sp_with_one_more : Sp := fun vs H Q _ => ∃ (l : Addr) (s : Int) (xs : List V) (sts : List (List Int)), vs = [.ref l, .int s] ∧ H l = some (.lst xs) ∧ Paired (isTI H) xs sts ∧ 0 ≤ s ∧ s ≤ 60 ∧ sts.length * (s + 1).toNat ≤ 2000 ∧ (∀ st ∈ sts, st.length ≤ 10) ∧
 ∀ r H' ys, Same H H' → H r = none → H' r = some (.lst ys) → Paired (isTI H') ys (J.more sts s) → Q (.ref r) H'
theorem more_snoc (sts : List (List Int)) (st : List Int) (s : Int) : J.more (sts ++ [st]) s = J.more sts s ++ (List.range (s + 1).toNat).map fun (k : Nat) => st ++ [(k : Int)] := by
 unfold J.more
 rw [List.flatMap_append]
 simp
theorem ok_with_one_more {f : Addr} {fd : FuncData} (F : Fun K "with_one_more" "with_one_more" s_with_one_more f fd) (B : Bt mg) : fo% CX0 1 f fd ["states", "size"] sp_with_one_more := by
 gok F.ok sc_with_one_more
 · obtain ⟨l, s, xs, sts, rfl, _⟩ := h
   rfl
 · obtain ⟨l, z, xs, sts, rfl, hl, hp, h0, h60, hbig, hlen, k⟩ := h
   refine ⟨_, sK (sS (i := 2) sc_with_one_more.nd rfl (Or.inl rfl) (pe_lst pN))
     (sK (ps_for PassesOwn.never rfl (pi_list (pv 0)) (pg_name (i := 3) sc_with_one_more.nd rfl (Or.inl rfl))
       (s1' (ps_for PassesOwn.never rfl (pi_range1 (by rfl) B.range (pK (pe_op op_add (pv 1) eI) pN)) (pg_name (i := 4) sc_with_one_more.nd rfl (Or.inl rfl))
         (s1' (ps_expr (pe_append (pv 2) (pe_op op_catU (pv 3) (pe_tup (pK (pv 4) pN)))))))))
     (s1' (sR (pv 2)))), ?_⟩
   refine ⟨(z% 0), fun r nr => ?_⟩
   have s1 : Same H (upd H r (.lst [])) := Same.new nr
   refine ⟨_, rfl, l, rfl, ⟨_, SqL.of (s1 _ _ hl)⟩, for_list (K := K) (a := l) (xs := xs) (fun i σ H' => ∃ ys v3 v4, σ = [some (.ref l), some (.int z), some (.ref r), v3, v4] ∧ Same H H' ∧ H' r = some (.lst ys) ∧ Paired (isTI H') ys (J.more (sts.take i) z))
     ⟨[], none, none, rfl, s1, uS, by simp [J.more]; exact .nil⟩ (fun i σ H' _ ⟨_, _, _, _, s2, _⟩ => SqL.of (s2 _ _ hl)) ?_ ?_⟩
   · rintro i x σ H1 hx ⟨ys, v3, v4, rfl, s2, e2, p2⟩
     obtain ⟨st, hst, a, rfl, ha⟩ := L2.Paired.get hp hx
     have hi : i < sts.length := (List.getElem?_eq_some_iff.mp hst).1
     have hst4 := hlen st (List.mem_of_getElem? hst)
     refine ⟨_, rfl, _, _, rfl, rfl, z + 1, rfl, by omega, by omega, for_rangeN (n := (z + 1).toNat) (fun j σ H' => ∃ ys v4, σ = [some (.ref l), some (.int z), some (.ref r), some (.ref a), v4] ∧ Same H H' ∧ H' r = some (.lst ys) ∧ Paired (isTI H') ys (J.more (sts.take i) z ++ (List.range j).map fun (k : Nat) => st ++ [(k : Int)]))
       ⟨ys, v4, rfl, s2, e2, by simpa using p2⟩ ?_ ?_⟩
     · rintro j σ H2 hj ⟨ws, v4, rfl, s3, e3, p3⟩
       refine ⟨_, rfl, .inl ⟨rfl, _, SqL.of e3⟩, _, rfl, _, rfl, (z% 1), fun t nt => ?_⟩
       have s4 : Same H2 (upd H2 t (.tup [.int j])) := Same.new nt
       refine ⟨a, t, _, _, rfl, rfl, s4 _ _ (s3 _ _ ha), uS, (by simp; exact Nat.le_of_lt (small1000 (by omega))), fun p H5 s5 e5 => ?_⟩
       have hl5 := s5 _ _ (s4 _ _ e3)
       have hw : ws.length < 2000 := by
         have h1 := p3.length
         rw [List.length_append, J.len_more, List.length_map, List.length_range, List.length_take, Nat.min_eq_left (Nat.le_of_lt hi)] at h1
         have h2 : i * (z + 1).toNat + (z + 1).toNat ≤ sts.length * (z + 1).toNat := by
           rw [← Nat.succ_mul]; exact Nat.mul_le_mul_right _ hi
         omega
       refine ⟨r, _, _, rfl, rfl, hl5, small2000 (by omega), ?_⟩
       have fx1 : Fix H5 (upd H5 r (.lst (ws ++ [.ref p]))) := Fix.put hl5 rfl
       refine ⟨_, _, rfl, ((s3.trans s4).trans s5).put nr, uS, ?_⟩
       rw [List.range_succ, List.map_append, ← List.append_assoc]
       refine Paired.snocP (pt_fix p3 ((Fix.of (s4.trans s5)).trans fx1)) ⟨p, rfl, fx1 _ _ ?_ rfl⟩
       rw [e5, List.map_append]
       rfl
     · rintro σ H2 ⟨ws, v4, rfl, s3, e3, p3⟩
       refine ⟨ws, _, _, rfl, s3, e3, ?_⟩
       rw [List.take_add_one, hst]
       show Paired _ _ (J.more (List.take i sts ++ [st]) z)
       rw [more_snoc]
       exact p3
   · rintro σ H1 ⟨ys, v3, v4, rfl, s2, e2, p2⟩
     rw [hp.length, List.take_length] at p2
     exact ⟨_, rfl, k r H1 ys s2 nr e2 p2⟩
def sp_states (CH : Addr) : Sp := fun vs H Q _ => ∃ p sz tap, vs = [.ref p] ∧ House CH H p sz tap ∧ Hz sz ∧ ∀ r H' ys, Same H H' → H r = none → H' r = some (.lst ys) → Paired (isTI H') ys (J.states sz) → Q (.ref r) H'
theorem fold_len (sz : List Int) : ∀ (L : List (List Int)) (n : Nat), (∀ l ∈ L, l.length ≤ n) → ∀ x ∈ sz.foldl J.more L, x.length ≤ n + sz.length := by
 intro L n h x hx
 obtain ⟨l, hl, t, rfl, ht⟩ := (J.mem_fold sz L x).mp hx
 rw [List.length_append, ht.len]
 have := h l hl
 omega
theorem ok_states {f : Addr} {fd : FuncData} (F : Fun K "states" "House.states" s_House_states f fd) (C : CHs K CH) (W : fb% 1 "with_one_more" ["states", "size"] sp_with_one_more) : fo% CX0 2 f fd ["self"] (sp_states CH) := by
 gok F.ok sc_House_states
 · obtain ⟨p, sz, tap, rfl, _⟩ := h
   rfl
 · obtain ⟨p, sz, tap, rfl, ⟨dx, t, hp, ht⟩, hz, k⟩ := h
   refine ⟨_, sK (sS (i := 1) sc_House_states.nd rfl (Or.inl rfl) (pe_lst (pK (pe_tup pN) pN)))
     (sK (ps_for PassesOwn.never rfl (pi_tup (pe_fld (pv 0) rfl)) (pg_name (i := 2) sc_House_states.nd rfl (Or.inl rfl))
       (s1' (sS (i := 1) sc_House_states.nd rfl (Or.inl rfl) (eF W hr (pK (pv 1) (pK (pv 2) pN))))))
     (s1' (sR (pv 1)))), ?_⟩
   refine ⟨(z% 0), fun u nu => ⟨(z% 1), fun r nr => ?_⟩⟩
   have s1 : Same H (upd (upd H u (.tup [])) r (.lst [.ref u])) := (Same.new nu).lay nr
   have nr0 : H r = none := (Same.new nu).free nr
   have ur : u ≠ r := fun e => by subst e; rw [uS] at nr; cases nr
   have hnn : ∀ s ∈ sz, 0 ≤ s := fun s hs => by have := hz.bd s hs; omega
   refine ⟨_, rfl, p, CH, dx, _, _, rfl, s1 _ _ hp, C.cl, C.js, hF_js _ _, t, rfl, ⟨_, SqT.of (s1 _ _ ht)⟩, for_tup (K := K) (a := t) (xs := sz.map V.int) (fun i σ H' => ∃ b ys v2, σ = [some (.ref p), some (.ref b), v2] ∧ Same H H' ∧ H b = none ∧ H' b = some (.lst ys) ∧ Paired (isTI H') ys ((sz.take i).foldl J.more [[]]))
     ⟨r, _, none, rfl, s1, nr0, uS, .cons ⟨u, rfl, by rw [uN ur, uS]; rfl⟩ .nil⟩ (fun i σ H' _ ⟨_, _, _, _, s2, _⟩ => SqT.of (s2 _ _ ht)) ?_ ?_⟩
   · rintro i x σ H1 hx ⟨b, ys, v2, rfl, s2, nb, e2, p2⟩
     obtain ⟨z, ez, rfl⟩ := mem_ints hx
     have hb := hz.bd z (List.mem_of_getElem? ez)
     have e3 : (sz.take (i + 1)).foldl J.more [[]] = J.more ((sz.take i).foldl J.more [[]]) z := by
       rw [List.take_add_one, ez, List.foldl_append]
       rfl
     have h1 := take_states_le hnn (i + 1)
     have h2 := hz.states_le
     rw [e3, J.len_more] at h1
     refine ⟨_, rfl, _, rfl, b, z, ys, _, rfl, e2, p2, by omega, by omega, by omega, fun st hst => ?_, fun r' H2 zs s3 nr' e4 p4 => ?_⟩
     · have h3 := fold_len (sz.take i) [[]] 0 (by simp) st hst
       have h4 := hz.l4
       rw [List.length_take] at h3
       omega
     · refine ⟨r', zs, _, rfl, s2.trans s3, s2.free nr', e4, ?_⟩
       rw [e3]; exact p4
   · rintro σ H1 ⟨b, ys, v2, rfl, s2, nb, e2, p2⟩
     rw [List.length_map, List.take_length] at p2
     exact ⟨_, rfl, k b H1 ys s2 nb e2 p2⟩
def sp_moves (Z : Cz) (CH : Addr) : Sp := fun vs H Q _ => ∃ p sz tap, vs = [.ref p] ∧ House CH H p sz tap ∧ Hz sz ∧ ∀ r H' ys, Same H H' → H r = none → H' r = some (.lst ys) → Paired (isM Z H') ys (J.moves sz.length tap) → Q (.ref r) H'
theorem ok_moves {f : Addr} {fd : FuncData} (F : Fun K "moves" "House.moves" s_House_moves f fd) (B : Bt mg) (C : CHs K CH) (W : fb% 6 "pours_among" ["many"] (sp_pours_among Z))
   (MF : mk% 4 "Fill" Z.F ["self", "jug"] (sp_jug_init Z.F)) (ME : mk% 4 "Empty" Z.E ["self", "jug"] (sp_jug_init Z.E)) : fo% CX0 7 f fd ["self"] (sp_moves Z CH) := by
 gok F.ok sc_House_moves
 · obtain ⟨p, sz, tap, rfl, _⟩ := h
   rfl
 · obtain ⟨p, sz, tap, rfl, ⟨dx, t, hp, ht⟩, hz, k⟩ := h
   have hr5 : Room 5 _ := hr.mono (by decide)
   refine ⟨_, sK (sS (i := 1) sc_House_moves.nd rfl (Or.inl rfl) (eZ call_len_seq (by rfl) B.len PySem.boot_len (pK (pe_fld (pv 0) rfl) pN)))
     (sK (sS (i := 2) sc_House_moves.nd rfl (Or.inl rfl) (eF W hr (pK (pv 1) pN)))
     (sK (ps_if (pt_val (pe_fld (pv 0) rfl))
       (sK (ps_expr (pe_extend (pv 2) (pe_lc sc_House_moves [] (pi_range1 (by rfl) B.range (pK (pv 1) pN)) (fun _ _ _ _ _ _ => ⟨pif_nil, pe_mk MF hr5 (pK (pv 0) pN)⟩))))
       (s1' (ps_expr (pe_extend (pv 2) (pe_lc sc_House_moves [] (pi_range1 (by rfl) B.range (pK (pv 1) pN)) (fun _ _ _ _ _ _ => ⟨pif_nil, pe_mk ME hr5 (pK (pv 0) pN)⟩)))))) sN)
     (s1' (sR (pv 2))))), ?_⟩
   have h4 := hz.l4
   refine ⟨_, rfl, p, CH, dx, _, _, rfl, hp, C.cl, C.js, hF_js _ _, t, _, rfl, .inr (SqT.of ht), ?_⟩
   rw [List.length_map]
   refine ⟨_, rfl, sz.length, rfl, h4, fun r H1 xs s1 nr e1 p1 => ?_⟩
   refine ⟨_, rfl, p, CH, dx, _, _, rfl, s1 _ _ hp, C.cl, C.tap, hF_tap _ _, _, rfl, ?_⟩
   have hlp : (J.pours sz.length).length ≤ 16 := by
     have h5 := rows_len sz.length sz.length
     have h6 : sz.length * sz.length ≤ 4 * 4 := Nat.mul_le_mul h4 h4
     exact Nat.le_trans h5 h6
   cases tap with
   | false =>
     refine iteF ⟨_, rfl, k r H1 xs s1 nr e1 ?_⟩
     simpa [J.moves] using p1
   | true =>
     refine iteT ?_
     refine ⟨_, rfl, .inl ⟨rfl, _, SqL.of e1⟩, _, rfl, _, rfl, by omega, by omega, ?_⟩
     rw [Int.toNat_natCast]
     refine lc_rangeN (n := sz.length) (fun i ys H' => Same H1 H' ∧ Paired (isM Z H') ys ((List.range i).map J.Mv.fill)) ⟨Same.refl _, .nil⟩ (small1000 (by omega)) (fun i ys H' ⟨_, q⟩ => by rw [q.length]; simp) ?_ ?_
     · rintro i ys H2 hi ⟨s2, p2⟩
       refine tYes_of ⟨_, rfl, fun x dx' nx ndx nex => ⟨x, dx', i, rfl, uS, by omega, fun H4 kp hx => ⟨rfl, ?_⟩⟩⟩
       have s4 : Same H2 H4 := fun c o e => kp c o (by rw [uN (nN e nx), uN (nN e ndx)]; exact e) (nN e nx)
       refine ⟨s2.trans s4, ?_⟩
       rw [List.range_succ, List.map_append]
       exact Paired.snocP (pm_fix p2 (Fix.of s4)) ⟨x, rfl, dx', hx⟩
     · rintro ys H2 ⟨s2, p2⟩ D nD
       have s3 : Same H2 (upd H2 D (.lst ys)) := Same.new nD
       have e3 := s3 _ _ (s2 _ _ e1)
       have l1 := p1.length
       have l2 := p2.length
       rw [List.length_map, List.length_range] at l2
       refine ⟨r, D, xs, ys, rfl, rfl, e3, uS, Nat.le_of_lt (small1000 (by omega)), ?_⟩
       have f3 : Fix (upd H2 D (.lst ys)) (upd (upd H2 D (.lst ys)) r (.lst (xs ++ ys))) := Fix.put e3 rfl
       have s4 : Same H (upd (upd H2 D (.lst ys)) r (.lst (xs ++ ys))) := ((s1.trans s2).trans s3).put nr
       have p3 : Paired (isM Z (upd (upd H2 D (.lst ys)) r (.lst (xs ++ ys)))) (xs ++ ys) (J.pours sz.length ++ (List.range sz.length).map J.Mv.fill) :=
         Paired.appP (pm_fix p1 ((Fix.of (s2.trans s3)).trans f3)) (pm_fix p2 ((Fix.of s3).trans f3))
       refine ⟨_, rfl, .inl ⟨rfl, _, SqL.of uS⟩, _, rfl, _, rfl, by omega, by omega, ?_⟩
       rw [Int.toNat_natCast]
       refine lc_rangeN (n := sz.length) (fun i zs H' => Same (upd (upd H2 D (.lst ys)) r (.lst (xs ++ ys))) H' ∧ Paired (isM Z H') zs ((List.range i).map J.Mv.emp)) ⟨Same.refl _, .nil⟩ (small1000 (by omega)) (fun i ys H' ⟨_, q⟩ => by rw [q.length]; simp) ?_ ?_
       · rintro i zs H5 hi ⟨s5, p5⟩
         refine tYes_of ⟨_, rfl, fun x dx' nx ndx nex => ⟨x, dx', i, rfl, uS, by omega, fun H6 kp hx => ⟨rfl, ?_⟩⟩⟩
         have s6 : Same H5 H6 := fun c o e => kp c o (by rw [uN (nN e nx), uN (nN e ndx)]; exact e) (nN e nx)
         refine ⟨s5.trans s6, ?_⟩
         rw [List.range_succ, List.map_append]
         exact Paired.snocP (pm_fix p5 (Fix.of s6)) ⟨x, rfl, dx', hx⟩
       · rintro zs H5 ⟨s5, p5⟩ D2 nD2
         have s6 : Same H5 (upd H5 D2 (.lst zs)) := Same.new nD2
         have e6 := s6 _ _ (s5 _ _ uS)
         have l5 := p5.length
         rw [List.length_map, List.length_range] at l5
         refine ⟨r, D2, _, zs, rfl, rfl, e6, uS, Nat.le_of_lt (small1000 (by rw [List.length_append]; omega)), ?_⟩
         have f6 : Fix (upd H5 D2 (.lst zs)) (upd (upd H5 D2 (.lst zs)) r (.lst ((xs ++ ys) ++ zs))) := Fix.put e6 rfl
         refine ⟨_, rfl, k r _ _ (((s4.trans s5).trans s6).put nr) nr uS ?_⟩
         have e7 : J.moves sz.length true = (J.pours sz.length ++ (List.range sz.length).map J.Mv.fill) ++ (List.range sz.length).map J.Mv.emp := by simp [J.moves]
         rw [e7]
         exact Paired.appP (pm_fix p3 ((Fix.of (s5.trans s6)).trans f6)) (pm_fix p5 ((Fix.of s6).trans f6))
end
end Jug
namespace Jug
open PySem L2
def kOf (st : List Int) : List Key := st.map Sum.inl
theorem kOf_map (st : List Int) : (kOf st).map kV = st.map V.int := by
 unfold kOf
 rw [List.map_map]
 rfl
theorem kOf_inj {a b : List Int} (h : kOf a = kOf b) : a = b := by
 unfold kOf at h
 exact List.map_inj_right (fun x y e => Sum.inl.inj e) |>.mp h
def WVal (Z : Cz) (H : Hp) (W : List J.Way) : V → Option (Nat × J.Mv) → Prop
 | v, none => v = .non
 | v, some (q, m) => ∃ t a p x, v = .ref t ∧ H t = some (.tup [.ref a, .ref p]) ∧ W[q]? = some x ∧ H a = some (.tup (x.1.map V.int)) ∧ MvAt Z H p m
def WD (Z : Cz) (H : Hp) (W : List J.Way) : List (List Key × V) → List J.Way → Prop := Paired fun kv x => kv.1 = kOf x.1 ∧ WVal Z H W kv.2 x.2
theorem WVal.fix {Z : Cz} {H H' : Hp} {W : List J.Way} {v : V} : ∀ {o : Option (Nat × J.Mv)}, WVal Z H W v o → Fix H H' → WVal Z H' W v o
 | none, h, _ => h
 | some (_, _), ⟨t, a, p, x, e, h1, h2, h3, h4⟩, s => ⟨t, a, p, x, e, s _ _ h1 rfl, h2, s _ _ h3 rfl, h4.fix s⟩
theorem WVal.more {Z : Cz} {H : Hp} {W V' : List J.Way} {v : V} : ∀ {o : Option (Nat × J.Mv)}, WVal Z H W v o → WVal Z H (W ++ V') v o
 | none, h => h
 | some (_, _), ⟨t, a, p, x, e, h1, h2, h3, h4⟩ => ⟨t, a, p, x, e, h1, by rw [List.getElem?_append_left (List.getElem?_eq_some_iff.mp h2).1]; exact h2, h3, h4⟩
theorem WD.fix {Z : Cz} {H H' : Hp} {W : List J.Way} {kvs : List (List Key × V)} {ws : List J.Way} (h : WD Z H W kvs ws) (s : Fix H H') : WD Z H' W kvs ws := Paired.mapP h fun _ _ z => ⟨z.1, z.2.fix s⟩
theorem WD.more {Z : Cz} {H : Hp} {W V' : List J.Way} {kvs : List (List Key × V)} {ws : List J.Way} (h : WD Z H W kvs ws) : WD Z H (W ++ V') kvs ws := Paired.mapP h fun _ _ z => ⟨z.1, z.2.more⟩
theorem WD.keys {Z : Cz} {H : Hp} {W : List J.Way} : ∀ {kvs : List (List Key × V)} {ws : List J.Way}, WD Z H W kvs ws → kvs.map (·.1) = ws.map fun x => kOf x.1
 | _, _, .nil => rfl
 | _, _, .cons h t => by rw [List.map_cons, List.map_cons, WD.keys t, h.1]
theorem WD.has {Z : Cz} {H : Hp} {W : List J.Way} {kvs : List (List Key × V)} {ws : List J.Way} (h : WD Z H W kvs ws) (y : List Int) : (valV kvs (kOf y)).isSome = decide (y ∈ ws.map (·.1)) := by
 rw [← valV_any, Bool.eq_iff_iff]
 simp only [List.any_eq_true, decide_eq_true_iff]
 constructor
 · rintro ⟨kv, h1, h2⟩
   have : kOf y ∈ kvs.map (·.1) := List.mem_map.mpr ⟨kv, h1, h2⟩
   rw [h.keys] at this
   obtain ⟨x, h3, h4⟩ := List.mem_map.mp this
   exact List.mem_map.mpr ⟨x, h3, kOf_inj h4⟩
 · intro hy
   obtain ⟨x, h3, h4⟩ := List.mem_map.mp hy
   have : kOf y ∈ kvs.map (·.1) := by rw [h.keys]; exact List.mem_map.mpr ⟨x, h3, by rw [h4]⟩
   obtain ⟨kv, h1, h2⟩ := List.mem_map.mp this
   exact ⟨kv, h1, h2⟩
def WS (Z : Cz) (Hb H' : Hp) (d rw : Addr) (W : List J.Way) : Prop := ∃ kvs rs, Same Hb H' ∧ H' d = some (.dT kvs) ∧ H' rw = some (.lst rs) ∧ Paired (isTI H') rs (W.map (·.1)) ∧ WD Z H' W kvs W
theorem WS.same {Z : Cz} {Hb H' H'' : Hp} {d rw : Addr} {W : List J.Way} (h : WS Z Hb H' d rw W) (s : Same H' H'') : WS Z Hb H'' d rw W := by
 obtain ⟨kvs, rs, s0, e1, e2, p, wd⟩ := h
 exact ⟨kvs, rs, s0.trans s, s _ _ e1, s _ _ e2, pt_fix p (Fix.of s), wd.fix (Fix.of s)⟩
theorem ws_add {Z : Cz} {Hb H' : Hp} {d rw tt a p bb : Addr} {W : List J.Way} {kvs : List (List Key × V)} {rs : List V} {q : Nat} {m : J.Mv} {x : J.Way} {y : List Int} (nd : Hb d = none) (nr : Hb rw = none) (s0 : Same Hb H') (e1 : H' d = some (.dT kvs))
   (e2 : H' rw = some (.lst rs)) (p1 : Paired (isTI H') rs (W.map (·.1))) (wd : WD Z H' W kvs W) (nt : H' tt = none) (hx : W[q]? = some x) (ha : H' a = some (.tup (x.1.map V.int))) (hm : MvAt Z H' p m) (hb : H' bb = some (.tup (y.map V.int))) :
   WS Z Hb (upd (upd (upd H' tt (.tup [.ref a, .ref p])) d (.dT (kvs ++ [(kOf y, .ref tt)]))) rw (.lst (rs ++ [.ref bb]))) d rw (W ++ [(y, some (q, m))]) ∧ Fix H' (upd (upd (upd H' tt (.tup [.ref a, .ref p])) d (.dT (kvs ++ [(kOf y, .ref tt)]))) rw (.lst (rs ++ [.ref bb]))) := by
 have dtt : d ≠ tt := nN e1 nt
 have rtt : rw ≠ tt := nN e2 nt
 have drw : d ≠ rw := ne_of e1 e2 (by intro h; cases h)
 have g1 : (upd H' tt (.tup [.ref a, .ref p])) d = some (.dT kvs) := by rw [uN dtt]; exact e1
 have g2 : (upd (upd H' tt (.tup [.ref a, .ref p])) d (.dT (kvs ++ [(kOf y, .ref tt)]))) rw = some (.lst rs) := by rw [uN drw.symm, uN rtt]; exact e2
 have f1 : Fix H' (upd (upd (upd H' tt (.tup [.ref a, .ref p])) d (.dT (kvs ++ [(kOf y, .ref tt)]))) rw (.lst (rs ++ [.ref bb]))) := ((Fix.of (Same.new nt)).trans (Fix.put g1 rfl)).trans (Fix.put g2 rfl)
 refine ⟨⟨kvs ++ [(kOf y, .ref tt)], rs ++ [.ref bb], ((s0.lay nt).put nd).put nr, ?_, uS, ?_, ?_⟩, f1⟩
 · rw [uN drw, uS]
 · rw [List.map_append]
   exact Paired.snocP (pt_fix p1 f1) ⟨bb, rfl, f1 _ _ hb rfl⟩
 · refine Paired.snocP (wd.fix f1).more ⟨rfl, tt, a, p, x, rfl, ?_, ?_, f1 _ _ ha rfl, hm.fix f1⟩
   · rw [uN rtt.symm, uN dtt.symm, uS]
   · rw [List.getElem?_append_left (List.getElem?_eq_some_iff.mp hx).1]
     exact hx
theorem addAll_pre {sz here : List Int} {p : Nat} {i : Nat} {y : J.Way} : ∀ (ms : List J.Mv) {W : List J.Way}, W[i]? = some y → (J.addAll sz here p ms W)[i]? = some y
 | [], _, h => h
 | _ :: ms, _, h => addAll_pre ms (J.addOne_pre h)
theorem addAll_take {sz here : List Int} {p : Nat} {W : List J.Way} {ms : List J.Mv} {j : Nat} {m : J.Mv} (h : ms[j]? = some m) : J.addAll sz here p (ms.take (j + 1)) W = J.addOne sz here p (J.addAll sz here p (ms.take j) W) m := by
 rw [List.take_add_one, h]
 simp [J.addAll]
theorem addAll_len {sz here : List Int} {p : Nat} : ∀ (ms : List J.Mv) {W : List J.Way}, (J.addAll sz here p ms W).length ≤ W.length + ms.length
 | [], _ => Nat.le_refl _
 | m :: ms, W => by
   have h1 := addAll_len (sz := sz) (here := here) (p := p) ms (W := J.addOne sz here p W m)
   have h2 : (J.addOne sz here p W m).length ≤ W.length + 1 := by
     unfold J.addOne
     split
     · omega
     · simp
   have h3 : J.addAll sz here p (m :: ms) W = J.addAll sz here p ms (J.addOne sz here p W m) := rfl
   rw [h3, List.length_cons]
   omega
theorem moves_len : ∀ n, n < 5 → ∀ tap, (J.moves n tap).length ≤ 20 := by decide +kernel
section
v5%
variable {CH : Addr} {Z : Cz}
def sp_ways (Z : Cz) (CH : Addr) : Sp := fun vs H Q _ => ∃ p a sz tap st, vs = [.ref p, .ref a] ∧ House CH H p sz tap ∧ Hz sz ∧ H a = some (.tup (st.map V.int)) ∧ J.IsSt sz st ∧
 ∀ d H' kvs, Same H H' → H d = none → H' d = some (.dT kvs) → WD Z H' (J.ways sz (J.moves sz.length tap) st) kvs (J.ways sz (J.moves sz.length tap) st) → Q (.ref d) H'
theorem ok_ways {f : Addr} {fd : FuncData} (F : Fun K "ways_from" "ways_from" s_ways_from f fd) (B : Bt mg) (N : fb% 2 "held_in" ["house", "state"] (sp_held_in CH)) (MO : me% 7 CH "moves" ["self"] (sp_moves Z CH))
   (D : ∀ C, anyMv Z C → me% 5 C "done" ["self", "house", "state"] (sp_done Z CH)) : fo% CX0 8 f fd ["house", "state"] (sp_ways Z CH) := by
 gok F.ok sc_ways_from
 · obtain ⟨p, a, sz, tap, st, rfl, _⟩ := h
   rfl
 · obtain ⟨p, a, sz, tap, st, rfl, hh, hz, ha, hst, k⟩ := h
   have hu := hr.units
   refine ⟨_, sK (sS (i := 2) sc_ways_from.nd rfl (Or.inl rfl) (eT cT (by rfl) B.tuple bt_tuple (pK (eF N (hr.mono (by decide)) (pK (pv 0) (pK (pv 1) pN))) pN)))
     (sK (sS (i := 3) sc_ways_from.nd rfl (Or.inl rfl) (pe_me0 MO (pv 0) (hr.mono (by decide))))
     (sK (sS (i := 4) sc_ways_from.nd rfl (Or.inl rfl) (pe_disp1T hr.units0 (pv 2) pe_non))
     (sK (sS (i := 5) sc_ways_from.nd rfl (Or.inl rfl) (pe_lst (pK (pv 2) pN)))
     (sK (sS (i := 6) sc_ways_from.nd rfl (Or.inl rfl) eI)
     (sK (ps_while PassesOwn.never (pt_cmpR op_lt (pv 6) (eZ call_len_seq (by rfl) B.len PySem.boot_len (pK (pv 5) pN)) (nomark _))
       (sK (sS (i := 7) sc_ways_from.nd rfl (Or.inl rfl) (pe_ix ix_list (pv 5) (pv 6) (fun _ _ => rfl)))
       (sK (ps_for PassesOwn.never rfl (pi_list (pv 3)) (pg_name (i := 8) sc_ways_from.nd rfl (Or.inl rfl))
         (sK (sS (i := 9) sc_ways_from.nd rfl (Or.inl rfl) (pe_meU D (pv 8) (hr.mono (by decide)) (pK (pv 0) (pK (pv 7) pN))))
         (s1' (ps_if (pt_cmp (pc_dnotin (Nat.lt_of_le_of_lt (Nat.add_le_add_left (by decide) _) hu) (pv 9) (pv 4)) rfl)
           (sK (ps_dput (Nat.lt_of_le_of_lt (Nat.add_le_add_left (by decide) _) hu) (pv 4) (pv 9) (pe_tup (pK (pv 7) (pK (pv 8) pN))) rfl) (s1' (ps_expr (pe_append (pv 5) (pv 9)))))
           sN))))
       (s1' (ps_aug (i := 6) sc_ways_from.nd rfl (Or.inl rfl) eI ip_add)))))
     (s1' (sR (pv 4)))))))), ?_⟩
   obtain ⟨dx, tz, hp, htz⟩ := id hh
   refine ⟨_, rfl, _, rfl, p, sz, tap, a, st, rfl, hh, ha, hst, fun y H2 s2 ny ey => ?_⟩
   refine ⟨y, _, rfl, .inl ⟨SqL.of ey, fun t nt => ?_⟩⟩
   have s3 : Same H (upd H2 t (.tup (st.map V.int))) := s2.lay nt
   refine ⟨_, rfl, p, dx, _, rfl, s3 _ _ hp, hF_no _ _ (by decide +kernel) (by decide +kernel), p, sz, tap, rfl, hh.mono s3, hz, fun r H4 ys s4 nr er pm => ?_⟩
   have et : H4 t = some (.tup (st.map V.int)) := s4 _ _ uS
   refine fun d nd => ⟨_, rfl, kOf st, t, rfl, ?_, uS, ?_⟩
   · rw [uN (nN et nd), kOf_map]
     exact et
   rw [upd_upd]
   refine ⟨_, rfl, (z% 1), fun rw nrw => ?_⟩
   have drw : d ≠ rw := fun e => by subst e; rw [uS] at nrw; cases nrw
   have nrw4 : H4 rw = none := by rwa [uN drw.symm] at nrw
   have nd0 : H d = none := by
     cases e : H d with
     | none => rfl
     | some o => have := (s3.trans s4) _ _ e; rw [nd] at this; cases this
   have hg := J.good_moves (tap := tap) hz.nn
   have hle := hz.states_le
   refine ⟨fun n σ H' => ∃ (pl : Nat) (v7 v8 v9 : Option V), σ = [some (.ref p), some (.ref a), some (.ref t), some (.ref r), some (.ref d), some (.ref rw), some (.int pl), v7, v8, v9] ∧ WS Z H4 H' d rw (J.run sz (J.moves sz.length tap) st pl) ∧ n = (J.states sz).length - pl,
     ⟨_, 0, none, none, none, rfl, ⟨[(kOf st, .non)], [.ref t], ((Same.refl _).put nd).put nrw4, (by rw [uN drw, uS]), uS, .cons ⟨t, rfl, ?_⟩ .nil, .cons ⟨rfl, rfl⟩ .nil⟩, rfl⟩, ?_⟩
   · rw [uN (nN et nrw4), uN (nN et nd)]
     exact et
   rintro n σ H' ⟨pl, v7, v8, v9, rfl, ws, rfl⟩
   obtain ⟨kvs, rs, s5, e1, e2, p1, wd⟩ := id ws
   have hl : rs.length = (J.run sz (J.moves sz.length tap) st pl).length := by have := p1.length; simpa using this
   have rl := J.run_le hg hst pl
   refine ⟨_, rfl, _, rfl, rw, _, rfl, .inl (SqL.of e2), _, _, rfl, rfl, _, rfl, ?_⟩
   by_cases c : (pl : Int) < (rs.length : Int)
   · rw [decide_eq_true c]
     obtain ⟨x, hx⟩ : ∃ x, (J.run sz (J.moves sz.length tap) st pl)[pl]? = some x := ⟨_, List.getElem?_eq_getElem (by omega)⟩
     have hv : rs[pl]? = some (rs[pl]'(by omega)) := by simp
     obtain ⟨z, hz', aa, eaa, haa⟩ := L2.Paired.get p1 hv
     rw [List.getElem?_map, hx] at hz'
     cases hz'
     rw [eaa] at hv
     have hxs : J.IsSt sz x.1 := (J.run_inv hg hst pl).sts x (List.mem_of_getElem? hx)
     refine iteT ⟨fun σ' H'' => ∃ v8 v9 : Option V, σ' = [some (.ref p), some (.ref a), some (.ref t), some (.ref r), some (.ref d), some (.ref rw), some (.int ((pl : Int) + 1)), some (.ref aa), v8, v9] ∧ WS Z H4 H'' d rw (J.run sz (J.moves sz.length tap) st (pl + 1)),
       fun σ' H'' ⟨v8, v9, e, w'⟩ => ⟨_, by omega, pl + 1, _, v8, v9, e, w', rfl⟩, ?_⟩
     refine ⟨_, rfl, _, rfl, rw, _, _, _, rfl, rfl, SqL.of e2, atI_nat hv, ?_⟩
     refine ⟨_, rfl, r, rfl, ⟨_, SqL.of (s5 _ _ er)⟩, for_list (K := K) (a := r) (xs := ys) (fun j σ H'' => ∃ v8 v9 : Option V, σ = [some (.ref p), some (.ref a), some (.ref t), some (.ref r), some (.ref d), some (.ref rw), some (.int pl), some (.ref aa), v8, v9] ∧ H'' aa = some (.tup (x.1.map V.int)) ∧
       WS Z H4 H'' d rw (J.addAll sz x.1 pl ((J.moves sz.length tap).take j) (J.run sz (J.moves sz.length tap) st pl))) ⟨v8, v9, rfl, haa, by simpa [J.addAll] using ws⟩ (fun j σ H'' _ ⟨_, _, _, _, _, _, s6, _⟩ => SqL.of (s6 _ _ er)) ?_ ?_⟩
     · rintro j v σ H6 hv' ⟨v8, v9, rfl, ha6, ws6⟩
       obtain ⟨m, hm, pp, rfl, hmv⟩ := L2.Paired.get pm hv'
       obtain ⟨_, _, s6, _⟩ := id ws6
       obtain ⟨dp, hpp⟩ := hmv.mono s6
       refine ⟨_, rfl, Z.cl m, pp, dp, _, anyMv_cl Z m, rfl, hpp, fsOf_no m (by decide +kernel) (by decide +kernel) (by decide +kernel), _, rfl, _, rfl, pp, p, aa, sz, tap, _, m, rfl, hmv.mono s6, hh.mono (s3.trans (s4.trans s6)), ha6, hxs, J.mem_moves.mp (List.mem_of_getElem? hm), fun bb H7 s7 e7 => ?_⟩
       have ws7 := ws6.same s7
       obtain ⟨kv7, rs7, s70, e71, e72, p71, wd7⟩ := id ws7
       refine ⟨_, rfl, _, rfl, d, _, rfl, DGet.t (k := kOf (J.behind sz x.1 m)) e71 (by rw [kOf_map]; exact e7), _, rfl, ?_⟩
       rw [addAll_take hm]
       rw [wd7.has]
       by_cases hin : J.behind sz x.1 m ∈ (J.addAll sz x.1 pl ((J.moves sz.length tap).take j) (J.run sz (J.moves sz.length tap) st pl)).map (·.1)
       · rw [decide_eq_true hin]
         refine iteF ⟨_, _, rfl, s7 _ _ ha6, ?_⟩
         unfold J.addOne
         rw [if_pos hin]
         exact ws7
       · have no := wd7.has (J.behind sz x.1 m)
         rw [decide_eq_false hin] at no
         rw [decide_eq_false hin]
         have hno : valV kv7 (kOf (J.behind sz x.1 m)) = none := by
           cases e : valV kv7 (kOf (J.behind sz x.1 m)) with
           | none => rfl
           | some v => rw [e] at no; cases no
         have l1 := wd7.length
         have l2 := addAll_len (sz := sz) (here := x.1) (p := pl) ((J.moves sz.length tap).take j) (W := J.run sz (J.moves sz.length tap) st pl)
         have l3 := moves_len sz.length (by have := hz.l4; omega) tap
         have l4 : ((J.moves sz.length tap).take j).length ≤ (J.moves sz.length tap).length := by rw [List.length_take]; exact Nat.min_le_right _ _
         have l5 := p71.length
         rw [List.length_map] at l5
         have g1 : ∀ tt, H7 tt = none → (upd H7 tt (.tup [.ref aa, .ref pp])) d = some (.dT kv7) := fun tt n => by rw [uN (nN e71 n)]; exact e71
         refine iteT ⟨_, rfl, _, rfl, (z% 2), fun tt ntt => ⟨_, rfl, _, rfl, d, _, rfl, DPut.t (k := kOf (J.behind sz x.1 m)) (g1 tt ntt) (by rw [kOf_map, uN (nN e7 ntt)]; exact e7) (by rw [sizeLine_eq]; omega), ?_⟩⟩
         rw [putK_new _ hno]
         have drw7 : rw ≠ d := ne_of e72 e71 (by intro h; cases h)
         have g2 : (upd (upd H7 tt (.tup [.ref aa, .ref pp])) d (.dT (kv7 ++ [(kOf (J.behind sz x.1 m), .ref tt)]))) rw = some (.lst rs7) := by rw [uN drw7, uN (nN e72 ntt)]; exact e72
         refine ⟨_, rfl, .inl ⟨rfl, _, SqL.of g2⟩, _, rfl, rw, _, _, rfl, rfl, g2, (by rw [sizeLine_eq]; omega), ?_⟩
         obtain ⟨wsn, fxn⟩ := ws_add nd nrw4 s70 e71 e72 p71 wd7 ntt (addAll_pre _ hx) (s7 _ _ ha6) (hmv.mono (s6.trans s7)) e7
         refine ⟨_, _, rfl, fxn _ _ (s7 _ _ ha6) rfl, ?_⟩
         unfold J.addOne
         rw [if_neg hin]
         exact wsn
     · rintro σ H6 ⟨v8, v9, rfl, ha6, ws6⟩
       refine ⟨_, rfl, _, _, rfl, rfl, _, _, rfl, ?_⟩
       rw [J.run_step hx]
       rw [pm.length, List.take_length] at ws6
       exact ws6
   · rw [decide_eq_false c]
     refine ⟨_, rfl, k d H' kvs (s3.trans (s4.trans s5)) nd0 e1 ?_⟩
     rw [J.run_end hg hst (p := pl) (by omega)] at wd
     exact wd
end
end Jug
namespace Jug
open PySem L2
theorem pI : ∀ st : List Int, Paired isI (st.map V.int) st
 | [] => .nil
 | _ :: st => .cons rfl (pI st)
theorem toT {K : W.Frag} {H : Hp} {v : V} {st : List Int} (h : isTI H v st) : isT K H isI v st := by
 obtain ⟨a, rfl, e⟩ := h
 exact ⟨a, _, rfl, SqT.of e, pI st⟩
theorem toTs {K : W.Frag} {H : Hp} {vs : List V} {sts : List (List Int)} (h : Paired (isTI H) vs sts) : Paired (isT K H isI) vs sts := Paired.mapP h fun _ _ => toT
theorem rcT {X : Cx} {H : Hp} {a b : Addr} {s t : List Int} (ha : H a = some (.tup (s.map V.int))) (hb : H b = some (.tup (t.map V.int))) : RcD X H 20 (.ref a) (.ref b) (decide (s = t)) :=
 (EqR.tup (d := 19) EqR.int).rc _ _ s t ⟨a, _, rfl, SqT.of ha, pI s⟩ ⟨b, _, rfl, SqT.of hb, pI t⟩
theorem rcL {X : Cx} {H : Hp} {a b : Addr} {s t : List Int} (ha : H a = some (.lst (s.map V.int))) (hb : H b = some (.lst (t.map V.int))) : RcD X H 20 (.ref a) (.ref b) (decide (s = t)) :=
 (EqR.lst (d := 19) EqR.int).rc _ _ s t ⟨a, _, rfl, SqL.of ha, pI s⟩ ⟨b, _, rfl, SqL.of hb, pI t⟩
theorem rcLT {X : Cx} {H : Hp} {a b : Addr} {xs ys : List V} {s t : List (List Int)} (ha : H a = some (.lst xs)) (px : Paired (isTI H) xs s) (hb : H b = some (.lst ys)) (py : Paired (isTI H) ys t) : RcD X H 20 (.ref a) (.ref b) (decide (s = t)) :=
 (EqR.lst (d := 19) (EqR.tup (d := 18) EqR.int)).rc _ _ s t ⟨a, _, rfl, SqL.of ha, toTs px⟩ ⟨b, _, rfl, SqL.of hb, toTs py⟩
theorem pB : ∀ st : List Bool, Paired isB (st.map V.bl) st
 | [] => .nil
 | _ :: st => .cons rfl (pB st)
theorem rcB {X : Cx} {H : Hp} {a b : Addr} {s t : List Bool} (ha : H a = some (.lst (s.map V.bl))) (hb : H b = some (.lst (t.map V.bl))) : RcD X H 20 (.ref a) (.ref b) (decide (s = t)) :=
 (EqR.lst (d := 19) EqR.bl).rc _ _ s t ⟨a, _, rfl, SqL.of ha, pB s⟩ ⟨b, _, rfl, SqL.of hb, pB t⟩
section
v5%
variable {CH : Addr}
theorem ok_check_jug_g {f : Addr} {fd : FuncData} (F : Fun K "check_jug" "check_jug" s_check_jug' f fd) (N : fb% 2 "is_jug" ["value"] sp_is_jug) : fo% CX0 3 f fd ["jug"] sp_check_jug := by
 gok F.ok sc_check_jug'
 · obtain ⟨j, rfl, _⟩ := h
   rfl
 · obtain ⟨j, rfl, hj, k⟩ := h
   refine ⟨_, s1' (ps_if (pt_not (pt_val (eF N hr (pK (pv 0) pN)))) sV sN), ?_⟩
   refine ⟨_, rfl, (j : Int), rfl, _, rfl, ?_⟩
   rw [decide_eq_true (by omega : (0 : Int) ≤ j), decide_eq_true (by omega : (j : Int) ≤ 3)]
   exact iteF k
theorem ok_check_house_has_g {f : Addr} {fd : FuncData} (F : Fun K "check_house_has" "check_house_has" s_check_house_has' f fd) (B : Bt mg) (S : me% 1 CH "sizes" ["self"] (sp_sizes CH)) :
   fo% CX0 2 f fd ["house", "jug"] (sp_check_house_has CH) := by
 gok F.ok sc_check_house_has'
 · obtain ⟨p, sz, tap, j, rfl, _⟩ := h
   rfl
 · obtain ⟨p, sz, tap, j, rfl, hh, hj, k⟩ := h
   obtain ⟨dx, t, hp, ht⟩ := id hh
   refine ⟨_, s1' (ps_if (pt_cmpR op_ge (pv 1) (eZ call_len_seq (by rfl) B.len PySem.boot_len (pK (pe_me0 S (pv 0) hr) pN)) (nomark _)) sV sN), ?_⟩
   refine ⟨_, rfl, _, rfl, p, dx, _, rfl, hp, hF_no _ _ (by decide +kernel) (by decide +kernel), p, sz, tap, rfl, hh, fun m hm => ?_⟩
   refine ⟨m, _, rfl, .inl (SqL.of uS), _, _, rfl, rfl, _, rfl, ?_⟩
   rw [decide_eq_false (by simp; omega)]
   exact iteF (k _ (Same.new hm))
end
structure Gz where
 H : Addr
 S : Addr
 U : Addr
 W : Addr
inductive Go where
 | holds (j : Nat) (m : Int)
 | som (m : Int)
 | sum (js : List Int) (m : Int)
 | whole (st : List Int)
def hoF (j : Nat) (m : Int) : List (Str × V) := putF "many" (.int m) (putF "jug" (.int j) [])
def soF (m : Int) : List (Str × V) := putF "many" (.int m) []
def suF (t : Addr) (m : Int) : List (Str × V) := putF "many" (.int m) (putF "jugs" (.ref t) [])
def whF (t : Addr) : List (Str × V) := putF "state" (.ref t) []
theorem n_many_jug : ¬ (("many" : Str) = "jug") := by decide +kernel
theorem n_many_jugs : ¬ (("many" : Str) = "jugs") := by decide +kernel
theorem hoF_jug (j : Nat) (m : Int) : (hoF j m).lookup ("jug" : Str) = some (.int j) := by
 unfold hoF; rw [lP, if_neg (fun e => n_many_jug e.symm), lP, if_pos rfl]
theorem hoF_many (j : Nat) (m : Int) : (hoF j m).lookup ("many" : Str) = some (.int m) := by
 unfold hoF; rw [lP, if_pos rfl]
theorem hoF_no (j : Nat) (m : Int) {x : Str} (h1 : ¬ x = "many") (h2 : ¬ x = "jug") : (hoF j m).lookup x = none := by
 unfold hoF; rw [lP, if_neg h1, lP, if_neg h2]; rfl
theorem soF_many (m : Int) : (soF m).lookup ("many" : Str) = some (.int m) := by
 unfold soF; rw [lP, if_pos rfl]
theorem soF_no (m : Int) {x : Str} (h1 : ¬ x = "many") : (soF m).lookup x = none := by
 unfold soF; rw [lP, if_neg h1]; rfl
theorem suF_jugs (t : Addr) (m : Int) : (suF t m).lookup ("jugs" : Str) = some (.ref t) := by
 unfold suF; rw [lP, if_neg (fun e => n_many_jugs e.symm), lP, if_pos rfl]
theorem suF_many (t : Addr) (m : Int) : (suF t m).lookup ("many" : Str) = some (.int m) := by
 unfold suF; rw [lP, if_pos rfl]
theorem suF_no (t : Addr) (m : Int) {x : Str} (h1 : ¬ x = "many") (h2 : ¬ x = "jugs") : (suF t m).lookup x = none := by
 unfold suF; rw [lP, if_neg h1, lP, if_neg h2]; rfl
theorem whF_state (t : Addr) : (whF t).lookup ("state" : Str) = some (.ref t) := by
 unfold whF; rw [lP, if_pos rfl]
theorem whF_no (t : Addr) {x : Str} (h1 : ¬ x = "state") : (whF t).lookup x = none := by
 unfold whF; rw [lP, if_neg h1]; rfl
def GoAt (Z : Gz) (H : Hp) (p : Addr) : Go → Prop
 | .holds j m => ∃ dx, H p = some (.ins Z.H dx (hoF j m))
 | .som m => ∃ dx, H p = some (.ins Z.S dx (soF m))
 | .sum js m => ∃ dx t, H p = some (.ins Z.U dx (suF t m)) ∧ H t = some (.tup (js.map V.int))
 | .whole st => ∃ dx t, H p = some (.ins Z.W dx (whF t)) ∧ H t = some (.tup (st.map V.int))
theorem GoAt.fix {Z : Gz} {H H' : Hp} {p : Addr} {g : Go} (h : GoAt Z H p g) (s : Fix H H') : GoAt Z H' p g := by
 cases g with
 | holds j m => obtain ⟨dx, e⟩ := h; exact ⟨dx, s _ _ e rfl⟩
 | som m => obtain ⟨dx, e⟩ := h; exact ⟨dx, s _ _ e rfl⟩
 | sum js m => obtain ⟨dx, t, e, e2⟩ := h; exact ⟨dx, t, s _ _ e rfl, s _ _ e2 rfl⟩
 | whole st => obtain ⟨dx, t, e, e2⟩ := h; exact ⟨dx, t, s _ _ e rfl, s _ _ e2 rfl⟩
theorem GoAt.mono {Z : Gz} {H H' : Hp} {p : Addr} {g : Go} (h : GoAt Z H p g) (s : Same H H') : GoAt Z H' p g := h.fix (Fix.of s)
def Go.ok (sz : List Int) : Go → Prop
 | .holds j _ => j < sz.length
 | .som _ => True
 | .sum js _ => js.length ≤ 4 ∧ ∀ j ∈ js, 0 ≤ j ∧ j < sz.length
 | .whole t => J.IsSt sz t
def sumAt (st js : List Int) : Int := (js.map fun j => J.at0 st j.toNat).sum
def Go.met (st : List Int) : Go → Bool
 | .holds j m => decide (J.at0 st j = m)
 | .som m => decide (m ∈ st)
 | .sum js m => decide (sumAt st js = m)
 | .whole t => decide (st = t)
def Go.num : Go → Nat
 | .holds _ _ => 0
 | .som _ => 1
 | .sum _ _ => 2
 | .whole _ => 3
theorem decV (a b : Int) : decide (V.int a = V.int b) = decide (a = b) := by
 by_cases h : a = b
 · rw [decide_eq_true h, decide_eq_true (by rw [h])]
 · rw [decide_eq_false h, decide_eq_false (fun e => h (by injection e))]
theorem inV_ints (m : Int) (st : List Int) : inV (.int m) (st.map V.int) = decide (m ∈ st) := by
 unfold inV
 rw [Bool.eq_iff_iff, List.any_eq_true, decide_eq_true_iff]
 constructor
 · rintro ⟨x, hx, e⟩
   obtain ⟨z, hz, rfl⟩ := List.mem_map.mp hx
   have : z = m := beq_iff_eq.mp (show (z == m) = true from e)
   exact this ▸ hz
 · intro h
   exact ⟨.int m, List.mem_map.mpr ⟨m, h, rfl⟩, (show (m == m) = true from beq_iff_eq.mpr rfl)⟩
theorem flat_ints (st : List Int) : (st.map V.int).all flatV = true := by
 rw [List.all_eq_true]
 intro x hx
 obtain ⟨z, _, rfl⟩ := List.mem_map.mp hx
 rfl
structure CHo (K : W.Frag) (C : Addr) : Prop where
 cl : Cls K C
 jug : NoAttr K C "jug"
 many : NoAttr K C "many"
structure CSo (K : W.Frag) (C : Addr) : Prop where
 cl : Cls K C
 many : NoAttr K C "many"
structure CSu (K : W.Frag) (C : Addr) : Prop where
 cl : Cls K C
 jugs : NoAttr K C "jugs"
 many : NoAttr K C "many"
structure CWh (K : W.Frag) (C : Addr) : Prop where
 cl : Cls K C
 state : NoAttr K C "state"
section
v5%
variable {CH : Addr} {Z : Gz}
def sp_check_amount : Sp := fun vs H Q _ => ∃ m : Int, vs = [.int m] ∧ 0 ≤ m ∧ m ≤ 240 ∧ Q .non H
theorem ok_check_amount {f : Addr} {fd : FuncData} (F : Fun K "check_amount" "check_amount" s_check_amount f fd) (hA : ∃ t, mg "MOST_AMOUNT" = some (.int 240 t)) (N : fb% 1 "is_number" ["value", "least", "most"] sp_is_number) : fo% CX0 2 f fd ["many"] sp_check_amount := by
 obtain ⟨t, eA⟩ := hA
 gok F.ok sc_check_amount
 · obtain ⟨m, rfl, _⟩ := h
   rfl
 · obtain ⟨m, rfl, h0, h1, k⟩ := h
   refine ⟨_, s1' (ps_if (pt_not (pt_val (eF N hr (pK (pv 0) (pK eI (pK (pe_glob (v := .int 240) (by rfl) eA ⟨_, rfl⟩) pN)))))) sV sN), ?_⟩
   refine ⟨_, rfl, m, 0, 240, rfl, _, rfl, ?_⟩
   rw [decide_eq_true h0, decide_eq_true h1]
   exact iteF k
def sp_jugs_in : Sp := fun vs H Q _ => ∃ (l : Addr) (js : List Int), vs = [.ref l] ∧ H l = some (.lst (js.map V.int)) ∧ js.Nodup ∧ 1 ≤ js.length ∧ js.length ≤ 4 ∧ (∀ j ∈ js, 0 ≤ j ∧ j ≤ 3) ∧ ∀ r H', Same H H' → H' r = some (.lst (js.map V.int)) → Q (.ref r) H'
theorem ok_jugs_in {f : Addr} {fd : FuncData} (F : Fun K "jugs_in" "jugs_in" s_jugs_in f fd) (B : Bt mg) (hs : mg "set" = none) (N : fb% 3 "check_jug_goals" ["jug"] sp_check_jug) : fo% CX0 4 f fd ["jugs"] sp_jugs_in := by
 gok F.ok sc_jugs_in
 · obtain ⟨l, js, rfl, _⟩ := h
   rfl
 · obtain ⟨l, js, rfl, hl, hnd, h1, h4, hb, k⟩ := h
   have nd := sc_jugs_in.nd
   refine ⟨_, sK (ps_if (pt_not (pt_val (eZ call_isinst (by rfl) B.isinstance bI (pK (pv 0) (pK (pe_bltn (v := .ty "list") (by rfl) B.list bt_list rfl) pN))))) sV sN)
     (sK (sS (i := 1) nd rfl (Or.inl rfl) (eT cL (by rfl) B.list bt_list (pK (pv 0) pN)))
     (sK (ps_for PassesOwn.never rfl (pi_list (pv 1)) (pg_name (i := 2) nd rfl (Or.inl rfl))
       (s1' (ps_expr (eF N hr (pK (pv 2) pN)))))
     (sK (ps_if (pt_cmpR op_eq (eZ call_len_seq (by rfl) B.len PySem.boot_len (pK (pv 1) pN)) eI (nomark _)) sV sN)
     (sK (ps_if (pt_cmpR op_ne (pe_lenset rfl (by rfl) B.len (by rfl) hs (pv 1)) (eZ call_len_seq (by rfl) B.len PySem.boot_len (pK (pv 1) pN)) (nomark _)) sV sN)
     (s1' (sR (pv 1))))))), ?_⟩
   refine ⟨_, rfl, _, _, _, _, _, rfl, .ty "list", .lst hl, kit_ll, _, rfl, iteF ?_⟩
   refine ⟨_, rfl, l, _, rfl, .inl (SqL.of hl), fun r nr => ?_⟩
   have s1 : Same H (upd H r (.lst (js.map V.int))) := Same.new nr
   refine ⟨_, rfl, r, rfl, ⟨_, SqL.of uS⟩, for_list (K := K) (a := r) (xs := js.map V.int) (fun i σ H' => ∃ v, σ = [some (.ref l), some (.ref r), v] ∧ H' = upd H r (.lst (js.map V.int)))
     ⟨none, rfl, rfl⟩ (fun i σ H' _ ⟨_, _, e⟩ => by subst e; exact SqL.of uS) ?_ ?_⟩
   · rintro i x σ H' hx ⟨v, rfl, rfl⟩
     obtain ⟨z, ez, rfl⟩ := mem_ints hx
     obtain ⟨z0, z3⟩ := hb z (List.mem_of_getElem? ez)
     obtain ⟨j, rfl⟩ : ∃ j : Nat, z = (j : Int) := ⟨z.toNat, (Int.toNat_of_nonneg z0).symm⟩
     exact ⟨_, rfl, j, rfl, by omega, _, rfl, rfl⟩
   · rintro σ H' ⟨v, rfl, rfl⟩
     refine ⟨_, rfl, r, _, rfl, .inl (SqL.of uS), rfl, _, rfl, ?_⟩
     rw [decV, decide_eq_false (by rw [List.length_map]; omega)]
     refine iteF ?_
     refine ⟨_, rfl, r, js, rfl, SqL.of uS, hnd, by omega, ?_⟩
     refine ⟨_, rfl, r, _, rfl, .inl (SqL.of uS), rfl, _, rfl, iteNS (by rw [List.length_map]) ?_⟩
     exact ⟨_, rfl, k r _ s1 uS⟩
def sp_amounts_in : Sp := fun vs H Q _ => ∃ (l : Addr) (st : List Int), vs = [.ref l] ∧ H l = some (.tup (st.map V.int)) ∧ 1 ≤ st.length ∧ st.length ≤ 4 ∧ (∀ j ∈ st, 0 ≤ j ∧ j ≤ 60) ∧ ∀ r H', Same H H' → H' r = some (.lst (st.map V.int)) → Q (.ref r) H'
theorem ok_amounts_in {f : Addr} {fd : FuncData} (F : Fun K "amounts_in" "amounts_in" s_amounts_in f fd) (B : Bt mg) (N : fb% 1 "is_number" ["value", "least", "most"] sp_is_number) : fo% CX0 2 f fd ["state"] sp_amounts_in := by
 obtain ⟨t4, e4⟩ := B.jugs
 obtain ⟨t60, e60⟩ := B.size
 gok F.ok sc_amounts_in
 · obtain ⟨l, sz, rfl, _⟩ := h
   rfl
 · obtain ⟨l, sz, rfl, hl, h1, h4, hb, k⟩ := h
   have nd := sc_amounts_in.nd
   refine ⟨_, sK (ps_if (pt_not (pt_val (eZ call_isinst (by rfl) B.isinstance bI (pK (pv 0) (pK (pe_bltn (v := .ty "tuple") (by rfl) B.tuple bt_tuple rfl) pN))))) sV sN)
     (sK (sS (i := 1) nd rfl (Or.inl rfl) (eT cL (by rfl) B.list bt_list (pK (pv 0) pN)))
     (sK (ps_if (pt_not (pt_chain op_le op_le eI (eZ call_len_seq (by rfl) B.len PySem.boot_len (pK (pv 1) pN)) (pe_glob (v := .int 4) (by rfl) e4 ⟨_, rfl⟩))) sV sN)
     (sK (ps_for PassesOwn.never rfl (pi_list (pv 1)) (pg_name (i := 2) nd rfl (Or.inl rfl))
       (s1' (ps_if (pt_not (pt_val (eF N hr (pK (pv 2) (pK eI (pK (pe_glob (v := .int 60) (by rfl) e60 ⟨_, rfl⟩) pN)))))) sV sN)))
     (s1' (sR (pv 1)))))), ?_⟩
   refine ⟨_, rfl, _, _, _, _, _, rfl, .ty "tuple", .tup hl, kit_tt, _, rfl, iteF ?_⟩
   refine ⟨_, rfl, l, _, rfl, .inr (SqT.of hl), fun r nr => ?_⟩
   have s1 : Same H (upd H r (.lst (sz.map V.int))) := Same.new nr
   refine ⟨_, rfl, r, _, rfl, .inl (SqL.of uS), _, _, rfl, rfl, _, rfl, ?_⟩
   rw [decide_eq_true (by simp; omega)]
   refine iteT ⟨_, _, rfl, rfl, _, rfl, ?_⟩
   rw [decide_eq_true (by simp; omega)]
   refine iteF ?_
   refine ⟨_, rfl, r, rfl, ⟨_, SqL.of uS⟩, for_list (K := K) (a := r) (xs := sz.map V.int) (fun i σ H' => ∃ v, σ = [some (.ref l), some (.ref r), v] ∧ H' = upd H r (.lst (sz.map V.int)))
     ⟨none, rfl, rfl⟩ (fun i σ H' _ ⟨_, _, e⟩ => by subst e; exact SqL.of uS) ?_ ?_⟩
   · rintro i x σ H' hx ⟨v, rfl, rfl⟩
     obtain ⟨z, ez, rfl⟩ := mem_ints hx
     have hb := hb z (List.mem_of_getElem? ez)
     refine ⟨_, rfl, z, 0, 60, rfl, _, rfl, ?_⟩
     rw [decide_eq_true hb.1, decide_eq_true hb.2]
     exact iteF ⟨_, rfl, rfl⟩
   · rintro σ H' ⟨v, rfl, rfl⟩
     exact ⟨_, rfl, k r _ s1 uS⟩
def sp_check_state_of (CH : Addr) : Sp := fun vs H Q _ => ∃ p sz tap a st, vs = [.ref p, .ref a] ∧ House CH H p sz tap ∧ H a = some (.tup (st.map V.int)) ∧ J.IsSt sz st ∧ ∀ H', Same H H' → Q .non H'
theorem ok_check_state_of {f : Addr} {fd : FuncData} (F : Fun K "check_state_of" "check_state_of" s_check_state_of f fd) (N : fb% 2 "held_in" ["house", "state"] (sp_held_in CH)) : fo% CX0 3 f fd ["house", "state"] (sp_check_state_of CH) := by
 gok F.ok sc_check_state_of
 · obtain ⟨p, sz, tap, a, st, rfl, _⟩ := h
   rfl
 · obtain ⟨p, sz, tap, a, st, rfl, hh, ha, hst, k⟩ := h
   refine ⟨_, s1' (ps_try fun E' => s1' (ps_expr (eF N hr (pK (pv 0) (pK (pv 1) pN))))), ?_⟩
   exact ⟨_, rfl, _, rfl, p, sz, tap, a, st, rfl, hh, ha, hst, fun l H' s' _ _ => k _ s'⟩
end
section
v5%
variable {CH : Addr} {Z : Gz}
def sp_Holds_init (Z : Gz) : Sp := fun vs H Q _ => ∃ (p dx : Addr) (j : Nat) (m : Int), vs = [.ref p, .int j, .int m] ∧ H p = some (.ins Z.H dx []) ∧ j ≤ 3 ∧ 0 ≤ m ∧ m ≤ 240 ∧
 ∀ H', (∀ c o, H c = some o → c ≠ p → H' c = some o) → GoAt Z H' p (.holds j m) → Q .non H'
theorem ok_Holds_init {f : Addr} {fd : FuncData} (F : Fun K "__init__" "Holds.__init__" s_Holds_init f fd) (C : CHo K Z.H) (N : fb% 3 "check_jug_goals" ["jug"] sp_check_jug) (M : fb% 2 "check_amount" ["many"] sp_check_amount) :
   fo% CX0 4 f fd ["self", "jug", "many"] (sp_Holds_init Z) := by
 gok F.ok sc_Holds_init
 · obtain ⟨p, dx, a, b, rfl, _⟩ := h
   rfl
 · obtain ⟨p, dx, j, m, rfl, hp, hj, h0, h1, k⟩ := h
   refine ⟨_, sK (ps_expr (eF N hr (pK (pv 1) pN))) (sK (ps_expr (eF M (hr.mono (by decide)) (pK (pv 2) pN)))
     (sK (ps_fld (pv 0) (pv 1) rfl) (s1' (ps_fld (pv 0) (pv 2) rfl)))), ?_⟩
   refine ⟨_, rfl, j, rfl, hj, ?_⟩
   refine ⟨_, rfl, m, rfl, h0, h1, ?_⟩
   refine ⟨_, rfl, _, rfl, p, Z.H, dx, [], rfl, hp, C.cl, C.jug, (by show 0 < 1000; decide), ?_⟩
   refine ⟨_, rfl, _, rfl, p, Z.H, dx, _, rfl, uS, C.cl, C.many, (by show 1 < 1000; decide), ?_⟩
   exact k _ (fun c o e hc => by rw [uN hc, uN hc]; exact e) ⟨dx, uS⟩
def sp_Some_init (Z : Gz) : Sp := fun vs H Q _ => ∃ (p dx : Addr) (m : Int), vs = [.ref p, .int m] ∧ H p = some (.ins Z.S dx []) ∧ 0 ≤ m ∧ m ≤ 240 ∧
 ∀ H', (∀ c o, H c = some o → c ≠ p → H' c = some o) → GoAt Z H' p (.som m) → Q .non H'
theorem ok_Some_init {f : Addr} {fd : FuncData} (F : Fun K "__init__" "Some.__init__" s_Some_init f fd) (C : CSo K Z.S) (M : fb% 2 "check_amount" ["many"] sp_check_amount) :
   fo% CX0 3 f fd ["self", "many"] (sp_Some_init Z) := by
 gok F.ok sc_Some_init
 · obtain ⟨p, dx, b, rfl, _⟩ := h
   rfl
 · obtain ⟨p, dx, m, rfl, hp, h0, h1, k⟩ := h
   refine ⟨_, sK (ps_expr (eF M hr (pK (pv 1) pN))) (s1' (ps_fld (pv 0) (pv 1) rfl)), ?_⟩
   refine ⟨_, rfl, m, rfl, h0, h1, ?_⟩
   refine ⟨_, rfl, _, rfl, p, Z.S, dx, [], rfl, hp, C.cl, C.many, (by show 0 < 1000; decide), ?_⟩
   exact k _ (fun c o e hc => by rw [uN hc]; exact e) ⟨dx, uS⟩
def sp_Sum_init (Z : Gz) : Sp := fun vs H Q _ => ∃ (p dx l : Addr) (js : List Int) (m : Int), vs = [.ref p, .ref l, .int m] ∧ H p = some (.ins Z.U dx []) ∧ H l = some (.lst (js.map V.int)) ∧ js.Nodup ∧ 1 ≤ js.length ∧ js.length ≤ 4 ∧ (∀ j ∈ js, 0 ≤ j ∧ j ≤ 3) ∧ 0 ≤ m ∧ m ≤ 240 ∧
 ∀ H', (∀ c o, H c = some o → c ≠ p → H' c = some o) → GoAt Z H' p (.sum js m) → Q .non H'
theorem ok_Sum_init {f : Addr} {fd : FuncData} (F : Fun K "__init__" "Sum.__init__" s_Sum_init f fd) (B : Bt mg) (C : CSu K Z.U) (N : fb% 4 "jugs_in" ["jugs"] sp_jugs_in) (M : fb% 2 "check_amount" ["many"] sp_check_amount) :
   fo% CX0 5 f fd ["self", "jugs", "many"] (sp_Sum_init Z) := by
 gok F.ok sc_Sum_init
 · obtain ⟨p, dx, l, js, m, rfl, _⟩ := h
   rfl
 · obtain ⟨p, dx, l, js, m, rfl, hp, hl, hnd, l1, l4, hb, h0, h1, k⟩ := h
   refine ⟨_, sK (ps_fld (pv 0) (eT cT (by rfl) B.tuple bt_tuple (pK (eF N hr (pK (pv 1) pN)) pN)) rfl)
     (sK (ps_expr (eF M (hr.mono (by decide)) (pK (pv 2) pN))) (s1' (ps_fld (pv 0) (pv 2) rfl))), ?_⟩
   refine ⟨_, rfl, l, js, rfl, hl, hnd, l1, l4, hb, fun r H1 s1 hr1 => ?_⟩
   refine ⟨r, _, rfl, .inl ⟨SqL.of hr1, fun t nt => ?_⟩⟩
   have s2 : Same H (upd H1 t (.tup (js.map V.int))) := s1.lay nt
   have tp : t ≠ p := fun e => by subst e; rw [s1 _ _ hp] at nt; cases nt
   refine ⟨_, rfl, p, Z.U, dx, [], rfl, s2 _ _ hp, C.cl, C.jugs, (by show 0 < 1000; decide), ?_⟩
   refine ⟨_, rfl, m, rfl, h0, h1, ?_⟩
   refine ⟨_, rfl, _, rfl, p, Z.U, dx, _, rfl, uS, C.cl, C.many, (by show 1 < 1000; decide), ?_⟩
   refine k _ (fun c o e hc => by rw [uN hc, uN hc]; exact s2 _ _ e) ⟨dx, t, uS, ?_⟩
   rw [uN tp, uN tp, uS]
def sp_Whole_init (Z : Gz) : Sp := fun vs H Q _ => ∃ (p dx l : Addr) (st : List Int), vs = [.ref p, .ref l] ∧ H p = some (.ins Z.W dx []) ∧ H l = some (.tup (st.map V.int)) ∧ 1 ≤ st.length ∧ st.length ≤ 4 ∧ (∀ j ∈ st, 0 ≤ j ∧ j ≤ 60) ∧
 ∀ H', (∀ c o, H c = some o → c ≠ p → H' c = some o) → GoAt Z H' p (.whole st) → Q .non H'
theorem ok_Whole_init {f : Addr} {fd : FuncData} (F : Fun K "__init__" "Whole.__init__" s_Whole_init f fd) (B : Bt mg) (C : CWh K Z.W) (N : fb% 2 "amounts_in" ["state"] sp_amounts_in) :
   fo% CX0 3 f fd ["self", "state"] (sp_Whole_init Z) := by
 gok F.ok sc_Whole_init
 · obtain ⟨p, dx, l, js, rfl, _⟩ := h
   rfl
 · obtain ⟨p, dx, l, js, rfl, hp, hl, l1, l4, hb, k⟩ := h
   refine ⟨_, s1' (ps_fld (pv 0) (eT cT (by rfl) B.tuple bt_tuple (pK (eF N hr (pK (pv 1) pN)) pN)) rfl), ?_⟩
   refine ⟨_, rfl, l, js, rfl, hl, l1, l4, hb, fun r H1 s1 hr1 => ?_⟩
   refine ⟨r, _, rfl, .inl ⟨SqL.of hr1, fun t nt => ?_⟩⟩
   have s2 : Same H (upd H1 t (.tup (js.map V.int))) := s1.lay nt
   have tp : t ≠ p := fun e => by subst e; rw [s1 _ _ hp] at nt; cases nt
   refine ⟨_, rfl, p, Z.W, dx, [], rfl, s2 _ _ hp, C.cl, C.state, (by show 0 < 1000; decide), ?_⟩
   refine k _ (fun c o e hc => by rw [uN hc]; exact s2 _ _ e) ⟨dx, t, uS, ?_⟩
   rw [uN tp, uS]
def sp_met (Z : Gz) (CH : Addr) (n : Nat) : Sp := fun vs H Q _ => ∃ p h l sz tap st g, vs = [.ref p, .ref h, .ref l] ∧ g.num = n ∧ GoAt Z H p g ∧ House CH H h sz tap ∧ H l = some (.lst (st.map V.int)) ∧ J.IsSt sz st ∧ g.ok sz ∧
 ∀ H', Same H H' → Q (.bl (g.met st)) H'
theorem ok_Holds_met {f : Addr} {fd : FuncData} (F : Fun K "met_by" "Holds.met_by" s_Holds_met_by f fd) (C : CHo K Z.H) (N : fb% 2 "check_house_has_goals" ["house", "jug"] (sp_check_house_has CH)) :
   fo% CX0 3 f fd ["self", "house", "held"] (sp_met Z CH 0) := by
 gok F.ok sc_Holds_met_by
 · obtain ⟨p, h, l, sz, tap, st, g, rfl, _⟩ := h
   rfl
 · obtain ⟨p, h, l, sz, tap, st, g, rfl, hn, hg, hh, hl, hst, hok, k⟩ := h
   cases g with
   | holds j m =>
     obtain ⟨dx, hp⟩ := hg
     have hj : j < sz.length := hok
     have hj' : j < st.length := by rw [hst.len]; exact hj
     refine ⟨_, sK (ps_expr (eF N hr (pK (pv 1) (pK (pe_fld (pv 0) rfl) pN)))) (s1' (sR (pe_cmpR op_eq (pe_ix ix_list (pv 2) (pe_fld (pv 0) rfl) (fun _ _ => rfl)) (pe_fld (pv 0) rfl) (nomark _)))), ?_⟩
     refine ⟨_, rfl, _, rfl, p, Z.H, dx, _, _, rfl, hp, C.cl, C.jug, hoF_jug _ _, h, sz, tap, j, rfl, hh, hj, fun H1 s1 => ?_⟩
     refine ⟨_, rfl, _, rfl, p, Z.H, dx, _, _, rfl, s1 _ _ hp, C.cl, C.jug, hoF_jug _ _, l, _, _, _, rfl, rfl, SqL.of (s1 _ _ hl), atI_nat (getV_of hj'), ?_⟩
     refine ⟨_, rfl, p, Z.H, dx, _, _, rfl, s1 _ _ hp, C.cl, C.many, hoF_many _ _, rfl, ?_⟩
     rw [decV]
     exact k _ s1
   | som m => cases hn
   | sum js m => cases hn
   | whole t => cases hn
theorem ok_Some_met {f : Addr} {fd : FuncData} (F : Fun K "met_by" "Some.met_by" s_Some_met_by f fd) (C : CSo K Z.S) :
   fo% CX0 3 f fd ["self", "house", "held"] (sp_met Z CH 1) := by
 gok F.ok sc_Some_met_by
 · obtain ⟨p, h, l, sz, tap, st, g, rfl, _⟩ := h
   rfl
 · obtain ⟨p, h, l, sz, tap, st, g, rfl, hn, hg, hh, hl, hst, hok, k⟩ := h
   cases g with
   | som m =>
     obtain ⟨dx, hp⟩ := hg
     refine ⟨_, s1' (sR (pe_cmpR op_in_seq (pe_fld (pv 0) rfl) (pv 2) (by rfl))), ?_⟩
     refine ⟨_, rfl, p, Z.S, dx, _, _, rfl, hp, C.cl, C.many, soF_many _, _, rfl, l, _, rfl, .inl (SqL.of hl), rfl, flat_ints _, ?_⟩
     show Q (.bl (inV (.int m) (st.map V.int))) H
     rw [inV_ints]
     exact k _ (Same.refl _)
   | holds j m => cases hn
   | sum js m => cases hn
   | whole t => cases hn
theorem ok_Whole_met {f : Addr} {fd : FuncData} (F : Fun K "met_by" "Whole.met_by" s_Whole_met_by f fd) (B : Bt mg) (C : CWh K Z.W) (N : fb% 3 "check_state_of" ["house", "state"] (sp_check_state_of CH)) :
   fo% CX0 4 f fd ["self", "house", "held"] (sp_met Z CH 3) := by
 gok F.ok sc_Whole_met_by
 · obtain ⟨p, h, l, sz, tap, st, g, rfl, _⟩ := h
   rfl
 · obtain ⟨p, h, l, sz, tap, st, g, rfl, hn, hg, hh, hl, hst, hok, k⟩ := h
   cases g with
   | whole t =>
     obtain ⟨dx, a, hp, ha⟩ := hg
     refine ⟨_, sK (ps_expr (eF N hr (pK (pv 1) (pK (pe_fld (pv 0) rfl) pN)))) (s1' (sR (pe_cmpR (op_eqD hr.u20) (eT cT (by rfl) B.tuple bt_tuple (pK (pv 2) pN)) (pe_fld (pv 0) rfl) (nomark _)))), ?_⟩
     refine ⟨_, rfl, _, rfl, p, Z.W, dx, _, _, rfl, hp, C.cl, C.state, whF_state _, h, sz, tap, a, t, rfl, hh, ha, hok, fun H1 s1 => ?_⟩
     refine ⟨_, rfl, l, _, rfl, .inl ⟨SqL.of (s1 _ _ hl), fun u nu => ?_⟩⟩
     have s2 := s1.lay (o := .tup (st.map V.int)) nu
     refine ⟨_, rfl, p, Z.W, dx, _, _, rfl, s2 _ _ hp, C.cl, C.state, whF_state _, _, rcT uS (s2 _ _ ha), ?_⟩
     exact k _ s2
   | holds j m => cases hn
   | sum js m => cases hn
   | som m => cases hn
theorem bt_sum : bootBuiltins "sum" = some (.builtin "sum") := by decide +kernel
theorem ok_Sum_met {f : Addr} {fd : FuncData} (F : Fun K "met_by" "Sum.met_by" s_Sum_met_by f fd) (C : CSu K Z.U) (hsm : mg "sum" = none) (N : fb% 2 "check_house_has_goals" ["house", "jug"] (sp_check_house_has CH)) :
   fo% CX0 3 f fd ["self", "house", "held"] (sp_met Z CH 2) := by
 gok F.ok sc_Sum_met_by
 · obtain ⟨p, h, l, sz, tap, st, g, rfl, _⟩ := h
   rfl
 · obtain ⟨p, h, l, sz, tap, st, g, rfl, hn, hg, hh, hl, hst, hok, k⟩ := h
   cases g with
   | sum js m =>
     obtain ⟨dx, a, hp, ha⟩ := hg
     obtain ⟨h4, hb⟩ := hok
     have nd := sc_Sum_met_by.nd
     refine ⟨_, sK (ps_for PassesOwn.never rfl (pi_tup (pe_fld (pv 0) rfl)) (pg_name (i := 3) nd rfl (Or.inl rfl)) (s1' (ps_expr (eF N hr (pK (pv 1) (pK (pv 3) pN))))))
       (s1' (sR (pe_cmpR op_eq (eZ (call_sum rfl) (by rfl) hsm bt_sum (pK (pe_lc sc_Sum_met_by [2] (pi_tup (pe_fld (pv 0) rfl)) (fun _ _ _ _ _ _ => ⟨pif_nil, pe_ix (ix_listK K) (pv 1) (pv 0) (fun _ _ => rfl)⟩)) pN)) (pe_fld (pv 0) rfl) (nomark _)))), ?_⟩
     refine ⟨_, rfl, p, Z.U, dx, _, _, rfl, hp, C.cl, C.jugs, suF_jugs _ _, a, rfl, ⟨_, SqT.of ha⟩, for_tup (K := K) (a := a) (xs := js.map V.int) (fun i σ H' => ∃ v, σ = [some (.ref p), some (.ref h), some (.ref l), v] ∧ Same H H')
       ⟨none, rfl, Same.refl _⟩ (fun i σ H' _ ⟨_, _, s1⟩ => SqT.of (s1 _ _ ha)) ?_ ?_⟩
     · rintro i x σ H' hx ⟨v, rfl, s1⟩
       obtain ⟨z, ez, rfl⟩ := mem_ints hx
       obtain ⟨z0, z1⟩ := hb z (List.mem_of_getElem? ez)
       obtain ⟨j, rfl⟩ : ∃ j : Nat, z = (j : Int) := ⟨z.toNat, (Int.toNat_of_nonneg z0).symm⟩
       exact ⟨_, rfl, _, rfl, h, sz, tap, j, rfl, hh.mono s1, by omega, fun H2 s2 => ⟨_, rfl, s1.trans s2⟩⟩
     · rintro σ H' ⟨v, rfl, s1⟩
       refine ⟨_, rfl, p, Z.U, dx, _, _, rfl, s1 _ _ hp, C.cl, C.jugs, suF_jugs _ _, a, rfl, ⟨_, SqT.of (s1 _ _ ha)⟩, lc_tup (xs := js.map V.int) (fun i ys H'' => ys = ((js.take i).map fun j => J.at0 st j.toNat).map V.int ∧ H'' = H') ⟨rfl, rfl⟩ (by rw [List.length_map]; exact small1000 (by omega)) (fun i ys H' ⟨e, _⟩ => by rw [e]; simp; omega)
         (fun i ys H'' _ ⟨_, e⟩ => by subst e; exact SqT.of (s1 _ _ ha)) (fun i x ys H'' hx ⟨e1, e2⟩ => ?_) (fun ys H'' ⟨e1, e2⟩ => ?_)⟩
       · obtain ⟨z, ez, rfl⟩ := mem_ints hx
         obtain ⟨z0, z1⟩ := hb z (List.mem_of_getElem? ez)
         obtain ⟨j, rfl⟩ : ∃ j : Nat, z = (j : Int) := ⟨z.toNat, (Int.toNat_of_nonneg z0).symm⟩
         have hj' : j < st.length := by rw [hst.len]; omega
         subst e1 e2
         refine tYes_of ⟨_, rfl, _, rfl, l, _, _, .int (J.at0 st j), rfl, rfl, SqL.of (s1 _ _ hl), atI_nat (getV_of hj'), ?_, rfl⟩
         rw [List.take_add_one, ez, List.map_append, List.map_append]
         rfl
       · subst e1 e2
         intro D nD
         have s2 := s1.lay (o := .lst (((js.take (js.map V.int).length).map fun j => J.at0 st j.toNat).map V.int)) nD
         refine ⟨D, _, rfl, SqL.of uS, ?_⟩
         refine ⟨_, rfl, p, Z.U, dx, _, _, rfl, s2 _ _ hp, C.cl, C.many, suF_many _ _, rfl, ?_⟩
         rw [decV, List.length_map, List.take_length]
         exact k _ (by rw [List.length_map, List.take_length] at s2; exact s2)
   | holds j m => cases hn
   | whole t => cases hn
   | som m => cases hn
def sp_come (Z : Gz) (CH : Addr) : Sp := fun vs H Q _ => ∃ p h a sz tap st g, vs = [.ref p, .ref h, .ref a] ∧ GoAt Z H p g ∧ House CH H h sz tap ∧ H a = some (.tup (st.map V.int)) ∧ J.IsSt sz st ∧ g.ok sz ∧
 ∀ H', Same H H' → Q (.bl (g.met st)) H'
theorem ok_come {f : Addr} {fd : FuncData} (F : Fun K "come" "Goal.come" s_Goal_come f fd) (HI : fb% 2 "held_in" ["house", "state"] (sp_held_in CH)) (M0 : me% 4 Z.H "met_by" ["self", "house", "held"] (sp_met Z CH 0))
   (M1 : me% 4 Z.S "met_by" ["self", "house", "held"] (sp_met Z CH 1)) (M2 : me% 4 Z.U "met_by" ["self", "house", "held"] (sp_met Z CH 2)) (M3 : me% 4 Z.W "met_by" ["self", "house", "held"] (sp_met Z CH 3)) :
   fo% CX0 5 f fd ["self", "house", "state"] (sp_come Z CH) := by
 gok F.ok sc_Goal_come
 · obtain ⟨p, h, l, sz, tap, st, g, rfl, _⟩ := h
   rfl
 · obtain ⟨p, h, a, sz, tap, st, g, rfl, hg, hh, ha, hst, hok, k⟩ := h
   have nd := sc_Goal_come.nd
   have hr2 : Room 2 _ := hr.mono (by decide)
   cases g with
   | holds j m =>
     refine ⟨_, sK (sS (i := 3) nd rfl (Or.inl rfl) (eF HI hr2 (pK (pv 1) (pK (pv 2) pN)))) (s1' (sR (pe_me M0 (pv 0) hr (pK (pv 1) (pK (pv 3) pN))))), ?_⟩
     refine ⟨_, rfl, _, rfl, h, sz, tap, a, st, rfl, hh, ha, hst, fun l H1 s1 _ hl => ?_⟩
     obtain ⟨dx, hp⟩ := hg.mono s1
     exact ⟨_, rfl, p, dx, _, rfl, hp, hoF_no _ _ (by decide +kernel) (by decide +kernel), _, rfl, _, rfl, p, h, l, sz, tap, st, .holds j m, rfl, rfl, ⟨dx, hp⟩, hh.mono s1, hl, hst, hok, fun H2 s2 => k _ (s1.trans s2)⟩
   | som m =>
     refine ⟨_, sK (sS (i := 3) nd rfl (Or.inl rfl) (eF HI hr2 (pK (pv 1) (pK (pv 2) pN)))) (s1' (sR (pe_me M1 (pv 0) hr (pK (pv 1) (pK (pv 3) pN))))), ?_⟩
     refine ⟨_, rfl, _, rfl, h, sz, tap, a, st, rfl, hh, ha, hst, fun l H1 s1 _ hl => ?_⟩
     obtain ⟨dx, hp⟩ := hg.mono s1
     exact ⟨_, rfl, p, dx, _, rfl, hp, soF_no _ (by decide +kernel), _, rfl, _, rfl, p, h, l, sz, tap, st, .som m, rfl, rfl, ⟨dx, hp⟩, hh.mono s1, hl, hst, hok, fun H2 s2 => k _ (s1.trans s2)⟩
   | sum js m =>
     refine ⟨_, sK (sS (i := 3) nd rfl (Or.inl rfl) (eF HI hr2 (pK (pv 1) (pK (pv 2) pN)))) (s1' (sR (pe_me M2 (pv 0) hr (pK (pv 1) (pK (pv 3) pN))))), ?_⟩
     refine ⟨_, rfl, _, rfl, h, sz, tap, a, st, rfl, hh, ha, hst, fun l H1 s1 _ hl => ?_⟩
     obtain ⟨dx, t, hp, ht⟩ := hg.mono s1
     exact ⟨_, rfl, p, dx, _, rfl, hp, suF_no _ _ (by decide +kernel) (by decide +kernel), _, rfl, _, rfl, p, h, l, sz, tap, st, .sum js m, rfl, rfl, ⟨dx, t, hp, ht⟩, hh.mono s1, hl, hst, hok, fun H2 s2 => k _ (s1.trans s2)⟩
   | whole t =>
     refine ⟨_, sK (sS (i := 3) nd rfl (Or.inl rfl) (eF HI hr2 (pK (pv 1) (pK (pv 2) pN)))) (s1' (sR (pe_me M3 (pv 0) hr (pK (pv 1) (pK (pv 3) pN))))), ?_⟩
     refine ⟨_, rfl, _, rfl, h, sz, tap, a, st, rfl, hh, ha, hst, fun l H1 s1 _ hl => ?_⟩
     obtain ⟨dx, b, hp, hb⟩ := hg.mono s1
     exact ⟨_, rfl, p, dx, _, rfl, hp, whF_no _ (by decide +kernel), _, rfl, _, rfl, p, h, l, sz, tap, st, .whole t, rfl, rfl, ⟨dx, b, hp, hb⟩, hh.mono s1, hl, hst, hok, fun H2 s2 => k _ (s1.trans s2)⟩
end
end Jug
namespace Jug
open PySem L2
def Gz.cl (Z : Gz) : Go → Addr
 | .holds _ _ => Z.H
 | .som _ => Z.S
 | .sum _ _ => Z.U
 | .whole _ => Z.W
structure GoC (K : W.Frag) (mg : Str → Option Value) (Z : Gz) (CG : Addr) : Prop where
 ho : CHo K Z.H
 so : CSo K Z.S
 su : CSu K Z.U
 wh : CWh K Z.W
 tH : CTy K Z.H
 tS : CTy K Z.S
 tU : CTy K Z.U
 tW : CTy K Z.W
 gG : mg "Goal" = some (.ref CG)
 gH : mg "Holds" = some (.ref Z.H)
 gS : mg "Some" = some (.ref Z.S)
 gU : mg "Sum" = some (.ref Z.U)
 gW : mg "Whole" = some (.ref Z.W)
 kHS : W.kitOne K (.ref Z.H) (.ref Z.S) = some false
 kHU : W.kitOne K (.ref Z.H) (.ref Z.U) = some false
 kHW : W.kitOne K (.ref Z.H) (.ref Z.W) = some false
 kSH : W.kitOne K (.ref Z.S) (.ref Z.H) = some false
 kSU : W.kitOne K (.ref Z.S) (.ref Z.U) = some false
 kSW : W.kitOne K (.ref Z.S) (.ref Z.W) = some false
 kUH : W.kitOne K (.ref Z.U) (.ref Z.H) = some false
 kUS : W.kitOne K (.ref Z.U) (.ref Z.S) = some false
 kUW : W.kitOne K (.ref Z.U) (.ref Z.W) = some false
 kWH : W.kitOne K (.ref Z.W) (.ref Z.H) = some false
 kWS : W.kitOne K (.ref Z.W) (.ref Z.S) = some false
 kWU : W.kitOne K (.ref Z.W) (.ref Z.U) = some false
 kHG : W.kitOne K (.ref Z.H) (.ref CG) = some true
 kSG : W.kitOne K (.ref Z.S) (.ref CG) = some true
 kUG : W.kitOne K (.ref Z.U) (.ref CG) = some true
 kWG : W.kitOne K (.ref Z.W) (.ref CG) = some true
theorem GoC.ty {K : W.Frag} {mg : Str → Option Value} {Z : Gz} {CG : Addr} (M : GoC K mg Z CG) {H : Hp} {p : Addr} {g : Go} (h : GoAt Z H p g) : TyOf K H (.ref p) (.ref (Z.cl g)) := by
 cases g with
 | holds a b => obtain ⟨dx, h⟩ := h; exact .ins h M.ho.cl M.tH.ha M.tH.hn M.tH.htk M.tH.hm
 | som a => obtain ⟨dx, h⟩ := h; exact .ins h M.so.cl M.tS.ha M.tS.hn M.tS.htk M.tS.hm
 | sum a b => obtain ⟨dx, t, h, _⟩ := h; exact .ins h M.su.cl M.tU.ha M.tU.hn M.tU.htk M.tU.hm
 | whole a => obtain ⟨dx, t, h, _⟩ := h; exact .ins h M.wh.cl M.tW.ha M.tW.hn M.tW.htk M.tW.hm
theorem GoAt.no {Z : Gz} {H : Hp} {p : Addr} {g : Go} (h : GoAt Z H p g) : ∃ dx fs, H p = some (.ins (Z.cl g) dx fs) ∧ fs.lookup ("come" : Str) = none := by
 cases g with
 | holds a b => obtain ⟨dx, h⟩ := h; exact ⟨dx, _, h, hoF_no _ _ (by decide +kernel) (by decide +kernel)⟩
 | som a => obtain ⟨dx, h⟩ := h; exact ⟨dx, _, h, soF_no _ (by decide +kernel)⟩
 | sum a b => obtain ⟨dx, t, h, _⟩ := h; exact ⟨dx, _, h, suF_no _ _ (by decide +kernel) (by decide +kernel)⟩
 | whole a => obtain ⟨dx, t, h, _⟩ := h; exact ⟨dx, _, h, whF_no _ (by decide +kernel)⟩
def anyGo (Z : Gz) : Addr → Prop := fun C => C = Z.H ∨ C = Z.S ∨ C = Z.U ∨ C = Z.W
theorem anyGo.of (Z : Gz) (g : Go) : anyGo Z (Z.cl g) := by
 cases g with
 | holds _ _ => exact .inl rfl
 | som _ => exact .inr (.inl rfl)
 | sum _ _ => exact .inr (.inr (.inl rfl))
 | whole _ => exact .inr (.inr (.inr rfl))
theorem GoC.any {K : W.Frag} {mg : Str → Option Value} {Z : Gz} {CG : Addr} (M : GoC K mg Z CG) (g : Go) : W.kitAny K (.ref (Z.cl g)) [.ref Z.H, .ref Z.S, .ref Z.U, .ref Z.W] = some true := by
 cases g with
 | holds _ _ => simp only [W.kitAny, Gz.cl, kit_self]
 | som _ => simp only [W.kitAny, Gz.cl, M.kSH, kit_self]
 | sum _ _ => simp only [W.kitAny, Gz.cl, M.kUH, M.kUS, kit_self]
 | whole _ => simp only [W.kitAny, Gz.cl, M.kWH, M.kWS, M.kWU, kit_self]
def SameB (d : Addr) (H H' : Hp) : Prop := ∀ b c, H b = some c → b ≠ d → H' b = some c
theorem ne_of_fx {H : Hp} {b d : Addr} {c : HO} {kvs : List (List Key × V)} (e : H b = some c) (hd : H d = some (.dT kvs)) (f : fx c = true) : b ≠ d := by
 rintro rfl
 rw [hd] at e
 cases e
 cases f
section
v5%
variable {CH CG : Addr} {Z : Cz} {G : Gz}
def sp_check_goal (G : Gz) : Sp := fun vs H Q _ => ∃ p g, vs = [.ref p] ∧ GoAt G H p g ∧ ∀ H', Same H H' → Q .non H'
theorem ok_check_goal {f : Addr} {fd : FuncData} (F : Fun K "check_goal" "check_goal" s_check_goal f fd) (B : Bt mg) (M : GoC K mg G CG) : fo% CX0 1 f fd ["goal"] (sp_check_goal G) := by
 gok F.ok sc_check_goal
 · obtain ⟨p, g, rfl, _⟩ := h
   rfl
 · obtain ⟨p, g, rfl, hg, k⟩ := h
   refine ⟨_, s1' (ps_if (pt_not (pt_val (eZ call_isinstT (by rfl) B.isinstance bI (pK (pv 0) (pK (pe_tup (pK (pe_glob (v := .ref G.H) (by rfl) M.gH rfl) (pK (pe_glob (v := .ref G.S) (by rfl) M.gS rfl) (pK (pe_glob (v := .ref G.U) (by rfl) M.gU rfl)
     (pK (pe_glob (v := .ref G.W) (by rfl) M.gW rfl) pN))))) pN))))) sV sN), ?_⟩
   refine ⟨_, rfl, (z% 4), fun tp nt => ?_⟩
   exact ⟨_, tp, _, _, _, _, rfl, uS, .cons (.ref _) (.cons (.ref _) (.cons (.ref _) (.cons (.ref _) .nil))), M.ty (hg.mono (Same.new nt)), M.any g, _, rfl, iteF (k _ (Same.new nt))⟩
end
end Jug
namespace Jug
open PySem L2
theorem bt_sorted : bootBuiltins "sorted" = some (.builtin "sorted") := by decide +kernel
theorem ways_le {sz st : List Int} {tap : Bool} (hz : Hz sz) (hst : J.IsSt sz st) : (J.ways sz (J.moves sz.length tap) st).length ≤ 2000 := by
 have h1 := J.run_le (J.good_moves (tap := tap) hz.nn) hst (J.states sz).length
 have h2 := hz.states_le
 exact Nat.le_trans h1 (by omega)
def wst (sz : List Int) (tap : Bool) (st : List Int) : List (List Int) := (J.ways sz (J.moves sz.length tap) st).map (·.1)
section
variable {X : Cx}
theorem op_isB : OpR X (compareOp .Is) (fun x y H Q => ∃ b c, x = .bl b ∧ y = .bl c ∧ Q (.bl (b == c)) H) := by
 intro pins s σ H x y v u Q I rx ry h
 obtain ⟨b, c, rfl, rfl, q⟩ := h
 cases rx
 cases ry
 exact PyProof.Rows.is_bool (fin_bl I q rfl)
end
section
v5%
variable {CH : Addr} {Z : Cz}
def sp_reached (CH : Addr) : Sp := fun vs H Q _ => ∃ p a sz tap st, vs = [.ref p, .ref a] ∧ House CH H p sz tap ∧ Hz sz ∧ H a = some (.tup (st.map V.int)) ∧ J.IsSt sz st ∧ (wst sz tap st).length < 2 ∧
 ∀ (l : Addr) (H' : Hp) (ys : List V), Same H H' → H l = none → H' l = some (.lst ys) → Paired (isTI H') ys (wst sz tap st) → Q (.ref l) H'
theorem ok_reached {f : Addr} {fd : FuncData} (F : Fun K "reached" "reached" s_reached f fd) (hs : mg "sorted" = none) (WY : fb% 8 "ways_from" ["house", "state"] (sp_ways Z CH)) : fo% CX0 9 f fd ["house", "state"] (sp_reached CH) := by
 gok F.ok sc_reached
 · obtain ⟨p, a, sz, tap, st, rfl, _⟩ := h
   rfl
 · obtain ⟨p, a, sz, tap, st, rfl, hh, hz, ha, hst, h1, k⟩ := h
   refine ⟨_, s1' (sR (eZ (call_sortD1 rfl) (by rfl) hs bt_sorted (pK (eF WY hr (pK (pv 0) (pK (pv 1) pN))) pN))), ?_⟩
   refine ⟨_, rfl, _, rfl, p, a, sz, tap, st, rfl, hh, hz, ha, hst, fun d H2 kvs s2 nd e2 wd => ?_⟩
   have lk := wd.length
   have lw := ways_le (tap := tap) hz hst
   refine .mk d kvs (wst sz tap st) rfl (.inl e2) (by rw [wd.keys]; unfold wst; rw [List.map_map]; rfl) (by unfold wst at h1; rw [List.length_map] at h1; omega) fun l ys nl py => ?_
   have s3 : Same H2 (upd H2 l (.lst ys)) := Same.new nl
   exact k l _ ys (s2.trans s3) (s2.free nl) uS (pt_fix py (Fix.of s3))
end
end Jug
namespace Jug
open PySem L2
def numB : V → Int → Int → Bool
 | .int i, lo, hi => decide (lo ≤ i) && decide (i ≤ hi)
 | _, _, _ => false
inductive Kd (H : Hp) : V → String → Prop where
 | non : Kd H .non "NoneType"
 | bl (b : Bool) : Kd H (.bl b) "bool"
 | int (i : Int) : Kd H (.int i) "int"
 | str (x : Str) : Kd H (.str x) "str"
 | lst {a : Addr} {xs : List V} (e : H a = some (.lst xs)) : Kd H (.ref a) "list"
 | tup {a : Addr} {xs : List V} (e : H a = some (.tup xs)) : Kd H (.ref a) "tuple"
theorem Kd.ty {K : W.Frag} {H : Hp} {v : V} {t : String} (k : Kd H v t) : TyOf K H v (.type t) := by
 cases k with
 | non => exact .non
 | bl b => exact .bl b
 | int i => exact .int i
 | str x => exact .str x
 | lst e => exact .lst e
 | tup e => exact .tup e
theorem Kd.mono {H H' : Hp} {v : V} {t : String} (k : Kd H v t) (s : Same H H') : Kd H' v t := by
 cases k with
 | non => exact .non
 | bl b => exact .bl b
 | int i => exact .int i
 | str x => exact .str x
 | lst e => exact .lst (s _ _ e)
 | tup e => exact .tup (s _ _ e)
def Im (v : V) : Prop := ∃ t, t ≠ "list" ∧ t ≠ "tuple" ∧ ∀ H, Kd H v t
theorem Im.int (i : Int) : Im (.int i) := ⟨"int", by decide, by decide, fun _ => .int i⟩
theorem Im.bl (i : Bool) : Im (.bl i) := ⟨"bool", by decide, by decide, fun _ => .bl i⟩
theorem Im.str (i : Str) : Im (.str i) := ⟨"str", by decide, by decide, fun _ => .str i⟩
theorem Im.non : Im .non := ⟨"NoneType", by decide, by decide, fun _ => .non⟩
section
variable {K : W.Frag}
theorem kit_ni : W.kitOne K (.type "NoneType") (.type "int") = some false := by
 unfold W.kitOne
 rw [if_neg (by decide)]
 with_unfolding_all rfl
theorem kit_si : W.kitOne K (.type "str") (.type "int") = some false := by
 unfold W.kitOne
 rw [if_neg (by decide)]
 with_unfolding_all rfl
theorem kit_li : W.kitOne K (.type "list") (.type "int") = some false := by
 unfold W.kitOne
 rw [if_neg (by decide)]
 with_unfolding_all rfl
theorem kit_ti : W.kitOne K (.type "tuple") (.type "int") = some false := by
 unfold W.kitOne
 rw [if_neg (by decide)]
 with_unfolding_all rfl
theorem kit_bi : W.kitOne K (.type "bool") (.type "int") = some true := by
 unfold W.kitOne
 rw [if_neg (by decide)]
 with_unfolding_all rfl
theorem kit_x {H : Hp} {v : V} {t b : String} (k : Kd H v t) (hb : b = "tuple" ∨ b = "list") (h : t ≠ b) : W.kitOne K (.type t) (.type b) = some false := by
 rcases hb with rfl | rfl <;> cases k <;> first | exact absurd rfl h | (unfold W.kitOne; rw [if_neg (by decide)]; with_unfolding_all rfl)
theorem kit_xb {H : Hp} {v : V} {t : String} (k : Kd H v t) (h : t ≠ "bool") : W.kitOne K (.type t) (.type "bool") = some false := by
 cases k <;> first | exact absurd rfl h | (unfold W.kitOne; rw [if_neg (by decide)]; with_unfolding_all rfl)
end
section
v5%
def sp_is_numG : Sp := fun vs H Q _ => ∃ v t, ∃ lo hi : Int, vs = [v, .int lo, .int hi] ∧ Kd H v t ∧ Q (.bl (numB v lo hi)) H
theorem ok_is_numG {f : Addr} {fd : FuncData} (F : Fun K "is_number" "is_number" s_is_number f fd) (B : Bt mg) : fo% CX0 1 f fd ["value", "least", "most"] sp_is_numG := by
 gok F.ok sc_is_number
 · obtain ⟨v, t, lo, hi, rfl, _⟩ := h
   rfl
 · obtain ⟨v, t, lo, hi, rfl, kd, k⟩ := h
   refine ⟨_, s1' (sR (pe_and (eZ call_isinst (by rfl) B.isinstance bI (pK (pv 0) (pK (pe_bltn (v := .ty "int") (by rfl) B.int bt_int rfl) pN)))
     (pe_and (pe_not (eZ call_isinst (by rfl) B.isinstance bI (pK (pv 0) (pK (pe_bltn (v := .ty "bool") (by rfl) B.bool bt_bool rfl) pN))))
     (pe_one (pe_chain op_le op_le (pv 1) (pv 0) (pv 2)))))), ?_⟩
   have kt := kd.ty (K := K)
   cases kd with
   | non => exact ⟨_, rfl, _, _, _, _, _, rfl, .ty "int", kt, kit_ni, _, rfl, iteF k⟩
   | str x => exact ⟨_, rfl, _, _, _, _, _, rfl, .ty "int", kt, kit_si, _, rfl, iteF k⟩
   | lst e => exact ⟨_, rfl, _, _, _, _, _, rfl, .ty "int", kt, kit_li, _, rfl, iteF k⟩
   | tup e => exact ⟨_, rfl, _, _, _, _, _, rfl, .ty "int", kt, kit_ti, _, rfl, iteF k⟩
   | bl b =>
     refine ⟨_, rfl, _, _, _, _, _, rfl, .ty "int", kt, kit_bi, _, rfl, iteT ?_⟩
     exact ⟨_, rfl, _, _, _, _, _, rfl, .ty "bool", kt, kit_bb, _, rfl, _, rfl, iteF k⟩
   | int i =>
     refine ⟨_, rfl, _, _, _, _, _, rfl, .ty "int", kt, kit_ii, _, rfl, iteT ?_⟩
     refine ⟨_, rfl, _, _, _, _, _, rfl, .ty "bool", kt, kit_ib, _, rfl, _, rfl, iteT ?_⟩
     refine ⟨_, rfl, _, rfl, _, _, rfl, rfl, _, rfl, ?_⟩
     have k : Q (.bl (decide (lo ≤ i) && decide (i ≤ hi))) H := k
     by_cases h1 : lo ≤ i
     · rw [decide_eq_true h1]
       refine iteT ⟨_, rfl, _, _, rfl, rfl, ?_⟩
       rw [decide_eq_true h1, Bool.true_and] at k
       exact k
     · rw [decide_eq_false h1]
       refine iteF ?_
       rw [decide_eq_false h1, Bool.false_and] at k
       exact k
def sp_is_jugG : Sp := fun vs H Q _ => ∃ v t, vs = [v] ∧ Kd H v t ∧ Q (.bl (numB v 0 3)) H
theorem ok_is_jugG {f : Addr} {fd : FuncData} (F : Fun K "is_jug" "is_jug" s_is_jug f fd) (B : Bt mg) (N : fb% 1 "is_number" ["value", "least", "most"] sp_is_numG) : fo% CX0 2 f fd ["value"] sp_is_jugG := by
 obtain ⟨t4, e4⟩ := B.jugs
 gok F.ok sc_is_jug
 · obtain ⟨v, t, rfl, _⟩ := h
   rfl
 · obtain ⟨v, t, rfl, kd, k⟩ := h
   refine ⟨_, s1' (sR (eF N hr (pK (pv 0) (pK eI (pK (pe_op op_sub (pe_glob (v := .int 4) (by rfl) e4 ⟨_, rfl⟩) eI) pN))))), ?_⟩
   exact ⟨_, rfl, _, _, rfl, rfl, v, t, 0, 3, rfl, kd, k⟩
theorem FnOk.or {CX : CXT} {k : Nat} {f : Addr} {fd : FuncData} {ps : List Str} {s1 s2 : Sp} (F1 : fo% CX k f fd ps s1) (F2 : fo% CX k f fd ps s2) : fo% CX k f fd ps (fun vs H Q E => s1 vs H Q E ∨ s2 vs H Q E) :=
 ⟨fun vs H Q E h => h.elim (F1.len vs H Q E) (F2.len vs H Q E), fun A outer s H args us vs Q E hr e hb hv h => h.elim (F1.run A outer s H args us vs Q E hr e hb hv) (F2.run A outer s H args us vs Q E hr e hb hv)⟩
def sp_refuse (C : Addr) (lo hi : Int) : Sp := fun vs H _ E => ∃ v t, vs = [v] ∧ Kd H v t ∧ numB v lo hi = false ∧ E (.ref C) none H
theorem ok_check_jugX {f : Addr} {fd : FuncData} {CB : Addr} (F : Fun K "check_jug" "check_jug" s_check_jug f fd) (X : XC K mg "BadMove" CB) (N : fb% 2 "is_jug" ["value"] sp_is_jugG) : fo% (CX1 P w) 3 f fd ["jug"] (sp_refuse CB 0 3) := by
 gok F.okX sc_check_jug
 · obtain ⟨v, t, rfl, _⟩ := h
   rfl
 · obtain ⟨v, t, rfl, kd, hn, k⟩ := h
   refine ⟨_, s1' (ps_if (pt_not (pt_val (eF N hr (pK (pv 0) pN)))) (s1' (ps_raise bdX xeX rfl X)) sN), ?_⟩
   refine ⟨_, rfl, v, t, rfl, kd, _, rfl, ?_⟩
   rw [hn]
   exact iteT k
theorem ok_check_jug_gX {f : Addr} {fd : FuncData} {CB : Addr} (F : Fun K "check_jug" "check_jug" s_check_jug' f fd) (X : XC K mg "BadGoal" CB) (N : fb% 2 "is_jug" ["value"] sp_is_jugG) : fo% (CX1 P w) 3 f fd ["jug"] (sp_refuse CB 0 3) := by
 gok F.okX sc_check_jug'
 · obtain ⟨v, t, rfl, _⟩ := h
   rfl
 · obtain ⟨v, t, rfl, kd, hn, k⟩ := h
   refine ⟨_, s1' (ps_if (pt_not (pt_val (eF N hr (pK (pv 0) pN)))) (s1' (ps_raise bdX xeX rfl X)) sN), ?_⟩
   refine ⟨_, rfl, v, t, rfl, kd, _, rfl, ?_⟩
   rw [hn]
   exact iteT k
theorem ok_check_amountX {f : Addr} {fd : FuncData} {CB : Addr} (F : Fun K "check_amount" "check_amount" s_check_amount f fd) (hA : ∃ t, mg "MOST_AMOUNT" = some (.int 240 t)) (X : XC K mg "BadGoal" CB) (N : fb% 1 "is_number" ["value", "least", "most"] sp_is_numG) : fo% (CX1 P w) 2 f fd ["many"] (sp_refuse CB 0 240) := by
 obtain ⟨ta, eA⟩ := hA
 gok F.okX sc_check_amount
 · obtain ⟨v, t, rfl, _⟩ := h
   rfl
 · obtain ⟨v, t, rfl, kd, hn, k⟩ := h
   refine ⟨_, s1' (ps_if (pt_not (pt_val (eF N hr (pK (pv 0) (pK eI (pK (pe_glob (v := .int 240) (by rfl) eA ⟨_, rfl⟩) pN)))))) (s1' (ps_raise bdX xeX rfl X)) sN), ?_⟩
   refine ⟨_, rfl, v, t, 0, 240, rfl, kd, _, rfl, ?_⟩
   rw [hn]
   exact iteT k
end
end Jug
namespace Jug
open PySem L2
theorem iteYS {c A B : Prop} [Decidable c] (hc : ¬ c) (h : A) : if (!decide c) = true then A else B := by
 rw [decide_eq_false hc]; exact iteT h
def okSt : List V → List Int → Bool
 | [], [] => true
 | x :: xs, z :: zs => numB x 0 z && okSt xs zs
 | _, _ => false
theorem okSt_of : ∀ (xs : List V) (sz : List Int), xs.length = sz.length → (∀ (i : Nat) x z, xs[i]? = some x → sz[i]? = some z → numB x 0 z = true) → okSt xs sz = true
 | [], [], _, _ => rfl
 | [], _ :: _, h, _ => by cases h
 | _ :: _, [], h, _ => by cases h
 | x :: xs, z :: zs, h, k => by
   show (numB x 0 z && okSt xs zs) = true
   rw [k 0 x z rfl rfl, okSt_of xs zs (by simpa using h) fun i a b e1 e2 => k (i + 1) a b e1 e2]; rfl
def BadSt (H : Hp) (sz : List Int) (v : V) : Prop := (∃ t, Kd H v t ∧ t ≠ "tuple") ∨ ∃ a xs, v = .ref a ∧ H a = some (.tup xs) ∧ (∀ x ∈ xs, Im x) ∧ okSt xs sz = false
theorem BadSt.mono {H H' : Hp} {sz : List Int} {v : V} (h : BadSt H sz v) (s : Same H H') : BadSt H' sz v := by
 rcases h with ⟨t, k, n⟩ | ⟨a, xs, e, ha, r⟩
 · exact .inl ⟨t, k.mono s, n⟩
 · exact .inr ⟨a, xs, e, s _ _ ha, r⟩
section
v5%
variable {CH CS CB : Addr} {Z : Cz}
def sp_held_inX (CH CS : Addr) : Sp := fun vs H _ E => ∃ p sz tap v, vs = [.ref p, v] ∧ House CH H p sz tap ∧ BadSt H sz v ∧ ∀ H', Same H H' → E (.ref CS) none H'
theorem ok_held_inX {f : Addr} {fd : FuncData} (F : Fun K "held_in" "held_in" s_held_in f fd) (B : Bt mg) (X : XC K mg "BadState" CS) (N : fb% 1 "is_number" ["value", "least", "most"] sp_is_numG)
   (S : me% 1 CH "sizes" ["self"] (sp_sizes CH)) : fo% (CX1 P w) 2 f fd ["house", "state"] (sp_held_inX CH CS) := by
 gok F.okX sc_held_in
 · obtain ⟨p, sz, tap, v, rfl, _⟩ := h
   rfl
 · obtain ⟨p, sz, tap, v, rfl, hh, hb, k⟩ := h
   refine ⟨_, sK (ps_if (pt_not (pt_val (eZ call_isinst (by rfl) B.isinstance bI (pK (pv 1) (pK (pe_bltn (v := .ty "tuple") (by rfl) B.tuple bt_tuple rfl) pN))))) (s1' (ps_raise bdX xeX rfl X)) sN)
     (sK (sS (i := 2) sc_held_in.nd rfl (Or.inl rfl) (eT cL (by rfl) B.list bt_list (pK (pv 1) pN)))
     (sK (sS (i := 3) sc_held_in.nd rfl (Or.inl rfl) (pe_me0 S (pv 0) hr))
     (sK (ps_if (pt_cmpR op_ne (eZ call_len_seq (by rfl) B.len PySem.boot_len (pK (pv 2) pN)) (eZ call_len_seq (by rfl) B.len PySem.boot_len (pK (pv 3) pN)) (nomark _)) (s1' (ps_raise bdX xeX rfl X)) sN)
     (sK (ps_for ownX rfl (pi_zip (by rfl) B.zip (pK (pv 2) (pK (pv 3) pN)))
       (pg_tup rfl (pgs_cons (pg_name (i := 4) sc_held_in.nd rfl (Or.inl rfl)) (pgs_cons (pg_name (i := 5) sc_held_in.nd rfl (Or.inl rfl)) pgs_nil)))
       (s1' (ps_if (pt_not (pt_val (eF N hr (pK (pv 4) (pK eI (pK (pv 5) pN)))))) (s1' (ps_raise bdX xeX rfl X)) sN)))
     (s1' (sR (pv 2))))))), ?_⟩
   rcases hb with ⟨t, kd, nt⟩ | ⟨a, xs, rfl, ha, him, hbad⟩
   · exact ⟨_, rfl, _, _, _, _, _, rfl, .ty "tuple", kd.ty, kit_x kd (.inl rfl) nt, _, rfl, iteT (k H (Same.refl _))⟩
   refine ⟨_, rfl, _, _, _, _, _, rfl, .ty "tuple", .tup ha, kit_tt, _, rfl, iteF ?_⟩
   refine ⟨_, rfl, a, _, rfl, .inr (SqT.of ha), fun l hl => ?_⟩
   have s1 : Same H (upd H l (.lst xs)) := Same.new hl
   obtain ⟨dx, t, hp, ht⟩ := id hh
   refine ⟨_, rfl, p, dx, _, rfl, s1 _ _ hp, hF_no _ _ (by decide +kernel) (by decide +kernel), p, sz, tap, rfl, hh.mono s1, fun m hm => ?_⟩
   have s2 : Same (upd H l (.lst xs)) (upd (upd H l (.lst xs)) m (.lst (sz.map V.int))) := Same.new hm
   have e1 := s2 _ _ (uS (H := H))
   refine ⟨_, rfl, l, _, rfl, .inl (SqL.of e1), _, rfl, m, _, rfl, .inl (SqL.of uS), rfl, _, rfl, ?_⟩
   by_cases hlen : xs.length = sz.length
   · have hlen' : xs.length = (sz.map V.int).length := by simp [hlen]
     refine iteNS (by rw [hlen']) ?_
     refine ⟨_, rfl, _, rfl, l, m, _, _, rfl, SqL.of e1, SqL.of uS, for_zip (xs := xs) (ys := sz.map V.int) hlen'
       (fun i σ H' => ∃ v4 v5, σ = [some (.ref p), some (.ref a), some (.ref l), some (.ref m), v4, v5] ∧ Same (upd (upd H l (.lst xs)) m (.lst (sz.map V.int))) H' ∧ ∀ j x z, j < i → xs[j]? = some x → sz[j]? = some z → numB x 0 z = true)
       ⟨none, none, rfl, Same.refl _, fun j x z h => absurd h (Nat.not_lt_zero _)⟩ (fun i σ H' _ ⟨_, _, _, s3, _⟩ => ⟨SqL.of (s3 _ _ e1), SqL.of (s3 _ _ uS)⟩) ?_ ?_⟩
     · rintro i x y T σ H' hx hy hT ⟨v4, v5, rfl, s3, ih⟩
       obtain ⟨zy, ey, rfl⟩ := mem_ints hy
       obtain ⟨tx, _, _, kx⟩ := him x (List.mem_of_getElem? hx)
       refine ⟨T, _, rfl, SqT.of uS, rfl, _, _, rfl, _, _, rfl, rfl, ?_⟩
       refine ⟨_, rfl, _, rfl, x, tx, 0, zy, rfl, kx _, _, rfl, ?_⟩
       cases hn : numB x 0 zy with
       | false => exact iteT (k _ ((s1.trans (s2.trans s3)).lay hT))
       | true =>
         refine iteF ⟨_, _, rfl, s3.lay hT, fun j x' z' hj e1 e2 => ?_⟩
         rcases Nat.lt_succ_iff_lt_or_eq.mp hj with hj | rfl
         · exact ih j x' z' hj e1 e2
         · rw [hx] at e1; rw [ey] at e2; cases e1; cases e2; exact hn
     · rintro σ H' ⟨v4, v5, rfl, s3, ih⟩
       rw [okSt_of xs sz hlen fun i x z e1 e2 => ih i x z (List.getElem?_eq_some_iff.mp e1).1 e1 e2] at hbad
       cases hbad
   · refine iteYS (fun e => hlen ?_) (k _ (s1.trans s2))
     have e : (xs.length : Int) = (sz.length : Int) := by simpa using e
     omega
def sp_house_hasX (CH CB : Addr) : Sp := fun vs H _ E => ∃ p sz tap, ∃ (j : Nat), vs = [.ref p, .int j] ∧ House CH H p sz tap ∧ sz.length ≤ j ∧ ∀ H', Same H H' → E (.ref CB) none H'
theorem ok_check_house_hasX {f : Addr} {fd : FuncData} (F : Fun K "check_house_has" "check_house_has" s_check_house_has f fd) (B : Bt mg) (X : XC K mg "BadMove" CB) (S : me% 1 CH "sizes" ["self"] (sp_sizes CH)) :
   fo% (CX1 P w) 2 f fd ["house", "jug"] (sp_house_hasX CH CB) := by
 gok F.okX sc_check_house_has
 · obtain ⟨p, sz, tap, j, rfl, _⟩ := h
   rfl
 · obtain ⟨p, sz, tap, j, rfl, hh, hj, k⟩ := h
   obtain ⟨dx, t, hp, ht⟩ := id hh
   refine ⟨_, s1' (ps_if (pt_cmpR op_ge (pv 1) (eZ call_len_seq (by rfl) B.len PySem.boot_len (pK (pe_me0 S (pv 0) hr) pN)) (nomark _)) (s1' (ps_raise bdX xeX rfl X)) sN), ?_⟩
   refine ⟨_, rfl, _, rfl, p, dx, _, rfl, hp, hF_no _ _ (by decide +kernel) (by decide +kernel), p, sz, tap, rfl, hh, fun m hm => ?_⟩
   refine ⟨m, _, rfl, .inl (SqL.of uS), _, _, rfl, rfl, _, rfl, ?_⟩
   rw [decide_eq_true (by simp; omega)]
   exact iteT (k _ (Same.new hm))
theorem ok_check_house_has_gX {f : Addr} {fd : FuncData} (F : Fun K "check_house_has" "check_house_has" s_check_house_has' f fd) (B : Bt mg) (X : XC K mg "BadGoal" CB) (S : me% 1 CH "sizes" ["self"] (sp_sizes CH)) :
   fo% (CX1 P w) 2 f fd ["house", "jug"] (sp_house_hasX CH CB) := by
 gok F.okX sc_check_house_has'
 · obtain ⟨p, sz, tap, j, rfl, _⟩ := h
   rfl
 · obtain ⟨p, sz, tap, j, rfl, hh, hj, k⟩ := h
   obtain ⟨dx, t, hp, ht⟩ := id hh
   refine ⟨_, s1' (ps_if (pt_cmpR op_ge (pv 1) (eZ call_len_seq (by rfl) B.len PySem.boot_len (pK (pe_me0 S (pv 0) hr) pN)) (nomark _)) (s1' (ps_raise bdX xeX rfl X)) sN), ?_⟩
   refine ⟨_, rfl, _, rfl, p, dx, _, rfl, hp, hF_no _ _ (by decide +kernel) (by decide +kernel), p, sz, tap, rfl, hh, fun m hm => ?_⟩
   refine ⟨m, _, rfl, .inl (SqL.of uS), _, _, rfl, rfl, _, rfl, ?_⟩
   rw [decide_eq_true (by simp; omega)]
   exact iteT (k _ (Same.new hm))
def sp_can_tapX (CH CB : Addr) : Sp := fun vs H _ E => ∃ p sz tap, ∃ (j : Nat), vs = [.ref p, .int j] ∧ House CH H p sz tap ∧ (sz.length ≤ j ∨ tap = false) ∧ ∀ o H', Same H H' → E (.ref CB) o H'
theorem ok_can_tapX {f : Addr} {fd : FuncData} (F : Fun K "check_house_can_tap" "check_house_can_tap" s_check_house_can_tap f fd) (C : CHs K CH) (X : XC K mg "BadMove" CB) (N : fb% 2 "check_house_has_moves" ["house", "jug"] (sp_check_house_has CH))
   (NX : fx% 2 "check_house_has_moves" ["house", "jug"] (sp_house_hasX CH CB)) : fo% (CX1 P w) 3 f fd ["house", "jug"] (sp_can_tapX CH CB) := by
 gok F.okX sc_check_house_can_tap
 · obtain ⟨p, sz, tap, j, rfl, _⟩ := h
   rfl
 · obtain ⟨p, sz, tap, j, rfl, hh, hj, k⟩ := h
   by_cases hl : sz.length ≤ j
   · refine ⟨_, sK (ps_expr (pe_fnX bdX xeX NX hr (pK (pv 0) (pK (pv 1) pN)))) (s1' (ps_if (pt_not (pt_val (pe_fld (pv 0) rfl))) sV sN)), ?_⟩
     exact ⟨_, rfl, _, rfl, p, sz, tap, j, rfl, hh, hl, fun H' s' => k _ H' s'⟩
   · rcases hj with hj | rfl
     · exact absurd hj hl
     refine ⟨_, sK (ps_expr (eF N hr (pK (pv 0) (pK (pv 1) pN)))) (s1' (ps_if (pt_not (pt_val (pe_fld (pv 0) rfl))) (s1' (ps_raise bdX xeX rfl X)) sN)), ?_⟩
     refine ⟨_, rfl, _, rfl, p, sz, false, j, rfl, hh, by omega, fun H1 s1 => ?_⟩
     obtain ⟨dx, t, hp, ht⟩ := hh.mono s1
     exact ⟨_, rfl, p, CH, dx, _, _, rfl, hp, C.cl, C.tap, hF_tap _ _, _, rfl, iteT (k _ _ s1)⟩
end
end Jug
namespace Jug
open PySem L2
def unfit (n : Nat) (tap : Bool) : J.Mv → Prop
 | .pour a b => n ≤ a ∨ n ≤ b
 | .fill a => n ≤ a ∨ tap = false
 | .emp a => n ≤ a ∨ tap = false
section
v5%
variable {CH CS CB : Addr} {Z : Cz}
def sp_Pour_initX (CB : Addr) : Sp := fun vs H _ E => ∃ p v u tv tu, vs = [.ref p, v, u] ∧ Kd H v tv ∧ Kd H u tu ∧ (numB v 0 3 = false ∨ ∃ a : Nat, v = .int a ∧ a ≤ 3 ∧ (numB u 0 3 = false ∨ u = .int a)) ∧ ∀ o H', Same H H' → E (.ref CB) o H'
theorem ok_Pour_initX {f : Addr} {fd : FuncData} (F : Fun K "__init__" "Pour.__init__" s_Pour_init f fd) (X : XC K mg "BadMove" CB) (N : fb% 3 "check_jug_moves" ["jug"] sp_check_jug) (NX : fx% 3 "check_jug_moves" ["jug"] (sp_refuse CB 0 3)) :
   fo% (CX1 P w) 4 f fd ["self", "one", "other"] (sp_Pour_initX CB) := by
 gok F.okX sc_Pour_init
 · obtain ⟨p, v, u, tv, tu, rfl, _⟩ := h
   rfl
 · obtain ⟨p, v, u, tv, tu, rfl, kv, ku, hb, k⟩ := h
   rcases hb with hb | ⟨a, rfl, ha, hb | rfl⟩
   · refine ⟨_, sK (ps_expr (pe_fnX bdX xeX NX hr (pK (pv 1) pN))) sV, ?_⟩
     exact ⟨_, rfl, v, tv, rfl, kv, hb, k _ H (Same.refl _)⟩
   · refine ⟨_, sK (ps_expr (eF N hr (pK (pv 1) pN))) (sK (ps_expr (pe_fnX bdX xeX NX hr (pK (pv 2) pN))) sV), ?_⟩
     exact ⟨_, rfl, a, rfl, ha, _, rfl, u, tu, rfl, ku, hb, k _ H (Same.refl _)⟩
   · refine ⟨_, sK (ps_expr (eF N hr (pK (pv 1) pN))) (sK (ps_expr (eF N hr (pK (pv 2) pN)))
       (sK (ps_if (pt_cmpR op_eq (pv 1) (pv 2) (nomark _)) (s1' (ps_raise bdX xeX rfl X)) sN) sV)), ?_⟩
     refine ⟨_, rfl, a, rfl, ha, _, rfl, a, rfl, ha, _, rfl, _, rfl, rfl, _, rfl, ?_⟩
     rw [decide_eq_true (by simp)]
     exact iteT (k _ H (Same.refl _))
def sp_jug_initX (CB : Addr) : Sp := fun vs H _ E => ∃ p v tv, vs = [.ref p, v] ∧ Kd H v tv ∧ numB v 0 3 = false ∧ ∀ o H', Same H H' → E (.ref CB) o H'
theorem ok_Fill_initX {f : Addr} {fd : FuncData} (F : Fun K "__init__" "Fill.__init__" s_Fill_init f fd) (NX : fx% 3 "check_jug_moves" ["jug"] (sp_refuse CB 0 3)) : fo% (CX1 P w) 4 f fd ["self", "jug"] (sp_jug_initX CB) := by
 gok F.okX sc_Fill_init
 · obtain ⟨p, v, tv, rfl, _⟩ := h
   rfl
 · obtain ⟨p, v, tv, rfl, kv, hb, k⟩ := h
   exact ⟨_, sK (ps_expr (pe_fnX bdX xeX NX hr (pK (pv 1) pN))) sV, _, rfl, v, tv, rfl, kv, hb, k _ H (Same.refl _)⟩
theorem ok_Empty_initX {f : Addr} {fd : FuncData} (F : Fun K "__init__" "Empty.__init__" s_Empty_init f fd) (NX : fx% 3 "check_jug_moves" ["jug"] (sp_refuse CB 0 3)) : fo% (CX1 P w) 4 f fd ["self", "jug"] (sp_jug_initX CB) := by
 gok F.okX sc_Empty_init
 · obtain ⟨p, v, tv, rfl, _⟩ := h
   rfl
 · obtain ⟨p, v, tv, rfl, kv, hb, k⟩ := h
   exact ⟨_, sK (ps_expr (pe_fnX bdX xeX NX hr (pK (pv 1) pN))) sV, _, rfl, v, tv, rfl, kv, hb, k _ H (Same.refl _)⟩
def sp_hbX (Z : Cz) (CH CB : Addr) (ok : J.Mv → Prop) : Sp := fun vs H _ E => ∃ p h l sz tap m, vs = [.ref p, .ref h, .ref l] ∧ ok m ∧ MvAt Z H p m ∧ House CH H h sz tap ∧ unfit sz.length tap m ∧ ∀ o H', Same H H' → E (.ref CB) o H'
theorem ok_Pour_hbX {f : Addr} {fd : FuncData} (F : Fun K "held_behind" "Pour.held_behind" s_Pour_held_behind f fd) (C : CPo K Z.P) (N : fb% 2 "check_house_has_moves" ["house", "jug"] (sp_check_house_has CH))
   (NX : fx% 2 "check_house_has_moves" ["house", "jug"] (sp_house_hasX CH CB)) : fo% (CX1 P w) 3 f fd ["self", "house", "held"] (sp_hbX Z CH CB isPour) := by
 gok F.okX sc_Pour_held_behind
 · obtain ⟨p, h', l, sz, tap, m, rfl, _⟩ := h
   rfl
 · obtain ⟨p, q, l, sz, tap, m, rfl, hm, hmv, hh, hu, k⟩ := h
   cases m with
   | fill a => exact hm.elim
   | emp a => exact hm.elim
   | pour a b =>
     obtain ⟨dp, hp⟩ := hmv
     have hp : H p = some (.ins Z.P dp (pF a b)) := hp
     by_cases ha : sz.length ≤ a
     · refine ⟨_, sK (ps_expr (pe_fnX bdX xeX NX hr (pK (pv 1) (pK (pe_fld (pv 0) rfl) pN)))) sV, ?_⟩
       exact ⟨_, rfl, _, rfl, p, Z.P, dp, _, _, rfl, hp, C.cl, C.one, pF_one _ _, q, sz, tap, a, rfl, hh, ha, fun H1 s1 => k _ H1 s1⟩
     · have hb : sz.length ≤ b := hu.resolve_left ha
       refine ⟨_, sK (ps_expr (eF N hr (pK (pv 1) (pK (pe_fld (pv 0) rfl) pN)))) (sK (ps_expr (pe_fnX bdX xeX NX hr (pK (pv 1) (pK (pe_fld (pv 0) rfl) pN)))) sV), ?_⟩
       refine ⟨_, rfl, _, rfl, p, Z.P, dp, _, _, rfl, hp, C.cl, C.one, pF_one _ _, q, sz, tap, a, rfl, hh, by omega, fun H1 s1 => ?_⟩
       exact ⟨_, rfl, _, rfl, p, Z.P, dp, _, _, rfl, s1 _ _ hp, C.cl, C.other, pF_other _ _, q, sz, tap, b, rfl, hh.mono s1, hb, fun H2 s2 => k _ H2 (s1.trans s2)⟩
theorem ok_Fill_hbX {f : Addr} {fd : FuncData} (F : Fun K "held_behind" "Fill.held_behind" s_Fill_held_behind f fd) (C : CJu K Z.F) (NX : fx% 3 "check_house_can_tap" ["house", "jug"] (sp_can_tapX CH CB)) :
   fo% (CX1 P w) 4 f fd ["self", "house", "held"] (sp_hbX Z CH CB isFill) := by
 gok F.okX sc_Fill_held_behind
 · obtain ⟨p, h', l, sz, tap, m, rfl, _⟩ := h
   rfl
 · obtain ⟨p, q, l, sz, tap, m, rfl, hm, hmv, hh, hu, k⟩ := h
   cases m with
   | pour a b => exact hm.elim
   | emp a => exact hm.elim
   | fill a =>
     obtain ⟨dp, hp⟩ := hmv
     have hp : H p = some (.ins Z.F dp (jF a)) := hp
     refine ⟨_, sK (ps_expr (pe_fnX bdX xeX NX hr (pK (pv 1) (pK (pe_fld (pv 0) rfl) pN)))) sV, ?_⟩
     exact ⟨_, rfl, _, rfl, p, Z.F, dp, _, _, rfl, hp, C.cl, C.jug, jF_jug _, q, sz, tap, a, rfl, hh, hu, k⟩
theorem ok_Empty_hbX {f : Addr} {fd : FuncData} (F : Fun K "held_behind" "Empty.held_behind" s_Empty_held_behind f fd) (C : CJu K Z.E) (NX : fx% 3 "check_house_can_tap" ["house", "jug"] (sp_can_tapX CH CB)) :
   fo% (CX1 P w) 4 f fd ["self", "house", "held"] (sp_hbX Z CH CB isEmp) := by
 gok F.okX sc_Empty_held_behind
 · obtain ⟨p, h', l, sz, tap, m, rfl, _⟩ := h
   rfl
 · obtain ⟨p, q, l, sz, tap, m, rfl, hm, hmv, hh, hu, k⟩ := h
   cases m with
   | pour a b => exact hm.elim
   | fill a => exact hm.elim
   | emp a =>
     obtain ⟨dp, hp⟩ := hmv
     have hp : H p = some (.ins Z.E dp (jF a)) := hp
     refine ⟨_, sK (ps_expr (pe_fnX bdX xeX NX hr (pK (pv 1) (pK (pe_fld (pv 0) rfl) pN)))) sV, ?_⟩
     exact ⟨_, rfl, _, rfl, p, Z.E, dp, _, _, rfl, hp, C.cl, C.jug, jF_jug _, q, sz, tap, a, rfl, hh, hu, k⟩
def sp_doneX (Z : Cz) (CH CS CB : Addr) : Sp := fun vs H _ E => ∃ p h v sz tap m, vs = [.ref p, .ref h, v] ∧ MvAt Z H p m ∧ House CH H h sz tap ∧
 ((BadSt H sz v ∧ ∀ o H', Same H H' → E (.ref CS) o H') ∨ (∃ a st, v = .ref a ∧ H a = some (.tup (st.map V.int)) ∧ J.IsSt sz st ∧ unfit sz.length tap m ∧ ∀ o H', Same H H' → E (.ref CB) o H'))
theorem ok_doneX {f : Addr} {fd : FuncData} (F : Fun K "done" "Move.done" s_Move_done f fd) (B : Bt mg) (N : fb% 2 "held_in" ["house", "state"] (sp_held_in CH)) (NX : fx% 2 "held_in" ["house", "state"] (sp_held_inX CH CS))
   (HP : mx% 4 Z.P "held_behind" ["self", "house", "held"] (sp_hbX Z CH CB isPour)) (HF : mx% 4 Z.F "held_behind" ["self", "house", "held"] (sp_hbX Z CH CB isFill)) (HE : mx% 4 Z.E "held_behind" ["self", "house", "held"] (sp_hbX Z CH CB isEmp)) :
   fo% (CX1 P w) 5 f fd ["self", "house", "state"] (sp_doneX Z CH CS CB) := by
 gok F.okX sc_Move_done
 · obtain ⟨p, h', v, sz, tap, m, rfl, _⟩ := h
   rfl
 · obtain ⟨p, q, v, sz, tap, m, rfl, hmv, hh, hb⟩ := h
   have hr2 : Room 2 _ := hr.mono (by decide)
   rcases hb with ⟨hb, k⟩ | ⟨a, st, rfl, ha, hst, hu, k⟩
   · refine ⟨_, sK (sS (i := 3) sc_Move_done.nd rfl (Or.inl rfl) (pe_fnX bdX xeX NX hr2 (pK (pv 1) (pK (pv 2) pN)))) sV, ?_⟩
     exact ⟨_, rfl, _, rfl, q, sz, tap, v, rfl, hh, hb, fun H' s' => k _ H' s'⟩
   obtain ⟨dp, hp⟩ := id hmv
   cases m with
   | pour x y =>
     refine ⟨_, sK (sS (i := 3) sc_Move_done.nd rfl (Or.inl rfl) (eF N hr2 (pK (pv 1) (pK (pv 2) pN))))
       (s1' (sR (eT cT (by rfl) B.tuple bt_tuple (pK (pe_meX bdX xeX HP (pv 0) hr (pK (pv 1) (pK (pv 3) pN))) pN)))), ?_⟩
     refine ⟨_, rfl, _, rfl, q, sz, tap, a, st, rfl, hh, ha, hst, fun l H1 s1 nl hl => ?_⟩
     exact ⟨_, rfl, p, dp, _, rfl, s1 _ _ hp, pF_no _ _ (by decide +kernel) (by decide +kernel), _, rfl, _, rfl, p, q, l, sz, tap, .pour x y, rfl, trivial, hmv.mono s1, hh.mono s1, hu, fun o H' s' => k o H' (s1.trans s')⟩
   | fill x =>
     refine ⟨_, sK (sS (i := 3) sc_Move_done.nd rfl (Or.inl rfl) (eF N hr2 (pK (pv 1) (pK (pv 2) pN))))
       (s1' (sR (eT cT (by rfl) B.tuple bt_tuple (pK (pe_meX bdX xeX HF (pv 0) hr (pK (pv 1) (pK (pv 3) pN))) pN)))), ?_⟩
     refine ⟨_, rfl, _, rfl, q, sz, tap, a, st, rfl, hh, ha, hst, fun l H1 s1 nl hl => ?_⟩
     exact ⟨_, rfl, p, dp, _, rfl, s1 _ _ hp, jF_no _ (by decide +kernel), _, rfl, _, rfl, p, q, l, sz, tap, .fill x, rfl, trivial, hmv.mono s1, hh.mono s1, hu, fun o H' s' => k o H' (s1.trans s')⟩
   | emp x =>
     refine ⟨_, sK (sS (i := 3) sc_Move_done.nd rfl (Or.inl rfl) (eF N hr2 (pK (pv 1) (pK (pv 2) pN))))
       (s1' (sR (eT cT (by rfl) B.tuple bt_tuple (pK (pe_meX bdX xeX HE (pv 0) hr (pK (pv 1) (pK (pv 3) pN))) pN)))), ?_⟩
     refine ⟨_, rfl, _, rfl, q, sz, tap, a, st, rfl, hh, ha, hst, fun l H1 s1 nl hl => ?_⟩
     exact ⟨_, rfl, p, dp, _, rfl, s1 _ _ hp, jF_no _ (by decide +kernel), _, rfl, _, rfl, p, q, l, sz, tap, .emp x, rfl, trivial, hmv.mono s1, hh.mono s1, hu, fun o H' s' => k o H' (s1.trans s')⟩
end
end Jug
namespace Jug
open PySem L2
theorem pe_never {X : Cx} {e : Expr} : PE X e (fun _ _ _ => False) := fun _ _ _ _ _ _ h => h.elim
structure NoMv (K : W.Frag) (Z : Cz) : Prop where
 n1 : W.kitAny K (.type "NoneType") [.ref Z.P, .ref Z.F, .ref Z.E] = some false
 n2 : W.kitAny K (.type "bool") [.ref Z.P, .ref Z.F, .ref Z.E] = some false
 n3 : W.kitAny K (.type "int") [.ref Z.P, .ref Z.F, .ref Z.E] = some false
 n4 : W.kitAny K (.type "str") [.ref Z.P, .ref Z.F, .ref Z.E] = some false
 n5 : W.kitAny K (.type "list") [.ref Z.P, .ref Z.F, .ref Z.E] = some false
 n6 : W.kitAny K (.type "tuple") [.ref Z.P, .ref Z.F, .ref Z.E] = some false
theorem NoMv.of {K : W.Frag} {Z : Cz} (N : NoMv K Z) {H : Hp} {v : V} {t : String} (k : Kd H v t) : W.kitAny K (.type t) [.ref Z.P, .ref Z.F, .ref Z.E] = some false := by
 cases k with
 | non => exact N.n1
 | bl b => exact N.n2
 | int i => exact N.n3
 | str x => exact N.n4
 | lst e => exact N.n5
 | tup e => exact N.n6
def BadMvs (Z : Cz) (H : Hp) (v : V) : Prop := (∃ t, Kd H v t ∧ t ≠ "list") ∨ ∃ l xs, v = .ref l ∧ H l = some (.lst xs) ∧ (∀ x ∈ xs, (∃ t, Kd H x t) ∨ ∃ m, isM Z H x m) ∧ ∃ x ∈ xs, ∃ t, Kd H x t
theorem isM.mono {Z : Cz} {H H' : Hp} {v : V} {m : J.Mv} (h : isM Z H v m) (s : Same H H') : isM Z H' v m := let ⟨p, e, q⟩ := h; ⟨p, e, q.mono s⟩
theorem kd_not_mv {Z : Cz} {H : Hp} {v : V} {t : String} {m : J.Mv} (k : Kd H v t) (h : isM Z H v m) : False := by
 obtain ⟨p, rfl, dx, e⟩ := h
 cases k with
 | lst e' => rw [e'] at e; cases e
 | tup e' => rw [e'] at e; cases e
theorem BadMvs.mono {Z : Cz} {H H' : Hp} {v : V} (h : BadMvs Z H v) (s : Same H H') : BadMvs Z H' v := by
 rcases h with ⟨t, k, n⟩ | ⟨l, xs, e, hl, ha, x, hx, t, k⟩
 · exact .inl ⟨t, k.mono s, n⟩
 · exact .inr ⟨l, xs, e, s _ _ hl, fun y hy => (ha y hy).elim (fun ⟨t, k⟩ => .inl ⟨t, k.mono s⟩) (fun ⟨m, q⟩ => .inr ⟨m, q.mono s⟩), x, hx, t, k.mono s⟩
def BadSz (H : Hp) (v : V) : Prop := (∃ t, Kd H v t ∧ t ≠ "list") ∨ ∃ l xs, v = .ref l ∧ H l = some (.lst xs) ∧ (∀ x ∈ xs, Im x) ∧
 (xs.length = 0 ∨ 4 < xs.length ∨ (∃ x ∈ xs, numB x 1 60 = false) ∨ ∃ sz : List Int, xs = sz.map V.int ∧ (∀ s ∈ sz, 1 ≤ s ∧ s ≤ 60) ∧ 2000 < J.prod1 sz)
theorem BadSz.mono {H H' : Hp} {v : V} (h : BadSz H v) (s : Same H H') : BadSz H' v := by
 rcases h with ⟨t, k, n⟩ | ⟨l, xs, e, hl, r⟩
 · exact .inl ⟨t, k.mono s, n⟩
 · exact .inr ⟨l, xs, e, s _ _ hl, r⟩
section
v5%
variable {CH CS CB : Addr} {Z : Cz}
def sp_moves_inX (Z : Cz) (CB : Addr) : Sp := fun vs H _ E => ∃ v, vs = [v] ∧ BadMvs Z H v ∧ ∀ o H', Same H H' → E (.ref CB) o H'
theorem ok_moves_inX {f : Addr} {fd : FuncData} (F : Fun K "moves_in" "moves_in" s_moves_in f fd) (B : Bt mg) (M : MvC K mg Z) (NM : NoMv K Z) (X : XC K mg "BadMove" CB) : fo% (CX1 P w) 1 f fd ["moves"] (sp_moves_inX Z CB) := by
 gok F.okX sc_moves_in
 · obtain ⟨v, rfl, _⟩ := h
   rfl
 · obtain ⟨v, rfl, hb, k⟩ := h
   refine ⟨_, sK (ps_if (pt_not (pt_val (eZ call_isinst (by rfl) B.isinstance bI (pK (pv 0) (pK (pe_bltn (v := .ty "list") (by rfl) B.list bt_list rfl) pN))))) (s1' (ps_raise bdX xeX rfl X)) sN)
     (sK (sS (i := 1) sc_moves_in.nd rfl (Or.inl rfl) (eT cL (by rfl) B.list bt_list (pK (pv 0) pN)))
     (sK (ps_for ownX rfl (pi_list (pv 1)) (pg_name (i := 2) sc_moves_in.nd rfl (Or.inl rfl))
       (s1' (ps_if (pt_not (pt_val (eZ call_isinstT (by rfl) B.isinstance bI (pK (pv 2) (pK (pe_tup (pK (pe_glob (v := .ref Z.P) (by rfl) M.gP rfl) (pK (pe_glob (v := .ref Z.F) (by rfl) M.gF rfl) (pK (pe_glob (v := .ref Z.E) (by rfl) M.gE rfl) pN)))) pN))))) (s1' (ps_raise bdX xeX rfl X)) sN)))
     (s1' (sR (pv 1))))), ?_⟩
   rcases hb with ⟨t, kd, nt⟩ | ⟨l, xs, rfl, hl, hall, x0, hx0, t0, k0⟩
   · exact ⟨_, rfl, _, _, _, _, _, rfl, .ty "list", kd.ty, kit_x kd (.inr rfl) nt, _, rfl, iteT (k _ H (Same.refl _))⟩
   refine ⟨_, rfl, _, _, _, _, _, rfl, .ty "list", .lst hl, kit_ll, _, rfl, iteF ?_⟩
   refine ⟨_, rfl, l, _, rfl, .inl (SqL.of hl), fun r nr => ?_⟩
   have s1 : Same H (upd H r (.lst xs)) := Same.new nr
   refine ⟨_, rfl, r, rfl, ⟨_, SqL.of uS⟩, for_list (K := K) (a := r) (xs := xs) (fun i σ H' => ∃ v, σ = [some (.ref l), some (.ref r), v] ∧ Same (upd H r (.lst xs)) H' ∧ ∀ (j : Nat) x, j < i → xs[j]? = some x → ∃ m, isM Z H x m)
     ⟨none, rfl, Same.refl _, fun j x h => absurd h (Nat.not_lt_zero _)⟩ (fun i σ H' _ ⟨_, _, s2, _⟩ => SqL.of (s2 _ _ uS)) ?_ ?_⟩
   · rintro i x σ H' hx ⟨v, rfl, s2, ih⟩
     refine ⟨_, rfl, (z% 3), fun tp nt => ?_⟩
     rcases hall x (List.mem_of_getElem? hx) with ⟨t, kd⟩ | ⟨m, hm⟩
     · exact ⟨_, tp, _, _, _, _, rfl, uS, .cons (.ref _) (.cons (.ref _) (.cons (.ref _) .nil)), (((kd.mono s1).mono s2).mono (Same.new nt)).ty, NM.of kd, _, rfl, iteT (k _ _ ((s1.trans s2).lay nt))⟩
     · obtain ⟨p, rfl, hmv⟩ := id hm
       have hmv' := (hmv.mono s1).mono s2
       refine ⟨_, tp, _, _, _, _, rfl, uS, .cons (.ref _) (.cons (.ref _) (.cons (.ref _) .nil)), M.ty (hmv'.mono (Same.new nt)), M.any m, _, rfl, iteF ?_⟩
       refine ⟨_, rfl, s2.lay nt, fun j y hj ej => ?_⟩
       rcases Nat.lt_succ_iff_lt_or_eq.mp hj with hj | rfl
       · exact ih j y hj ej
       · rw [hx] at ej; cases ej; exact ⟨m, hm⟩
   · rintro σ H' ⟨v, rfl, s2, ih⟩
     obtain ⟨j, hj⟩ := List.getElem?_of_mem hx0
     obtain ⟨m, hm⟩ := ih j x0 (List.getElem?_eq_some_iff.mp hj).1 hj
     exact (kd_not_mv k0 hm).elim
def sp_done_allX (Z : Cz) (CH CS CB : Addr) : Sp := fun vs H _ E => ∃ v h u sz tap, vs = [v, .ref h, u] ∧ House CH H h sz tap ∧ ((BadMvs Z H v ∧ ∀ o H', Same H H' → E (.ref CB) o H') ∨ ∃ l xs ms, v = .ref l ∧ H l = some (.lst xs) ∧ Paired (isM Z H) xs ms ∧
 ((BadSt H sz u ∧ ∀ o H', Same H H' → E (.ref CS) o H') ∨ ∃ a st ms1 m ms2, u = .ref a ∧ H a = some (.tup (st.map V.int)) ∧ J.IsSt sz st ∧ (∀ i, i < sz.length → 0 ≤ J.at0 sz i) ∧ ms = ms1 ++ m :: ms2 ∧ (∀ x ∈ ms1, x.ok sz.length tap) ∧ unfit sz.length tap m ∧ ∀ o H', Same H H' → E (.ref CB) o H'))
theorem ok_done_allX {f : Addr} {fd : FuncData} (F : Fun K "done_all" "done_all" s_done_all f fd) (B : Bt mg) (I : fb% 1 "moves_in" ["moves"] (sp_moves_in Z)) (IX : fx% 1 "moves_in" ["moves"] (sp_moves_inX Z CB)) (N : fb% 2 "held_in" ["house", "state"] (sp_held_in CH)) (NX : fx% 2 "held_in" ["house", "state"] (sp_held_inX CH CS))
   (D : ∀ C, anyMv Z C → mx% 5 C "done" ["self", "house", "state"] (fun vs H Q E => sp_done Z CH vs H Q E ∨ sp_doneX Z CH CS CB vs H Q E)) : fo% (CX1 P w) 6 f fd ["moves", "house", "state"] (sp_done_allX Z CH CS CB) := by
 gok F.okX sc_done_all
 · obtain ⟨v, q, u, sz, tap, rfl, _⟩ := h
   rfl
 · obtain ⟨v, q, u, sz, tap, rfl, hh, hb⟩ := h
   rcases hb with ⟨hb, k⟩ | ⟨l, xs, ms, rfl, hl, hp, hb⟩
   · refine ⟨_, sK (sS (i := 3) sc_done_all.nd rfl (Or.inl rfl) (pe_fnX bdX xeX IX (hr.mono (by decide)) (pK (pv 0) pN))) sV, ?_⟩
     exact ⟨_, rfl, v, rfl, hb, k⟩
   rcases hb with ⟨hb, k⟩ | ⟨a, st, ms1, m0, ms2, rfl, ha, hst, hs, rfl, hok, hu, k⟩
   · refine ⟨_, sK (sS (i := 3) sc_done_all.nd rfl (Or.inl rfl) (eF I (hr.mono (by decide)) (pK (pv 0) pN)))
       (sK (sS (i := 4) sc_done_all.nd rfl (Or.inl rfl) (eT cT (by rfl) B.tuple bt_tuple (pK (pe_fnX bdX xeX NX (hr.mono (by decide)) (pK (pv 1) (pK (pv 2) pN))) pN))) sV), ?_⟩
     refine ⟨_, rfl, l, xs, ms, rfl, hl, hp, fun r H1 s1 nr er => ?_⟩
     exact ⟨_, rfl, _, rfl, q, sz, tap, u, rfl, hh.mono s1, hb.mono s1, fun H' s' => k _ H' (s1.trans s')⟩
   refine ⟨_, sK (sS (i := 3) sc_done_all.nd rfl (Or.inl rfl) (eF I (hr.mono (by decide)) (pK (pv 0) pN)))
     (sK (sS (i := 4) sc_done_all.nd rfl (Or.inl rfl) (eT cT (by rfl) B.tuple bt_tuple (pK (eF N (hr.mono (by decide)) (pK (pv 1) (pK (pv 2) pN))) pN)))
     (sK (ps_for ownX rfl (pi_list (pv 3)) (pg_name (i := 5) sc_done_all.nd rfl (Or.inl rfl))
       (s1' (sS (i := 4) sc_done_all.nd rfl (Or.inl rfl) (pe_meUX bdX xeX D (pv 5) hr (pK (pv 1) (pK (pv 4) pN))))))
     (s1' (sR (pv 4))))), ?_⟩
   refine ⟨_, rfl, l, xs, _, rfl, hl, hp, fun r H1 s1 nr er => ?_⟩
   refine ⟨_, rfl, _, rfl, q, sz, tap, a, st, rfl, hh.mono s1, s1 _ _ ha, hst, fun y H2 s2 ny ey => ?_⟩
   refine ⟨y, _, rfl, .inl ⟨SqL.of ey, fun t nt => ?_⟩⟩
   have s3 : Same H (upd H2 t (.tup (st.map V.int))) := (s1.trans s2).lay nt
   have er3 : (upd H2 t (.tup (st.map V.int))) r = some (.lst xs) := (s2.lay nt) _ _ er
   refine ⟨_, rfl, r, rfl, ⟨_, SqL.of er3⟩, for_list (K := K) (a := r) (xs := xs) (fun i σ H' => i ≤ ms1.length ∧ ∃ b v, σ = [some (.ref l), some (.ref q), some (.ref a), some (.ref r), some (.ref b), v] ∧ Same (upd H2 t (.tup (st.map V.int))) H' ∧ H' b = some (.tup (((ms1.take i).foldl (J.behind sz) st).map V.int)))
     ⟨Nat.zero_le _, t, none, rfl, Same.refl _, uS⟩ (fun i σ H' _ ⟨_, _, _, _, s4, _⟩ => SqL.of (s4 _ _ er3)) ?_ ?_⟩
   · rintro i x σ H' hx ⟨hi, b, v, rfl, s4, hb⟩
     obtain ⟨m, hm, p, rfl, hmv⟩ := L2.Paired.get hp hx
     have s5 := s3.trans s4
     obtain ⟨dp, hpp⟩ := hmv.mono s5
     have hst' := foldl_st hs hst (ms1.take i) (fun z hz => hok z (List.mem_of_mem_take hz))
     refine ⟨_, rfl, Z.cl m, p, dp, _, anyMv_cl Z m, rfl, hpp, fsOf_no m (by decide +kernel) (by decide +kernel) (by decide +kernel), _, rfl, _, rfl, ?_⟩
     by_cases hlt : i < ms1.length
     · have hm1 : ms1[i]? = some m := by rw [List.getElem?_append_left hlt] at hm; exact hm
       refine .inl ⟨p, q, b, sz, tap, _, m, rfl, hmv.mono s5, hh.mono s5, hb, hst', hok m (List.mem_of_getElem? hm1), fun r' H6 s6 e6 => ?_⟩
       refine ⟨hlt, r', _, rfl, s4.trans s6, ?_⟩
       rw [List.take_add_one, hm1]
       simpa using e6
     · have hi : i = ms1.length := by omega
       subst hi
       have hm1 : m0 = m := by rw [List.getElem?_append_right (Nat.le_refl _)] at hm; simpa using hm
       subst hm1
       exact .inr ⟨p, q, _, sz, tap, m0, rfl, hmv.mono s5, hh.mono s5, .inr ⟨b, _, rfl, hb, hst', hu, fun o H6 s6 => k o H6 (s5.trans s6)⟩⟩
   · rintro σ H' ⟨hi, _⟩
     have := hp.length
     rw [List.length_append, List.length_cons] at this
     omega
def sp_sizes_inX (CB : Addr) : Sp := fun vs H _ E => ∃ v, vs = [v] ∧ BadSz H v ∧ ∀ o H', Same H H' → E (.ref CB) o H'
theorem ok_sizes_inX {f : Addr} {fd : FuncData} (F : Fun K "sizes_in" "sizes_in" s_sizes_in f fd) (B : Bt mg) (hst : ∃ t, mg "MOST_STATES" = some (.int 2000 t)) (X : XC K mg "BadHouse" CB) (N : fb% 1 "is_number" ["value", "least", "most"] sp_is_numG)
   (C : fb% 1 "count_states" ["sizes"] sp_count_states) : fo% (CX1 P w) 2 f fd ["sizes"] (sp_sizes_inX CB) := by
 obtain ⟨t4, e4⟩ := B.jugs
 obtain ⟨t60, e60⟩ := B.size
 obtain ⟨t2, e2⟩ := hst
 gok F.okX sc_sizes_in
 · obtain ⟨v, rfl, _⟩ := h
   rfl
 · obtain ⟨v, rfl, hb, k⟩ := h
   refine ⟨_, sK (ps_if (pt_not (pt_val (eZ call_isinst (by rfl) B.isinstance bI (pK (pv 0) (pK (pe_bltn (v := .ty "list") (by rfl) B.list bt_list rfl) pN))))) (s1' (ps_raise bdX xeX rfl X)) sN)
     (sK (sS (i := 1) sc_sizes_in.nd rfl (Or.inl rfl) (eT cL (by rfl) B.list bt_list (pK (pv 0) pN)))
     (sK (ps_if (pt_not (pt_chain op_le op_le eI (eZ call_len_seq (by rfl) B.len PySem.boot_len (pK (pv 1) pN)) (pe_glob (v := .int 4) (by rfl) e4 ⟨_, rfl⟩))) (s1' (ps_raise bdX xeX rfl X)) sN)
     (sK (ps_for ownX rfl (pi_list (pv 1)) (pg_name (i := 2) sc_sizes_in.nd rfl (Or.inl rfl))
       (s1' (ps_if (pt_not (pt_val (eF N hr (pK (pv 2) (pK eI (pK (pe_glob (v := .int 60) (by rfl) e60 ⟨_, rfl⟩) pN)))))) (s1' (ps_raise bdX xeX rfl X)) sN)))
     (sK (ps_if (pt_cmpR op_gt (eF C hr (pK (pv 1) pN)) (pe_glob (v := .int 2000) (by rfl) e2 ⟨_, rfl⟩) (nomark _)) (s1' (ps_raise bdX xeX rfl X)) sN)
     (s1' (sR (pv 1))))))), ?_⟩
   rcases hb with ⟨t, kd, nt⟩ | ⟨l, xs, rfl, hl, him, hb⟩
   · exact ⟨_, rfl, _, _, _, _, _, rfl, .ty "list", kd.ty, kit_x kd (.inr rfl) nt, _, rfl, iteT (k _ H (Same.refl _))⟩
   refine ⟨_, rfl, _, _, _, _, _, rfl, .ty "list", .lst hl, kit_ll, _, rfl, iteF ?_⟩
   refine ⟨_, rfl, l, _, rfl, .inl (SqL.of hl), fun r nr => ?_⟩
   have s1 : Same H (upd H r (.lst xs)) := Same.new nr
   refine ⟨_, rfl, r, _, rfl, .inl (SqL.of uS), _, _, rfl, rfl, _, rfl, ?_⟩
   by_cases h1 : xs.length = 0
   · rw [decide_eq_false (by omega)]
     exact iteF ⟨_, rfl, iteT (k _ _ s1)⟩
   rw [decide_eq_true (by omega)]
   refine iteT ⟨_, _, rfl, rfl, _, rfl, ?_⟩
   by_cases h4 : 4 < xs.length
   · rw [decide_eq_false (by omega)]
     exact iteT (k _ _ s1)
   rw [decide_eq_true (by omega)]
   refine iteF ?_
   refine ⟨_, rfl, r, rfl, ⟨_, SqL.of uS⟩, for_list (K := K) (a := r) (xs := xs) (fun i σ H' => (∃ v, σ = [some (.ref l), some (.ref r), v] ∧ H' = upd H r (.lst xs)) ∧ ∀ (j : Nat) x, j < i → xs[j]? = some x → numB x 1 60 = true)
     ⟨⟨none, rfl, rfl⟩, fun j x h => absurd h (Nat.not_lt_zero _)⟩ (fun i σ H' _ ⟨⟨_, _, e⟩, _⟩ => by subst e; exact SqL.of uS) ?_ ?_⟩
   · rintro i x σ H' hx ⟨⟨v, rfl, rfl⟩, ih⟩
     obtain ⟨tx, _, _, kx⟩ := him x (List.mem_of_getElem? hx)
     refine ⟨_, rfl, x, tx, 1, 60, rfl, kx _, _, rfl, ?_⟩
     cases hn : numB x 1 60 with
     | false => exact iteT (k _ _ s1)
     | true =>
       refine iteF ⟨⟨_, rfl, rfl⟩, fun j y hj ej => ?_⟩
       rcases Nat.lt_succ_iff_lt_or_eq.mp hj with hj | rfl
       · exact ih j y hj ej
       · rw [hx] at ej; cases ej; exact hn
   · rintro σ H' ⟨⟨v, rfl, rfl⟩, ih⟩
     rcases hb with hb | hb | ⟨x, hx, hb⟩ | ⟨sz, rfl, hbd, hb⟩
     · exact absurd hb h1
     · exact absurd hb h4
     · obtain ⟨j, hj⟩ := List.getElem?_of_mem hx
       rw [ih j x (List.getElem?_eq_some_iff.mp hj).1 hj] at hb
       cases hb
     · refine ⟨_, rfl, r, sz, rfl, uS, hbd, _, _, rfl, rfl, _, rfl, ?_⟩
       rw [decide_eq_true (by omega)]
       exact iteT (k _ _ s1)
def sp_House_initX (CH CB : Addr) : Sp := fun vs H _ E => ∃ (p dx : Addr) (v u : V), vs = [.ref p, v, u] ∧ H p = some (.ins CH dx []) ∧ (BadSz H v ∨ ∃ l sz t, v = .ref l ∧ H l = some (.lst (sz.map V.int)) ∧ Hz sz ∧ Kd H u t ∧ t ≠ "bool") ∧
 ∀ o H', (∀ c o, H c = some o → c ≠ p → H' c = some o) → E (.ref CB) o H'
theorem ok_House_initX {f : Addr} {fd : FuncData} (F : Fun K "__init__" "House.__init__" s_House_init f fd) (B : Bt mg) (C : CHs K CH) (X : XC K mg "BadHouse" CB) (N : fb% 2 "sizes_in" ["sizes"] sp_sizes_in) (NX : fx% 2 "sizes_in" ["sizes"] (sp_sizes_inX CB)) :
   fo% (CX1 P w) 3 f fd ["self", "sizes", "tap"] (sp_House_initX CH CB) := by
 gok F.okX sc_House_init
 · obtain ⟨p, dx, v, u, rfl, _⟩ := h
   rfl
 · obtain ⟨p, dx, v, u, rfl, hp, hb, k⟩ := h
   rcases hb with hb | ⟨l, sz, t, rfl, hl, hz, ku, nt⟩
   · refine ⟨_, sK (ps_fld (pv 0) (eT cT (by rfl) B.tuple bt_tuple (pK (pe_fnX bdX xeX NX hr (pK (pv 1) pN)) pN)) rfl) sV, ?_⟩
     exact ⟨_, rfl, v, rfl, hb, fun o H' s' => k o H' fun c u e _ => s' c u e⟩
   refine ⟨_, sK (ps_fld (pv 0) (eT cT (by rfl) B.tuple bt_tuple (pK (eF N hr (pK (pv 1) pN)) pN)) rfl)
     (sK (ps_if (pt_not (pt_val (eZ call_isinst (by rfl) B.isinstance bI (pK (pv 2) (pK (pe_bltn (v := .ty "bool") (by rfl) B.bool bt_bool rfl) pN))))) (s1' (ps_raise bdX xeX rfl X)) sN) sV), ?_⟩
   refine ⟨_, rfl, l, sz, rfl, hl, hz, fun r H1 s1 hr1 => ?_⟩
   refine ⟨r, _, rfl, .inl ⟨SqL.of hr1, fun t' nt' => ?_⟩⟩
   have s2 : Same H (upd H1 t' (.tup (sz.map V.int))) := s1.lay nt'
   refine ⟨_, rfl, p, CH, dx, [], rfl, s2 _ _ hp, C.cl, C.js, (by show 0 < 1000; decide), ?_⟩
   have ku' : Kd (upd (upd H1 t' (.tup (sz.map V.int))) p (.ins CH dx (putF "jug_sizes" (.ref t') []))) u t := by
     cases ku with
     | non => exact .non
     | bl b => exact .bl b
     | int i => exact .int i
     | str x => exact .str x
     | lst e => exact .lst (by rw [uN (fun z => by rw [z, hp] at e; cases e)]; exact s2 _ _ e)
     | tup e => exact .tup (by rw [uN (fun z => by rw [z, hp] at e; cases e)]; exact s2 _ _ e)
   refine ⟨_, rfl, _, _, _, _, _, rfl, .ty "bool", ku'.ty, kit_xb ku nt, _, rfl, iteT ?_⟩
   exact k _ _ fun c o e hc => by rw [uN hc]; exact s2 _ _ e
def sp_walkX (CH CS : Addr) : Sp := fun vs H _ E => ∃ p sz tap v, vs = [.ref p, v] ∧ House CH H p sz tap ∧ BadSt H sz v ∧ ∀ o H', Same H H' → E (.ref CS) o H'
theorem ok_waysX {f : Addr} {fd : FuncData} (F : Fun K "ways_from" "ways_from" s_ways_from f fd) (B : Bt mg) (NX : fx% 2 "held_in" ["house", "state"] (sp_held_inX CH CS)) : fo% (CX1 P w) 8 f fd ["house", "state"] (sp_walkX CH CS) := by
 gok F.okX sc_ways_from
 · obtain ⟨p, sz, tap, v, rfl, _⟩ := h
   rfl
 · obtain ⟨p, sz, tap, v, rfl, hh, hb, k⟩ := h
   refine ⟨_, sK (sS (i := 2) sc_ways_from.nd rfl (Or.inl rfl) (eT cT (by rfl) B.tuple bt_tuple (pK (pe_fnX bdX xeX NX (hr.mono (by decide)) (pK (pv 0) (pK (pv 1) pN))) pN))) sV, ?_⟩
   exact ⟨_, rfl, _, rfl, p, sz, tap, v, rfl, hh, hb, fun H' s' => k _ H' s'⟩
theorem ok_reachedX {f : Addr} {fd : FuncData} (F : Fun K "reached" "reached" s_reached f fd) (hs : mg "sorted" = none) (WX : fx% 8 "ways_from" ["house", "state"] (sp_walkX CH CS)) : fo% (CX1 P w) 9 f fd ["house", "state"] (sp_walkX CH CS) := by
 gok F.okX sc_reached
 · obtain ⟨p, sz, tap, v, rfl, _⟩ := h
   rfl
 · obtain ⟨p, sz, tap, v, rfl, hh, hb, k⟩ := h
   refine ⟨_, s1' (sR (eZ (call_sortD1 rfl) (by rfl) hs bt_sorted (pK (pe_fnX bdX xeX WX hr (pK (pv 0) (pK (pv 1) pN))) pN))), ?_⟩
   exact ⟨_, rfl, _, rfl, p, sz, tap, v, rfl, hh, hb, k⟩
theorem ok_measuredX {f : Addr} {fd : FuncData} (F : Fun K "measured" "measured" s_measured f fd) (WX : fx% 8 "ways_from" ["house", "state"] (sp_walkX CH CS)) : fo% (CX1 P w) 9 f fd ["house", "state"] (sp_walkX CH CS) := by
 gok F.okX sc_measured
 · obtain ⟨p, sz, tap, v, rfl, _⟩ := h
   rfl
 · obtain ⟨p, sz, tap, v, rfl, hh, hb, k⟩ := h
   refine ⟨_, sK (sS (i := 2) sc_measured.nd rfl (Or.inl rfl) pe_dnewK)
     (sK (ps_for ownX rfl (pi_dt (pe_fnX bdX xeX WX hr (pK (pv 0) (pK (pv 1) pN)))) (pg_name (i := 3) sc_measured.nd rfl (Or.inl rfl)) sV) sV), ?_⟩
   intro am nam
   have s1 : Same H (upd H am (.dK [])) := Same.new nam
   exact ⟨_, rfl, _, rfl, p, sz, tap, v, rfl, hh.mono s1, hb.mono s1, fun o H' s' => k o H' (s1.trans s')⟩
def sp_tiedX (CH CS : Addr) : Sp := fun vs H _ E => ∃ p sz tap v u, vs = [.ref p, v, u] ∧ House CH H p sz tap ∧ (BadSt H sz v ∨ ∃ a st, v = .ref a ∧ H a = some (.tup (st.map V.int)) ∧ J.IsSt sz st ∧ BadSt H sz u) ∧ ∀ o H', Same H H' → E (.ref CS) o H'
theorem ok_tiedX {f : Addr} {fd : FuncData} (F : Fun K "tied" "tied" s_tied f fd) (B : Bt mg) (N : fb% 2 "held_in" ["house", "state"] (sp_held_in CH)) (NX : fx% 2 "held_in" ["house", "state"] (sp_held_inX CH CS)) : fo% (CX1 P w) 9 f fd ["house", "one", "other"] (sp_tiedX CH CS) := by
 gok F.okX sc_tied
 · obtain ⟨p, sz, tap, v, u, rfl, _⟩ := h
   rfl
 · obtain ⟨p, sz, tap, v, u, rfl, hh, hb, k⟩ := h
   have hr2 : Room 2 _ := hr.mono (by decide)
   rcases hb with hb | ⟨a, st, rfl, ha, hst, hb⟩
   · refine ⟨_, sK (sS (i := 3) sc_tied.nd rfl (Or.inl rfl) (eT cT (by rfl) B.tuple bt_tuple (pK (pe_fnX bdX xeX NX hr2 (pK (pv 0) (pK (pv 1) pN))) pN))) sV, ?_⟩
     exact ⟨_, rfl, _, rfl, p, sz, tap, v, rfl, hh, hb, fun H' s' => k _ H' s'⟩
   · refine ⟨_, sK (sS (i := 3) sc_tied.nd rfl (Or.inl rfl) (eT cT (by rfl) B.tuple bt_tuple (pK (eF N hr2 (pK (pv 0) (pK (pv 1) pN))) pN)))
       (sK (sS (i := 4) sc_tied.nd rfl (Or.inl rfl) (eT cT (by rfl) B.tuple bt_tuple (pK (pe_fnX bdX xeX NX hr2 (pK (pv 0) (pK (pv 2) pN))) pN))) sV), ?_⟩
     refine ⟨_, rfl, _, rfl, p, sz, tap, a, st, rfl, hh, ha, hst, fun y H1 s1 ny ey => ⟨y, _, rfl, .inl ⟨SqL.of ey, fun t nt => ?_⟩⟩⟩
     have s2 : Same H (upd H1 t (.tup (st.map V.int))) := s1.lay nt
     exact ⟨_, rfl, _, rfl, p, sz, tap, u, rfl, hh.mono s2, hb.mono s2, fun H' s' => k _ H' (s2.trans s')⟩
theorem ok_routine_textX {f : Addr} {fd : FuncData} (F : Fun K "routine_text" "routine_text" s_routine_text f fd) (IX : fx% 1 "moves_in" ["moves"] (sp_moves_inX Z CB)) : fo% (CX1 P w) 2 f fd ["moves"] (sp_moves_inX Z CB) := by
 gok F.okX sc_routine_text
 · obtain ⟨v, rfl, _⟩ := h
   rfl
 · obtain ⟨v, rfl, hb, k⟩ := h
   refine ⟨_, s1' (sR (pe_join pe_str (pe_lc sc_routine_text [] (pi_list (pe_fnX bdX xeX IX hr (pK (pv 0) pN))) (fun _ _ _ _ _ _ => ⟨pif_nil, pe_never⟩)))), ?_⟩
   exact ⟨rfl, _, rfl, v, rfl, hb, k⟩
end
end Jug
namespace Jug
open PySem L2
structure NoGo (K : W.Frag) (G : Gz) : Prop where
 n1 : W.kitAny K (.type "NoneType") [.ref G.H, .ref G.S, .ref G.U, .ref G.W] = some false
 n2 : W.kitAny K (.type "bool") [.ref G.H, .ref G.S, .ref G.U, .ref G.W] = some false
 n3 : W.kitAny K (.type "int") [.ref G.H, .ref G.S, .ref G.U, .ref G.W] = some false
 n4 : W.kitAny K (.type "str") [.ref G.H, .ref G.S, .ref G.U, .ref G.W] = some false
 n5 : W.kitAny K (.type "list") [.ref G.H, .ref G.S, .ref G.U, .ref G.W] = some false
 n6 : W.kitAny K (.type "tuple") [.ref G.H, .ref G.S, .ref G.U, .ref G.W] = some false
theorem NoGo.of {K : W.Frag} {G : Gz} (N : NoGo K G) {H : Hp} {v : V} {t : String} (k : Kd H v t) : W.kitAny K (.type t) [.ref G.H, .ref G.S, .ref G.U, .ref G.W] = some false := by
 cases k with
 | non => exact N.n1
 | bl b => exact N.n2
 | int i => exact N.n3
 | str x => exact N.n4
 | lst e => exact N.n5
 | tup e => exact N.n6
def BadJs (H : Hp) (v : V) : Prop := (∃ t, Kd H v t ∧ t ≠ "list") ∨ ∃ l xs, v = .ref l ∧ H l = some (.lst xs) ∧ (∀ x ∈ xs, ∃ t, Kd H x t) ∧
 ((∃ x ∈ xs, numB x 0 3 = false) ∨ ∃ js : List Int, xs = js.map V.int ∧ js.length < 1000 ∧ (js = [] ∨ (PyProof.Rows.firstMet (fun i => js.getD i 0) js.length).length ≠ js.length))
theorem BadJs.mono {H H' : Hp} {v : V} (h : BadJs H v) (s : Same H H') : BadJs H' v := by
 rcases h with ⟨t, k, n⟩ | ⟨l, xs, e, hl, hk, r⟩
 · exact .inl ⟨t, k.mono s, n⟩
 · exact .inr ⟨l, xs, e, s _ _ hl, fun x hx => let ⟨t, k⟩ := hk x hx; ⟨t, k.mono s⟩, r⟩
def BadAm (H : Hp) (v : V) : Prop := (∃ t, Kd H v t ∧ t ≠ "tuple") ∨ ∃ l xs, v = .ref l ∧ H l = some (.tup xs) ∧ (∀ x ∈ xs, ∃ t, Kd H x t) ∧ (xs.length = 0 ∨ 4 < xs.length ∨ ∃ x ∈ xs, numB x 0 60 = false)
theorem BadAm.mono {H H' : Hp} {v : V} (h : BadAm H v) (s : Same H H') : BadAm H' v := by
 rcases h with ⟨t, k, n⟩ | ⟨l, xs, e, hl, hk, r⟩
 · exact .inl ⟨t, k.mono s, n⟩
 · exact .inr ⟨l, xs, e, s _ _ hl, fun x hx => let ⟨t, k⟩ := hk x hx; ⟨t, k.mono s⟩, r⟩
def Go.unfit (sz : List Int) : Go → Prop
 | .holds j _ => sz.length ≤ j
 | .som _ => False
 | .sum js _ => (∀ j ∈ js, 0 ≤ j) ∧ ∃ j ∈ js, (sz.length : Int) ≤ j
 | .whole t => okSt (t.map V.int) sz = false
section
v5%
variable {CH CS CB CG : Addr} {Z : Cz} {G : Gz}
def sp_jugs_inX (CB : Addr) : Sp := fun vs H _ E => ∃ v, vs = [v] ∧ BadJs H v ∧ ∀ o H', Same H H' → E (.ref CB) o H'
theorem ok_jugs_inX {f : Addr} {fd : FuncData} (F : Fun K "jugs_in" "jugs_in" s_jugs_in f fd) (B : Bt mg) (hs : mg "set" = none) (X : XC K mg "BadGoal" CB)
   (N : fx% 3 "check_jug_goals" ["jug"] (fun vs H Q E => sp_check_jug vs H Q E ∨ sp_refuse CB 0 3 vs H Q E)) : fo% (CX1 P w) 4 f fd ["jugs"] (sp_jugs_inX CB) := by
 gok F.okX sc_jugs_in
 · obtain ⟨v, rfl, _⟩ := h
   rfl
 · obtain ⟨v, rfl, hb, k⟩ := h
   have nd := sc_jugs_in.nd
   refine ⟨_, sK (ps_if (pt_not (pt_val (eZ call_isinst (by rfl) B.isinstance bI (pK (pv 0) (pK (pe_bltn (v := .ty "list") (by rfl) B.list bt_list rfl) pN))))) (s1' (ps_raise bdX xeX rfl X)) sN)
     (sK (sS (i := 1) nd rfl (Or.inl rfl) (eT cL (by rfl) B.list bt_list (pK (pv 0) pN)))
     (sK (ps_for ownX rfl (pi_list (pv 1)) (pg_name (i := 2) nd rfl (Or.inl rfl))
       (s1' (ps_expr (pe_fnX bdX xeX N hr (pK (pv 2) pN)))))
     (sK (ps_if (pt_cmpR op_eq (eZ call_len_seq (by rfl) B.len PySem.boot_len (pK (pv 1) pN)) eI (nomark _)) (s1' (ps_raise bdX xeX rfl X)) sN)
     (sK (ps_if (pt_cmpR op_ne (pe_lensetG rfl (by rfl) B.len (by rfl) hs (pv 1)) (eZ call_len_seq (by rfl) B.len PySem.boot_len (pK (pv 1) pN)) (nomark _)) (s1' (ps_raise bdX xeX rfl X)) sN)
     (s1' (sR (pv 1))))))), ?_⟩
   rcases hb with ⟨t, kd, nt⟩ | ⟨l, xs, rfl, hl, hk, hb⟩
   · exact ⟨_, rfl, _, _, _, _, _, rfl, .ty "list", kd.ty, kit_x kd (.inr rfl) nt, _, rfl, iteT (k _ H (Same.refl _))⟩
   refine ⟨_, rfl, _, _, _, _, _, rfl, .ty "list", .lst hl, kit_ll, _, rfl, iteF ?_⟩
   refine ⟨_, rfl, l, _, rfl, .inl (SqL.of hl), fun r nr => ?_⟩
   have s1 : Same H (upd H r (.lst xs)) := Same.new nr
   refine ⟨_, rfl, r, rfl, ⟨_, SqL.of uS⟩, for_list (K := K) (a := r) (xs := xs) (fun i σ H' => (∃ v, σ = [some (.ref l), some (.ref r), v] ∧ H' = upd H r (.lst xs)) ∧ ∀ (j : Nat) x, j < i → xs[j]? = some x → numB x 0 3 = true)
     ⟨⟨none, rfl, rfl⟩, fun j x h => absurd h (Nat.not_lt_zero _)⟩ (fun i σ H' _ ⟨⟨_, _, e⟩, _⟩ => by subst e; exact SqL.of uS) ?_ ?_⟩
   · rintro i x σ H' hx ⟨⟨v, rfl, rfl⟩, ih⟩
     obtain ⟨t, kx⟩ := hk x (List.mem_of_getElem? hx)
     refine ⟨_, rfl, ?_⟩
     cases hn : numB x 0 3 with
     | false => exact .inr ⟨x, t, rfl, kx.mono s1, hn, k _ _ s1⟩
     | true =>
       cases x with
       | int z =>
         have hn' : (decide (0 ≤ z) && decide (z ≤ 3)) = true := hn
         rw [Bool.and_eq_true, decide_eq_true_iff, decide_eq_true_iff] at hn'
         obtain ⟨j, rfl⟩ : ∃ j : Nat, z = (j : Int) := ⟨z.toNat, (Int.toNat_of_nonneg hn'.1).symm⟩
         refine .inl ⟨j, rfl, by omega, ⟨_, rfl, rfl⟩, fun j' y hj ej => ?_⟩
         rcases Nat.lt_succ_iff_lt_or_eq.mp hj with hj | rfl
         · exact ih j' y hj ej
         · rw [hx] at ej; cases ej; exact hn
       | _ => cases hn
   · rintro σ H' ⟨⟨v, rfl, rfl⟩, ih⟩
     rcases hb with ⟨x, hx, hb⟩ | ⟨js, rfl, hlt, hb⟩
     · obtain ⟨j, hj⟩ := List.getElem?_of_mem hx
       rw [ih j x (List.getElem?_eq_some_iff.mp hj).1 hj] at hb
       cases hb
     · refine ⟨_, rfl, r, _, rfl, .inl (SqL.of uS), rfl, _, rfl, ?_⟩
       by_cases h0 : js = []
       · rw [decV, decide_eq_true (by rw [h0]; rfl)]
         exact iteT (k _ _ s1)
       · rw [decV, decide_eq_false (by rw [List.length_map]; intro e; exact h0 (List.length_eq_zero_iff.mp (by omega)))]
         refine iteF ?_
         refine ⟨_, rfl, r, js, rfl, SqL.of uS, hlt, ?_⟩
         have hb := hb.resolve_left h0
         refine ⟨_, rfl, r, _, rfl, .inl (SqL.of uS), rfl, _, rfl, iteYS (fun e => hb ?_) (k _ _ s1)⟩
         have e : ((PyProof.Rows.firstMet (fun i => js.getD i 0) js.length).length : Int) = (js.length : Int) := by simpa using e
         omega
def sp_amounts_inX (CB : Addr) : Sp := fun vs H _ E => ∃ v, vs = [v] ∧ BadAm H v ∧ ∀ o H', Same H H' → E (.ref CB) o H'
theorem ok_amounts_inX {f : Addr} {fd : FuncData} (F : Fun K "amounts_in" "amounts_in" s_amounts_in f fd) (B : Bt mg) (X : XC K mg "BadGoal" CB) (N : fb% 1 "is_number" ["value", "least", "most"] sp_is_numG) : fo% (CX1 P w) 2 f fd ["state"] (sp_amounts_inX CB) := by
 obtain ⟨t4, e4⟩ := B.jugs
 obtain ⟨t60, e60⟩ := B.size
 gok F.okX sc_amounts_in
 · obtain ⟨v, rfl, _⟩ := h
   rfl
 · obtain ⟨v, rfl, hb, k⟩ := h
   have nd := sc_amounts_in.nd
   refine ⟨_, sK (ps_if (pt_not (pt_val (eZ call_isinst (by rfl) B.isinstance bI (pK (pv 0) (pK (pe_bltn (v := .ty "tuple") (by rfl) B.tuple bt_tuple rfl) pN))))) (s1' (ps_raise bdX xeX rfl X)) sN)
     (sK (sS (i := 1) nd rfl (Or.inl rfl) (eT cL (by rfl) B.list bt_list (pK (pv 0) pN)))
     (sK (ps_if (pt_not (pt_chain op_le op_le eI (eZ call_len_seq (by rfl) B.len PySem.boot_len (pK (pv 1) pN)) (pe_glob (v := .int 4) (by rfl) e4 ⟨_, rfl⟩))) (s1' (ps_raise bdX xeX rfl X)) sN)
     (sK (ps_for ownX rfl (pi_list (pv 1)) (pg_name (i := 2) nd rfl (Or.inl rfl))
       (s1' (ps_if (pt_not (pt_val (eF N hr (pK (pv 2) (pK eI (pK (pe_glob (v := .int 60) (by rfl) e60 ⟨_, rfl⟩) pN)))))) (s1' (ps_raise bdX xeX rfl X)) sN)))
     (s1' (sR (pv 1)))))), ?_⟩
   rcases hb with ⟨t, kd, nt⟩ | ⟨l, xs, rfl, hl, hk, hb⟩
   · exact ⟨_, rfl, _, _, _, _, _, rfl, .ty "tuple", kd.ty, kit_x kd (.inl rfl) nt, _, rfl, iteT (k _ H (Same.refl _))⟩
   refine ⟨_, rfl, _, _, _, _, _, rfl, .ty "tuple", .tup hl, kit_tt, _, rfl, iteF ?_⟩
   refine ⟨_, rfl, l, _, rfl, .inr (SqT.of hl), fun r nr => ?_⟩
   have s1 : Same H (upd H r (.lst xs)) := Same.new nr
   refine ⟨_, rfl, r, _, rfl, .inl (SqL.of uS), _, _, rfl, rfl, _, rfl, ?_⟩
   by_cases h1 : xs.length = 0
   · rw [decide_eq_false (by omega)]
     exact iteF ⟨_, rfl, iteT (k _ _ s1)⟩
   rw [decide_eq_true (by omega)]
   refine iteT ⟨_, _, rfl, rfl, _, rfl, ?_⟩
   by_cases h4 : 4 < xs.length
   · rw [decide_eq_false (by omega)]
     exact iteT (k _ _ s1)
   rw [decide_eq_true (by omega)]
   refine iteF ?_
   refine ⟨_, rfl, r, rfl, ⟨_, SqL.of uS⟩, for_list (K := K) (a := r) (xs := xs) (fun i σ H' => (∃ v, σ = [some (.ref l), some (.ref r), v] ∧ H' = upd H r (.lst xs)) ∧ ∀ (j : Nat) x, j < i → xs[j]? = some x → numB x 0 60 = true)
     ⟨⟨none, rfl, rfl⟩, fun j x h => absurd h (Nat.not_lt_zero _)⟩ (fun i σ H' _ ⟨⟨_, _, e⟩, _⟩ => by subst e; exact SqL.of uS) ?_ ?_⟩
   · rintro i x σ H' hx ⟨⟨v, rfl, rfl⟩, ih⟩
     obtain ⟨t, kx⟩ := hk x (List.mem_of_getElem? hx)
     refine ⟨_, rfl, x, t, 0, 60, rfl, kx.mono s1, _, rfl, ?_⟩
     cases hn : numB x 0 60 with
     | false => exact iteT (k _ _ s1)
     | true =>
       refine iteF ⟨⟨_, rfl, rfl⟩, fun j y hj ej => ?_⟩
       rcases Nat.lt_succ_iff_lt_or_eq.mp hj with hj | rfl
       · exact ih j y hj ej
       · rw [hx] at ej; cases ej; exact hn
   · rintro σ H' ⟨⟨v, rfl, rfl⟩, ih⟩
     rcases hb with hb | hb | ⟨x, hx, hb⟩
     · exact absurd hb h1
     · exact absurd hb h4
     · obtain ⟨j, hj⟩ := List.getElem?_of_mem hx
       rw [ih j x (List.getElem?_eq_some_iff.mp hj).1 hj] at hb
       cases hb
def sp_Holds_initX (CB : Addr) : Sp := fun vs H _ E => ∃ p v u tv tu, vs = [.ref p, v, u] ∧ Kd H v tv ∧ Kd H u tu ∧ (numB v 0 3 = false ∨ ∃ a : Nat, v = .int a ∧ a ≤ 3 ∧ numB u 0 240 = false) ∧ ∀ o H', Same H H' → E (.ref CB) o H'
theorem ok_Holds_initX {f : Addr} {fd : FuncData} (F : Fun K "__init__" "Holds.__init__" s_Holds_init f fd) (N : fb% 3 "check_jug_goals" ["jug"] sp_check_jug) (NX : fx% 3 "check_jug_goals" ["jug"] (sp_refuse CB 0 3)) (MX : fx% 2 "check_amount" ["many"] (sp_refuse CB 0 240)) :
   fo% (CX1 P w) 4 f fd ["self", "jug", "many"] (sp_Holds_initX CB) := by
 gok F.okX sc_Holds_init
 · obtain ⟨p, v, u, tv, tu, rfl, _⟩ := h
   rfl
 · obtain ⟨p, v, u, tv, tu, rfl, kv, ku, hb, k⟩ := h
   rcases hb with hb | ⟨a, rfl, ha, hb⟩
   · exact ⟨_, sK (ps_expr (pe_fnX bdX xeX NX hr (pK (pv 1) pN))) sV, _, rfl, v, tv, rfl, kv, hb, k _ H (Same.refl _)⟩
   · refine ⟨_, sK (ps_expr (eF N hr (pK (pv 1) pN))) (sK (ps_expr (pe_fnX bdX xeX MX (hr.mono (by decide)) (pK (pv 2) pN))) sV), ?_⟩
     exact ⟨_, rfl, a, rfl, ha, _, rfl, u, tu, rfl, ku, hb, k _ H (Same.refl _)⟩
def sp_Some_initX (CB : Addr) : Sp := fun vs H _ E => ∃ p v tv, vs = [.ref p, v] ∧ Kd H v tv ∧ numB v 0 240 = false ∧ ∀ o H', Same H H' → E (.ref CB) o H'
theorem ok_Some_initX {f : Addr} {fd : FuncData} (F : Fun K "__init__" "Some.__init__" s_Some_init f fd) (MX : fx% 2 "check_amount" ["many"] (sp_refuse CB 0 240)) : fo% (CX1 P w) 3 f fd ["self", "many"] (sp_Some_initX CB) := by
 gok F.okX sc_Some_init
 · obtain ⟨p, v, tv, rfl, _⟩ := h
   rfl
 · obtain ⟨p, v, tv, rfl, kv, hb, k⟩ := h
   exact ⟨_, sK (ps_expr (pe_fnX bdX xeX MX hr (pK (pv 1) pN))) sV, _, rfl, v, tv, rfl, kv, hb, k _ H (Same.refl _)⟩
theorem Kd.off {H H' : Hp} {p dx C : Addr} {fs : List (Str × V)} {v : V} {t : String} (k : Kd H v t) (hp : H p = some (.ins C dx fs)) (s : ∀ c o, H c = some o → c ≠ p → H' c = some o) : Kd H' v t := by
 cases k with
 | non => exact .non
 | bl b => exact .bl b
 | int i => exact .int i
 | str x => exact .str x
 | lst e => exact .lst (s _ _ e (fun z => by rw [z, hp] at e; cases e))
 | tup e => exact .tup (s _ _ e (fun z => by rw [z, hp] at e; cases e))
def sp_Sum_initX (G : Gz) (CB : Addr) : Sp := fun vs H _ E => ∃ (p dx : Addr) (v u : V), vs = [.ref p, v, u] ∧ H p = some (.ins G.U dx []) ∧ (BadJs H v ∨ ∃ (l : Addr) (js : List Int) (t : String), v = .ref l ∧ H l = some (.lst (js.map V.int)) ∧ js.Nodup ∧ 1 ≤ js.length ∧ js.length ≤ 4 ∧ (∀ j ∈ js, 0 ≤ j ∧ j ≤ 3) ∧ Kd H u t ∧ numB u 0 240 = false) ∧
 ∀ o H', (∀ c o, H c = some o → c ≠ p → H' c = some o) → E (.ref CB) o H'
theorem ok_Sum_initX {f : Addr} {fd : FuncData} (F : Fun K "__init__" "Sum.__init__" s_Sum_init f fd) (B : Bt mg) (C : CSu K G.U) (N : fb% 4 "jugs_in" ["jugs"] sp_jugs_in) (NX : fx% 4 "jugs_in" ["jugs"] (sp_jugs_inX CB)) (MX : fx% 2 "check_amount" ["many"] (sp_refuse CB 0 240)) :
   fo% (CX1 P w) 5 f fd ["self", "jugs", "many"] (sp_Sum_initX G CB) := by
 gok F.okX sc_Sum_init
 · obtain ⟨p, dx, v, u, rfl, _⟩ := h
   rfl
 · obtain ⟨p, dx, v, u, rfl, hp, hb, k⟩ := h
   rcases hb with hb | ⟨l, js, t, rfl, hl, hnd, l1, l4, hbj, ku, hu⟩
   · refine ⟨_, sK (ps_fld (pv 0) (eT cT (by rfl) B.tuple bt_tuple (pK (pe_fnX bdX xeX NX hr (pK (pv 1) pN)) pN)) rfl) sV, ?_⟩
     exact ⟨_, rfl, v, rfl, hb, fun o H' s' => k o H' fun c u e _ => s' c u e⟩
   refine ⟨_, sK (ps_fld (pv 0) (eT cT (by rfl) B.tuple bt_tuple (pK (eF N hr (pK (pv 1) pN)) pN)) rfl)
     (sK (ps_expr (pe_fnX bdX xeX MX (hr.mono (by decide)) (pK (pv 2) pN))) sV), ?_⟩
   refine ⟨_, rfl, l, js, rfl, hl, hnd, l1, l4, hbj, fun r H1 s1 hr1 => ?_⟩
   refine ⟨r, _, rfl, .inl ⟨SqL.of hr1, fun t' nt' => ?_⟩⟩
   have s2 : Same H (upd H1 t' (.tup (js.map V.int))) := s1.lay nt'
   refine ⟨_, rfl, p, G.U, dx, [], rfl, s2 _ _ hp, C.cl, C.jugs, (by show 0 < 1000; decide), ?_⟩
   have off : ∀ c o, H c = some o → c ≠ p → (upd (upd H1 t' (.tup (js.map V.int))) p (.ins G.U dx (putF "jugs" (.ref t') []))) c = some o := fun c o e hc => by rw [uN hc]; exact s2 _ _ e
   exact ⟨_, rfl, u, t, rfl, ku.off hp off, hu, k _ _ off⟩
def sp_Whole_initX (CB : Addr) : Sp := fun vs H _ E => ∃ p v, vs = [.ref p, v] ∧ BadAm H v ∧ ∀ o H', Same H H' → E (.ref CB) o H'
theorem ok_Whole_initX {f : Addr} {fd : FuncData} (F : Fun K "__init__" "Whole.__init__" s_Whole_init f fd) (B : Bt mg) (NX : fx% 2 "amounts_in" ["state"] (sp_amounts_inX CB)) : fo% (CX1 P w) 3 f fd ["self", "state"] (sp_Whole_initX CB) := by
 gok F.okX sc_Whole_init
 · obtain ⟨p, v, rfl, _⟩ := h
   rfl
 · obtain ⟨p, v, rfl, hb, k⟩ := h
   refine ⟨_, s1' (ps_fld (pv 0) (eT cT (by rfl) B.tuple bt_tuple (pK (pe_fnX bdX xeX NX hr (pK (pv 1) pN)) pN)) rfl), ?_⟩
   exact ⟨_, rfl, v, rfl, hb, k⟩
def sp_state_ofX (CH CG : Addr) : Sp := fun vs H _ E => ∃ p sz tap v, vs = [.ref p, v] ∧ House CH H p sz tap ∧ BadSt H sz v ∧ ∀ o H', Same H H' → E (.ref CG) o H'
theorem ok_check_state_ofX {f : Addr} {fd : FuncData} (F : Fun K "check_state_of" "check_state_of" s_check_state_of f fd) (XS : XC K mg "BadState" CS) (XG : XC K mg "BadGoal" CG) (hss : subIn K CS CS = true) (NX : fx% 2 "held_in" ["house", "state"] (sp_held_inX CH CS)) :
   fo% (CX1 P w) 3 f fd ["house", "state"] (sp_state_ofX CH CG) := by
 gok F.okX sc_check_state_of
 · obtain ⟨p, sz, tap, v, rfl, _⟩ := h
   rfl
 · obtain ⟨p, sz, tap, v, rfl, hh, hb, k⟩ := h
   refine ⟨_, s1' (ps_try_raise bdX xeX (psx_expr (px_fn NX hr (fun _ => pK (pv 0) (pK (pv 1) pN)))) XS XG), ?_⟩
   exact ⟨_, rfl, _, rfl, p, sz, tap, v, rfl, hh, hb, fun H' s' => ⟨CS, rfl, rfl, XS.ex, hss, fun x => k _ H' s'⟩⟩
end
end Jug
namespace Jug
open PySem L2
section
v5%
variable {CH CS CB CG : Addr} {Z : Cz} {G : Gz}
def sp_metX (G : Gz) (CH CB : Addr) (n : Nat) : Sp := fun vs H _ E => ∃ p h l sz tap g, vs = [.ref p, .ref h, .ref l] ∧ g.num = n ∧ GoAt G H p g ∧ House CH H h sz tap ∧ g.unfit sz ∧ ∀ o H', Same H H' → E (.ref CB) o H'
theorem ok_Holds_metX {f : Addr} {fd : FuncData} (F : Fun K "met_by" "Holds.met_by" s_Holds_met_by f fd) (C : CHo K G.H) (NX : fx% 2 "check_house_has_goals" ["house", "jug"] (sp_house_hasX CH CB)) :
   fo% (CX1 P w) 3 f fd ["self", "house", "held"] (sp_metX G CH CB 0) := by
 gok F.okX sc_Holds_met_by
 · obtain ⟨p, h, l, sz, tap, g, rfl, _⟩ := h
   rfl
 · obtain ⟨p, h, l, sz, tap, g, rfl, hn, hg, hh, hu, k⟩ := h
   cases g with
   | holds j m =>
     obtain ⟨dx, hp⟩ := hg
     refine ⟨_, sK (ps_expr (pe_fnX bdX xeX NX hr (pK (pv 1) (pK (pe_fld (pv 0) rfl) pN)))) sV, ?_⟩
     exact ⟨_, rfl, _, rfl, p, G.H, dx, _, _, rfl, hp, C.cl, C.jug, hoF_jug _ _, h, sz, tap, j, rfl, hh, hu, fun H1 s1 => k _ H1 s1⟩
   | som m => cases hn
   | sum js m => cases hn
   | whole t => cases hn
theorem ok_Whole_metX {f : Addr} {fd : FuncData} (F : Fun K "met_by" "Whole.met_by" s_Whole_met_by f fd) (C : CWh K G.W) (NX : fx% 3 "check_state_of" ["house", "state"] (sp_state_ofX CH CB)) :
   fo% (CX1 P w) 4 f fd ["self", "house", "held"] (sp_metX G CH CB 3) := by
 gok F.okX sc_Whole_met_by
 · obtain ⟨p, h, l, sz, tap, g, rfl, _⟩ := h
   rfl
 · obtain ⟨p, h, l, sz, tap, g, rfl, hn, hg, hh, hu, k⟩ := h
   cases g with
   | whole t =>
     obtain ⟨dx, a, hp, ha⟩ := hg
     refine ⟨_, sK (ps_expr (pe_fnX bdX xeX NX hr (pK (pv 1) (pK (pe_fld (pv 0) rfl) pN)))) sV, ?_⟩
     refine ⟨_, rfl, _, rfl, p, G.W, dx, _, _, rfl, hp, C.cl, C.state, whF_state _, h, sz, tap, .ref a, rfl, hh, .inr ⟨a, _, rfl, ha, fun x hx => ?_, hu⟩, k⟩
     obtain ⟨z, _, rfl⟩ := List.mem_map.mp hx
     exact .int z
   | holds j m => cases hn
   | som m => cases hn
   | sum js m => cases hn
theorem ok_Sum_metX {f : Addr} {fd : FuncData} (F : Fun K "met_by" "Sum.met_by" s_Sum_met_by f fd) (C : CSu K G.U) (N : fx% 2 "check_house_has_goals" ["house", "jug"] (fun vs H Q E => sp_check_house_has CH vs H Q E ∨ sp_house_hasX CH CB vs H Q E)) :
   fo% (CX1 P w) 3 f fd ["self", "house", "held"] (sp_metX G CH CB 2) := by
 gok F.okX sc_Sum_met_by
 · obtain ⟨p, h, l, sz, tap, g, rfl, _⟩ := h
   rfl
 · obtain ⟨p, h, l, sz, tap, g, rfl, hn, hg, hh, hu, k⟩ := h
   cases g with
   | sum js m =>
     obtain ⟨dx, a, hp, ha⟩ := hg
     obtain ⟨h0, j0, hj0, hb0⟩ := hu
     have nd := sc_Sum_met_by.nd
     refine ⟨_, sK (ps_for ownX rfl (pi_tup (pe_fld (pv 0) rfl)) (pg_name (i := 3) nd rfl (Or.inl rfl)) (s1' (ps_expr (pe_fnX bdX xeX N hr (pK (pv 1) (pK (pv 3) pN)))))) sV, ?_⟩
     refine ⟨_, rfl, p, G.U, dx, _, _, rfl, hp, C.cl, C.jugs, suF_jugs _ _, a, rfl, ⟨_, SqT.of ha⟩, for_tup (K := K) (a := a) (xs := js.map V.int) (fun i σ H' => (∃ v, σ = [some (.ref p), some (.ref h), some (.ref l), v] ∧ Same H H') ∧ ∀ (n : Nat) z, n < i → js[n]? = some z → z < sz.length)
       ⟨⟨none, rfl, Same.refl _⟩, fun n z h => absurd h (Nat.not_lt_zero _)⟩ (fun i σ H' _ ⟨⟨_, _, s1⟩, _⟩ => SqT.of (s1 _ _ ha)) ?_ ?_⟩
     · rintro i x σ H' hx ⟨⟨v, rfl, s1⟩, ih⟩
       obtain ⟨z, ez, rfl⟩ := mem_ints hx
       obtain ⟨j, rfl⟩ : ∃ j : Nat, z = (j : Int) := ⟨z.toNat, (Int.toNat_of_nonneg (h0 z (List.mem_of_getElem? ez))).symm⟩
       refine ⟨_, rfl, _, rfl, ?_⟩
       by_cases hj : j < sz.length
       · refine .inl ⟨h, sz, tap, j, rfl, hh.mono s1, hj, fun H2 s2 => ⟨⟨_, rfl, s1.trans s2⟩, fun n z hn en => ?_⟩⟩
         rcases Nat.lt_succ_iff_lt_or_eq.mp hn with hn | rfl
         · exact ih n z hn en
         · rw [ez] at en; cases en; omega
       · exact .inr ⟨h, sz, tap, j, rfl, hh.mono s1, by omega, fun H2 s2 => k _ H2 (s1.trans s2)⟩
     · rintro σ H' ⟨_, ih⟩
       obtain ⟨n, hn⟩ := List.getElem?_of_mem hj0
       have := ih n j0 (by rw [List.length_map]; exact (List.getElem?_eq_some_iff.mp hn).1) hn
       omega
   | holds j m => cases hn
   | som m => cases hn
   | whole t => cases hn
def sp_comeX (G : Gz) (CH CS CB : Addr) : Sp := fun vs H _ E => ∃ p h v sz tap g, vs = [.ref p, .ref h, v] ∧ GoAt G H p g ∧ House CH H h sz tap ∧
 ((BadSt H sz v ∧ ∀ o H', Same H H' → E (.ref CS) o H') ∨ ∃ a st, v = .ref a ∧ H a = some (.tup (st.map V.int)) ∧ J.IsSt sz st ∧ g.unfit sz ∧ ∀ o H', Same H H' → E (.ref CB) o H')
theorem ok_comeX {f : Addr} {fd : FuncData} (F : Fun K "come" "Goal.come" s_Goal_come f fd) (HI : fb% 2 "held_in" ["house", "state"] (sp_held_in CH)) (HX : fx% 2 "held_in" ["house", "state"] (sp_held_inX CH CS)) (M0 : mx% 4 G.H "met_by" ["self", "house", "held"] (sp_metX G CH CB 0))
   (M2 : mx% 4 G.U "met_by" ["self", "house", "held"] (sp_metX G CH CB 2)) (M3 : mx% 4 G.W "met_by" ["self", "house", "held"] (sp_metX G CH CB 3)) :
   fo% (CX1 P w) 5 f fd ["self", "house", "state"] (sp_comeX G CH CS CB) := by
 gok F.okX sc_Goal_come
 · obtain ⟨p, h, v, sz, tap, g, rfl, _⟩ := h
   rfl
 · obtain ⟨p, h, v, sz, tap, g, rfl, hg, hh, hb⟩ := h
   have nd := sc_Goal_come.nd
   have hr2 : Room 2 _ := hr.mono (by decide)
   rcases hb with ⟨hb, k⟩ | ⟨a, st, rfl, ha, hst, hu, k⟩
   · refine ⟨_, sK (sS (i := 3) nd rfl (Or.inl rfl) (pe_fnX bdX xeX HX hr2 (pK (pv 1) (pK (pv 2) pN)))) sV, ?_⟩
     exact ⟨_, rfl, _, rfl, h, sz, tap, v, rfl, hh, hb, fun H' s' => k _ H' s'⟩
   cases g with
   | holds j m =>
     refine ⟨_, sK (sS (i := 3) nd rfl (Or.inl rfl) (eF HI hr2 (pK (pv 1) (pK (pv 2) pN)))) (s1' (sR (pe_meX bdX xeX M0 (pv 0) hr (pK (pv 1) (pK (pv 3) pN))))), ?_⟩
     refine ⟨_, rfl, _, rfl, h, sz, tap, a, st, rfl, hh, ha, hst, fun l H1 s1 _ hl => ?_⟩
     obtain ⟨dx, hp⟩ := hg.mono s1
     exact ⟨_, rfl, p, dx, _, rfl, hp, hoF_no _ _ (by decide +kernel) (by decide +kernel), _, rfl, _, rfl, p, h, l, sz, tap, .holds j m, rfl, rfl, ⟨dx, hp⟩, hh.mono s1, hu, fun o H2 s2 => k o _ (s1.trans s2)⟩
   | som m => exact hu.elim
   | sum js m =>
     refine ⟨_, sK (sS (i := 3) nd rfl (Or.inl rfl) (eF HI hr2 (pK (pv 1) (pK (pv 2) pN)))) (s1' (sR (pe_meX bdX xeX M2 (pv 0) hr (pK (pv 1) (pK (pv 3) pN))))), ?_⟩
     refine ⟨_, rfl, _, rfl, h, sz, tap, a, st, rfl, hh, ha, hst, fun l H1 s1 _ hl => ?_⟩
     obtain ⟨dx, t, hp, ht⟩ := hg.mono s1
     exact ⟨_, rfl, p, dx, _, rfl, hp, suF_no _ _ (by decide +kernel) (by decide +kernel), _, rfl, _, rfl, p, h, l, sz, tap, .sum js m, rfl, rfl, ⟨dx, t, hp, ht⟩, hh.mono s1, hu, fun o H2 s2 => k o _ (s1.trans s2)⟩
   | whole t =>
     refine ⟨_, sK (sS (i := 3) nd rfl (Or.inl rfl) (eF HI hr2 (pK (pv 1) (pK (pv 2) pN)))) (s1' (sR (pe_meX bdX xeX M3 (pv 0) hr (pK (pv 1) (pK (pv 3) pN))))), ?_⟩
     refine ⟨_, rfl, _, rfl, h, sz, tap, a, st, rfl, hh, ha, hst, fun l H1 s1 _ hl => ?_⟩
     obtain ⟨dx, t', hp, ht⟩ := hg.mono s1
     exact ⟨_, rfl, p, dx, _, rfl, hp, whF_no _ (by decide +kernel), _, rfl, _, rfl, p, h, l, sz, tap, .whole t, rfl, rfl, ⟨dx, t', hp, ht⟩, hh.mono s1, hu, fun o H2 s2 => k o _ (s1.trans s2)⟩
def sp_check_goalX (CB : Addr) : Sp := fun vs H _ E => ∃ v t, vs = [v] ∧ Kd H v t ∧ ∀ o H', Same H H' → E (.ref CB) o H'
theorem ok_check_goalX {f : Addr} {fd : FuncData} (F : Fun K "check_goal" "check_goal" s_check_goal f fd) (B : Bt mg) (M : GoC K mg G CG) (NG : NoGo K G) (X : XC K mg "BadGoal" CB) : fo% (CX1 P w) 1 f fd ["goal"] (sp_check_goalX CB) := by
 gok F.okX sc_check_goal
 · obtain ⟨v, t, rfl, _⟩ := h
   rfl
 · obtain ⟨v, t, rfl, kd, k⟩ := h
   refine ⟨_, s1' (ps_if (pt_not (pt_val (eZ call_isinstT (by rfl) B.isinstance bI (pK (pv 0) (pK (pe_tup (pK (pe_glob (v := .ref G.H) (by rfl) M.gH rfl) (pK (pe_glob (v := .ref G.S) (by rfl) M.gS rfl) (pK (pe_glob (v := .ref G.U) (by rfl) M.gU rfl)
     (pK (pe_glob (v := .ref G.W) (by rfl) M.gW rfl) pN))))) pN))))) (s1' (ps_raise bdX xeX rfl X)) sN), ?_⟩
   refine ⟨_, rfl, (z% 4), fun tp nt => ?_⟩
   exact ⟨_, tp, _, _, _, _, rfl, uS, .cons (.ref _) (.cons (.ref _) (.cons (.ref _) (.cons (.ref _) .nil))), (kd.mono (Same.new nt)).ty, NG.of kd, _, rfl, iteT (k _ _ (Same.new nt))⟩
def sp_nearestX (Z : Cz) (G : Gz) (CH CB : Addr) : Sp := fun vs H _ E => ∃ (h d p : Addr) (sz : List Int) (tap : Bool) (g : Go) (kvs : List (List Key × V)) (W : List J.Way), vs = [.ref h, .ref d, .ref p] ∧ House CH H h sz tap ∧ GoAt G H p g ∧ g.unfit sz ∧ H d = some (.dT kvs) ∧ WD Z H W kvs W ∧ (∀ x ∈ W, J.IsSt sz x.1) ∧ W ≠ [] ∧
 ∀ o H', SameB d H H' → E (.ref CB) o H'
theorem ok_nearestX {f : Addr} {fd : FuncData} (F : Fun K "nearest" "nearest" s_nearest f fd) (CM : ∀ C, anyGo G C → mx% 5 C "come" ["self", "house", "state"] (sp_comeX G CH CS CB)) : fo% (CX1 P w) 6 f fd ["house", "ways", "goal"] (sp_nearestX Z G CH CB) := by
 gok F.okX sc_nearest
 · obtain ⟨h, d, p, sz, tap, g, kvs, W, rfl, _⟩ := h
   rfl
 · obtain ⟨h, d, p, sz, tap, g, kvs, W, rfl, hh, hg, hu, hd, wd, hst, hne, k⟩ := h
   refine ⟨_, sK (ps_for ownX rfl (pi_dt (pv 1)) (pg_name (i := 3) sc_nearest.nd rfl (Or.inl rfl))
       (s1' (ps_if (pt_val (pe_meUX bdX xeX CM (pv 2) hr (pK (pv 0) (pK (pv 3) pN)))) sV sN))) sV, ?_⟩
   refine ⟨_, rfl, d, kvs, rfl, .inl ⟨hd, fun o => for_dt (a := d) (kvs := kvs) (o := o) (fun i σ H' => i = 0 ∧ ∃ v3 : Option V, σ = [some (.ref h), some (.ref d), some (.ref p), v3] ∧ SameB d H H' ∧ H' d = some (.frz o (.dT kvs)))
     ⟨rfl, none, rfl, fun b c e hb => by rw [uN hb]; exact e, uS⟩ (fun i σ H' _ ⟨_, _, _, _, e⟩ => e) ?_ ?_⟩⟩
   · rintro i k' v b σ H' hk hb ⟨hi, v3, rfl, s4, ed⟩
     obtain ⟨x, hx, ek, _⟩ := L2.Paired.get wd hk
     have ek' : k' = kOf x.1 := ek
     rw [ek', kOf_map] at hb
     have fb : ∀ {b c}, H b = some c → fx c = true → H' b = some c := fun {b c} e f => s4 b c e (ne_of_fx e hd f)
     have hg4 : GoAt G H' p g := hg.fix fun c o e f => fb e f
     have hh4 : House CH H' h sz tap := hh.fix fun c o e f => fb e f
     obtain ⟨dx, fs, hp, hno⟩ := hg4.no
     refine ⟨_, rfl, G.cl g, p, dx, fs, anyGo.of G g, rfl, hp, hno, _, rfl, _, rfl, p, h, _, sz, tap, g, rfl, hg4, hh4, .inr ⟨b, x.1, rfl, hb, hst x (List.mem_of_getElem? hx), hu, fun o' H5 s5 => k o' H5 fun c o e hc => s5 _ _ (s4 c o e hc)⟩⟩
   · rintro σ H' ⟨hi, _⟩
     have := wd.length
     exact absurd (List.length_eq_zero_iff.mp (show W.length = 0 by omega)) hne
def sp_fewestX (G : Gz) (CH CS CB : Addr) : Sp := fun vs H _ E => ∃ h v u sz tap, vs = [.ref h, v, u] ∧ House CH H h sz tap ∧ ((BadSt H sz v ∧ ∀ o H', Same H H' → E (.ref CS) o H') ∨ ∃ a st, v = .ref a ∧ H a = some (.tup (st.map V.int)) ∧ J.IsSt sz st ∧
 ((∃ t, Kd H u t ∧ ∀ o H', Same H H' → E (.ref CB) o H') ∨ ∃ p g, u = .ref p ∧ Hz sz ∧ GoAt G H p g ∧ g.unfit sz ∧ ∀ o H', Same H H' → E (.ref CB) o H'))
theorem ok_fewestX {f : Addr} {fd : FuncData} (F : Fun K "fewest" "fewest" s_fewest f fd) (HI : fb% 2 "held_in" ["house", "state"] (sp_held_in CH)) (HX : fx% 2 "held_in" ["house", "state"] (sp_held_inX CH CS)) (CK : fb% 1 "check_goal" ["goal"] (sp_check_goal G))
   (CX : fx% 1 "check_goal" ["goal"] (sp_check_goalX CB)) (WY : fb% 8 "ways_from" ["house", "state"] (sp_ways Z CH)) (NE : fx% 6 "nearest" ["house", "ways", "goal"] (sp_nearestX Z G CH CB)) : fo% (CX1 P w) 9 f fd ["house", "state", "goal"] (sp_fewestX G CH CS CB) := by
 gok F.okX sc_fewest
 · obtain ⟨h, v, u, sz, tap, rfl, _⟩ := h
   rfl
 · obtain ⟨h, v, u, sz, tap, rfl, hh, hb⟩ := h
   rcases hb with ⟨hb, k⟩ | ⟨a, st, rfl, ha, hst, hb⟩
   · refine ⟨_, sK (ps_expr (pe_fnX bdX xeX HX (hr.mono (by decide)) (pK (pv 0) (pK (pv 1) pN)))) sV, ?_⟩
     exact ⟨_, rfl, _, rfl, h, sz, tap, v, rfl, hh, hb, fun H' s' => k _ H' s'⟩
   rcases hb with ⟨t, kd, k⟩ | ⟨p, g, rfl, hz, hg, hu, k⟩
   · refine ⟨_, sK (ps_expr (eF HI (hr.mono (by decide)) (pK (pv 0) (pK (pv 1) pN)))) (sK (ps_expr (pe_fnX bdX xeX CX (hr.mono (by decide)) (pK (pv 2) pN))) sV), ?_⟩
     refine ⟨_, rfl, _, rfl, h, sz, tap, a, st, rfl, hh, ha, hst, fun y H1 s1 ny ey => ?_⟩
     exact ⟨_, rfl, u, t, rfl, kd.mono s1, fun o H' s' => k o H' (s1.trans s')⟩
   · refine ⟨_, sK (ps_expr (eF HI (hr.mono (by decide)) (pK (pv 0) (pK (pv 1) pN))))
       (sK (ps_expr (eF CK (hr.mono (by decide)) (pK (pv 2) pN)))
       (sK (sS (i := 3) sc_fewest.nd rfl (Or.inl rfl) (eF WY hr (pK (pv 0) (pK (pv 1) pN))))
       (sK (sS (i := 4) sc_fewest.nd rfl (Or.inl rfl) (pe_fnX bdX xeX NE (hr.mono (by decide)) (pK (pv 0) (pK (pv 3) (pK (pv 2) pN))))) sV))), ?_⟩
     have hgd := J.good_moves (tap := tap) hz.nn
     have wi := J.ways_inv hgd hst
     refine ⟨_, rfl, _, rfl, h, sz, tap, a, st, rfl, hh, ha, hst, fun y H1 s1 ny ey => ?_⟩
     refine ⟨_, rfl, p, g, rfl, hg.mono s1, fun H2 s2 => ?_⟩
     have s12 := s1.trans s2
     refine ⟨_, rfl, _, rfl, h, a, sz, tap, st, rfl, hh.mono s12, hz, s12 _ _ ha, hst, fun d H3 kvs s3 nd e3 wd => ?_⟩
     have s13 := s12.trans s3
     have nd0 : H d = none := by
       cases e : H d with
       | none => rfl
       | some o => have := s12 _ _ e; rw [nd] at this; cases this
     refine ⟨_, rfl, _, rfl, _, rfl, h, d, p, sz, tap, g, kvs, _, rfl, hh.mono s13, hg.mono s13, hu, e3, wd, wi.sts, fun e => ?_, fun o H4 s4 => k o H4 fun c u e => s4 c u (s13 _ _ e) (nN e nd0)⟩
     have := wi.hd
     rw [e] at this
     cases this
end
end Jug
namespace Jug
open PySem L2
structure Ez where
 B : Addr
 S : Addr
 M : Addr
 G : Addr
 T : Addr
 J : Addr
def Ez.at (z : Ez) : Nat → Addr
 | 0 => z.B
 | 1 => z.S
 | 2 => z.M
 | _ => z.G
def dueL (n : Nat) : List Bool := [decide (n = 0), decide (n = 1), decide (n = 2), decide (n = 3), false, true]
structure EzC (K : W.Frag) (mg : Str → Option Value) (z : Ez) : Prop where
 xB : XC K mg "BadHouse" z.B
 xS : XC K mg "BadState" z.S
 xM : XC K mg "BadMove" z.M
 xG : XC K mg "BadGoal" z.G
 xJ : XC K mg "JugError" z.J
 gT : mg "BadText" = some (.ref z.T)
 ve : mg "ValueError" = none
 ex : ∀ n, n < 4 → W.excIn K (z.at n) bmV "ValueError.__new__" = true
 cl : ∀ n, n < 4 → ExcCls K (z.at n)
 sub : ∀ n, n < 4 → subIn K (z.at n) z.J = true
 kB : ∀ n, n < 4 → W.kitOne K (.ref (z.at n)) (.ref z.B) = some (decide (n = 0))
 kS : ∀ n, n < 4 → W.kitOne K (.ref (z.at n)) (.ref z.S) = some (decide (n = 1))
 kM : ∀ n, n < 4 → W.kitOne K (.ref (z.at n)) (.ref z.M) = some (decide (n = 2))
 kG : ∀ n, n < 4 → W.kitOne K (.ref (z.at n)) (.ref z.G) = some (decide (n = 3))
 kT : ∀ n, n < 4 → W.kitOne K (.ref (z.at n)) (.ref z.T) = some false
 kV : ∀ n, n < 4 → W.kitOne K (.ref (z.at n)) (.type "ValueError") = some true
theorem bt_ValueError : bootBuiltins "ValueError" = some (.type "ValueError") := by decide +kernel
theorem bdN {CX : CXT} {P : Program} {w : World} {K : W.Frag} {mg : Str → Option Value} {base : Heap} {N : List Str} {qual : Str} {sc : Scope} {f : Addr} {cd : Value} {A : Around} {outer : List Env} {s : Shared} {H : Hp} {E : XK} : Body (cxOf CX P w K mg base N qual sc f cd A outer s H E).nox := ⟨rfl, rfl, rfl, fun _ => rfl⟩
section
v5%
variable {CH CS CB CG : Addr} {Z : Cz} {G : Gz} {z : Ez}
def sp_kinds (z : Ez) : Sp := fun vs H Q _ => ∃ x n, vs = [.ref x] ∧ n < 4 ∧ H x = some (xO (z.at n) x) ∧ ∀ l H', Same H H' → H' l = some (.lst ((dueL n).map V.bl)) → Q (.ref l) H'
theorem ok_kinds {f : Addr} {fd : FuncData} (F : Fun K "_law_kinds" "_law_kinds" s__law_kinds f fd) (B : Bt mg) (X : EzC K mg z) : FnOkH P w K mg base 1 f fd ["_law_error"] (sp_kinds z) := by
 refine F.okH sc__law_kinds (fun vs H Q E h => ?_) (fun cdv A outer s H vs Q E h => ?_)
 · obtain ⟨x, n, rfl, _⟩ := h
   rfl
 · obtain ⟨x, n, rfl, hn, hx, k⟩ := h
   refine ⟨_, sK (sS (i := 1) sc__law_kinds.nd rfl (Or.inl rfl) (pe_lst (pK (eZ call_isinstE (by rfl) B.isinstance bI (pK (pv 0) (pK (pe_glob (v := .ref z.B) (by rfl) X.xB.g rfl) pN)))
       (pK (eZ call_isinstE (by rfl) B.isinstance bI (pK (pv 0) (pK (pe_glob (v := .ref z.S) (by rfl) X.xS.g rfl) pN)))
       (pK (eZ call_isinstE (by rfl) B.isinstance bI (pK (pv 0) (pK (pe_glob (v := .ref z.M) (by rfl) X.xM.g rfl) pN))) pN)))))
     (s1' (sR (pe_op op_cat (pv 1) (pe_lst (pK (eZ call_isinstE (by rfl) B.isinstance bI (pK (pv 0) (pK (pe_glob (v := .ref z.G) (by rfl) X.xG.g rfl) pN)))
       (pK (eZ call_isinstE (by rfl) B.isinstance bI (pK (pv 0) (pK (pe_glob (v := .ref z.T) (by rfl) X.gT rfl) pN)))
       (pK (eZ call_isinstE (by rfl) B.isinstance bI (pK (pv 0) (pK (pe_bltn (v := .ty "ValueError") (by rfl) X.ve bt_ValueError rfl) pN))) pN))))))), ?_⟩
   refine ⟨_, rfl, x, z.at n, _, _, _, rfl, .ref _, hx, X.cl n hn, X.kB n hn, _, rfl, x, z.at n, _, _, _, rfl, .ref _, hx, X.cl n hn, X.kS n hn, _, rfl, x, z.at n, _, _, _, rfl, .ref _, hx, X.cl n hn, X.kM n hn, (z% 3), fun l nl => ?_⟩
   have s1 : Same H (upd H l (.lst [.bl (decide (n = 0)), .bl (decide (n = 1)), .bl (decide (n = 2))])) := Same.new nl
   have hx1 := s1 _ _ hx
   refine ⟨_, rfl, _, rfl, x, z.at n, _, _, _, rfl, .ref _, hx1, X.cl n hn, X.kG n hn, _, rfl, x, z.at n, _, _, _, rfl, .ref _, hx1, X.cl n hn, X.kT n hn, _, rfl, x, z.at n, _, _, _, rfl, .ty "ValueError", hx1, X.cl n hn, X.kV n hn, (z% 3), fun m nm => ?_⟩
   refine ⟨l, m, _, _, rfl, rfl, Same.new nm _ _ uS, uS, (z% 6), fun p np => k p _ ((s1.lay nm).lay np) uS⟩
def Asks (P : Program) (w : World) (K : W.Frag) (mg : Str → Option Value) (base : Heap) (k : Nat) (z : Ez) (n : Nat) (H : Hp) (f : Addr) (v u : V) : Prop :=
 ∀ H1, Same H H1 → Fnal K H1 f ∧ ∀ Q E, (∀ o H', Same H1 H' → E (.ref (z.at n)) o H') → Callee P w K mg base k f [v, u] H1 Q E
theorem Asks.mono {k n : Nat} {H H' : Hp} {f : Addr} {v u : V} (h : Asks P w K mg base k z n H f v u) (s : Same H H') : Asks P w K mg base k z n H' f v u := fun H1 s1 => h H1 (s.trans s1)
theorem Asks.of {k n : Nat} {H : Hp} {f : Addr} {fd : FuncData} {ps : List Str} {sp : Sp} {v u : V} (F : fo% (CX1 P w) k f fd ps sp) (hk : W.keepIn K (.ref f) = true) (hb : Binds K fd ps [])
   (h : ∀ H1, Same H H1 → ∀ Q E, (∀ o H', Same H1 H' → E (.ref (z.at n)) o H') → sp [v, u] H1 Q E) : Asks P w K mg base k z n H f v u := fun H1 s1 => ⟨.inl hk, fun Q E hE => .of F hb (h H1 s1 Q E hE)⟩
def sp_told (P : Program) (w : World) (K : W.Frag) (mg : Str → Option Value) (base : Heap) (k : Nat) (z : Ez) : Sp := fun vs H Q _ => ∃ f n v u, vs = [.ref f, v, u] ∧ n < 4 ∧ Asks P w K mg base k z n H f v u ∧ ∀ l H', Same H H' → H' l = some (.lst ((dueL n).map V.bl)) → Q (.ref l) H'
theorem ok_told {f : Addr} {fd : FuncData} {k : Nat} (F : Fun K "_law_told" "_law_told" s__law_told f fd) (X : EzC K mg z) (NK : FnH P w K mg base 1 "_law_kinds" ["_law_error"] (sp_kinds z)) : fo% CX0 (k + 2) f fd ["_law_ask", "_law_one", "_law_other"] (sp_told P w K mg base (k + 1) z) := by
 gok F.ok sc__law_told
 · obtain ⟨f, n, v, u, rfl, _⟩ := h
   rfl
 · obtain ⟨f, n, v, u, rfl, hn, ha, kk⟩ := h
   have hr1 : Room 1 _ := hr.mono (by omega)
   refine ⟨_, sK (ps_try_as (i := 3) bdN (psx_expr (px_ask (i := 0) (k := k + 1) rfl (Or.inl rfl) hr (fun _ => pK (pv 1) (pK (pv 2) pN)))) X.xJ sc__law_told.nd rfl rfl
     (fun x E' => s1' (sR (pe_fnH NK ⟨rfl, hr1.dp, hr1.un⟩ (pK (pv 3) pN))))) sV, ?_⟩
   obtain ⟨fn, ca⟩ := ha H (Same.refl _)
   refine ⟨f, rfl, _, rfl, _, rfl, fn, ca _ _ fun o H' s' => ⟨z.at n, rfl, X.ex n hn, X.sub n hn, fun x hx => ?_⟩⟩
   exact ⟨_, rfl, x, n, rfl, hn, uS, fun l H2 s2 e2 => kk l H2 ((s'.lay hx).trans s2) e2⟩
def sp_all (P : Program) (w : World) (K : W.Frag) (mg : Str → Option Value) (base : Heap) (k : Nat) (z : Ez) : Sp := fun vs H Q _ => ∃ f d t e n ds ts, vs = [.ref f, .ref d, .ref t, .ref e] ∧ n < 4 ∧ H d = some (.lst ds) ∧ H t = some (.lst ts) ∧ H e = some (.lst ((dueL n).map V.bl)) ∧
 (∀ v ∈ ds, ∀ u ∈ ts, Asks P w K mg base k z n H f v u) ∧ ∀ H', Same H H' → Q (.bl true) H'
theorem ok_all {f : Addr} {fd : FuncData} {k : Nat} (F : Fun K "_law_all" "_law_all" s__law_all f fd) (T : fb% (k + 2) "_law_told" ["_law_ask", "_law_one", "_law_other"] (sp_told P w K mg base (k + 1) z)) : fo% CX0 (k + 3) f fd ["_law_ask", "_law_doors", "_law_things", "_law_due"] (sp_all P w K mg base (k + 1) z) := by
 gok F.ok sc__law_all
 · obtain ⟨f, d, t, e, n, ds, ts, rfl, _⟩ := h
   rfl
 · obtain ⟨f, d, t, e, n, ds, ts, rfl, hn, hd, ht, he, ha, kk⟩ := h
   have nd := sc__law_all.nd
   refine ⟨_, sK (ps_for PassesOwn.never rfl (pi_list (pv 1)) (pg_name (i := 4) nd rfl (Or.inl rfl))
       (s1' (ps_for PassesOwn.never rfl (pi_list (pv 2)) (pg_name (i := 5) nd rfl (Or.inl rfl))
         (s1' (ps_if (pt_cmpR (op_neD hr.u20) (eF T hr (pK (pv 0) (pK (pv 4) (pK (pv 5) pN)))) (pv 3) (nomark _)) (s1' (sR pe_bl)) sN)))))
     (s1' (sR pe_bl)), ?_⟩
   refine ⟨_, rfl, d, rfl, ⟨_, SqL.of hd⟩, for_list (K := K) (a := d) (xs := ds) (fun i σ H' => ∃ v4 v5, σ = [some (.ref f), some (.ref d), some (.ref t), some (.ref e), v4, v5] ∧ Same H H')
     ⟨none, none, rfl, Same.refl _⟩ (fun i σ H' _ ⟨_, _, _, s1⟩ => SqL.of (s1 _ _ hd)) ?_ ?_⟩
   · rintro i v σ H1 hv ⟨v4, v5, rfl, s1⟩
     refine ⟨_, rfl, t, rfl, ⟨_, SqL.of (s1 _ _ ht)⟩, for_list (K := K) (a := t) (xs := ts) (fun j σ H' => ∃ v5, σ = [some (.ref f), some (.ref d), some (.ref t), some (.ref e), some v, v5] ∧ Same H H')
       ⟨_, rfl, s1⟩ (fun i σ H' _ ⟨_, _, s1⟩ => SqL.of (s1 _ _ ht)) ?_ ?_⟩
     · rintro j u σ H2 hu ⟨v5, rfl, s2⟩
       refine ⟨_, rfl, _, rfl, _, rfl, f, n, v, u, rfl, hn, (ha v (List.mem_of_getElem? hv) u (List.mem_of_getElem? hu)).mono s2, fun l H3 s3 e3 => ?_⟩
       refine ⟨_, rfl, _, rcB e3 ((s2.trans s3) _ _ he), _, rfl, ?_⟩
       rw [decide_eq_true rfl]
       exact iteF ⟨_, rfl, s2.trans s3⟩
     · rintro σ H2 ⟨v5, rfl, s2⟩
       exact ⟨_, _, rfl, s2⟩
   · rintro σ H1 ⟨v4, v5, rfl, s1⟩
     exact kk H1 s1
end
end Jug
namespace Jug
open PySem L2
theorem iteN {c A B : Prop} [Decidable c] (hc : ¬ c) (h : B) : if (decide c) = true then A else B := by
 rw [decide_eq_false hc]; exact iteF h
theorem iteY {c A B : Prop} [Decidable c] (hc : c) (h : A) : if (decide c) = true then A else B := by
 rw [decide_eq_true hc]; exact iteT h
theorem mkSame {H H' : Hp} {p dx C : Addr} (np : H p = none) (ndx : H dx = none) (kp : ∀ c o, (upd (upd H dx (.own p)) p (.ins C dx [])) c = some o → c ≠ p → H' c = some o) : Same H H' :=
 fun c o e => kp c o (by rw [uN (nN e np), uN (nN e ndx)]; exact e) (nN e np)
theorem lsSame {H : Hp} {p dx C : Addr} (np : H p = none) (ndx : H dx = none) : Same H (upd (upd H dx (.own p)) p (.ins C dx [])) := fun c u e => by rw [uN (nN e np), uN (nN e ndx)]; exact e
def MK (C : Addr) (sp : Sp) (E : XK) (vs : List V) (H : Hp) (Q : Addr → Hp → Prop) : Prop := ∀ x dx, H x = none → H dx = none → dx ≠ x → sp (.ref x :: (vs ++ [])) (upd (upd H dx (.own x)) x (.ins C dx [])) (fun v H2 => v = .non ∧ Q x H2) E
section
variable {CH CB : Addr} {Z : Cz} {G : Gz} {E : XK} {H : Hp} {Q : Addr → Hp → Prop}
theorem mk_house {l : Addr} {sz : List Int} {tap : Bool} (hl : H l = some (.lst (sz.map V.int))) (hz : Hz sz) (k : ∀ p H', Same H H' → House CH H' p sz tap → Q p H') : MK CH (sp_House_init CH) E [.ref l, .bl tap] H Q :=
 fun x dx nx nd _ => ⟨x, dx, l, sz, tap, rfl, uS, lsSame nx nd _ _ hl, hz, fun H' kp hh => ⟨rfl, k x H' (mkSame nx nd kp) hh⟩⟩
theorem mk_houseX {v u : V} (hb : BadSz H v ∨ ∃ l sz t, v = .ref l ∧ H l = some (.lst (sz.map V.int)) ∧ Hz sz ∧ Kd H u t ∧ t ≠ "bool") (k : ∀ o H', Same H H' → E (.ref CB) o H') : MK CH (sp_House_initX CH CB) E [v, u] H Q :=
 fun x dx nx nd _ => ⟨x, dx, v, u, rfl, uS, hb.imp (fun b => b.mono (lsSame nx nd)) (fun ⟨l, sz, t, e, hl, hz, ku, n⟩ => ⟨l, sz, t, e, lsSame nx nd _ _ hl, hz, ku.mono (lsSame nx nd), n⟩), fun o H' kp => k o H' (mkSame nx nd kp)⟩
theorem mk_pour {a b : Nat} (ha : a ≤ 3) (hb : b ≤ 3) (hab : a ≠ b) (k : ∀ p H', Same H H' → MvAt Z H' p (.pour a b) → Q p H') : MK Z.P (sp_Pour_init Z) E [.int a, .int b] H Q :=
 fun x dx nx nd _ => ⟨x, dx, a, b, rfl, uS, ha, hb, hab, fun H' kp e => ⟨rfl, k x H' (mkSame nx nd kp) ⟨dx, e⟩⟩⟩
theorem mk_fill {a : Nat} (ha : a ≤ 3) (k : ∀ p H', Same H H' → MvAt Z H' p (.fill a) → Q p H') : MK Z.F (sp_jug_init Z.F) E [.int a] H Q :=
 fun x dx nx nd _ => ⟨x, dx, a, rfl, uS, ha, fun H' kp e => ⟨rfl, k x H' (mkSame nx nd kp) ⟨dx, e⟩⟩⟩
theorem mk_emp {a : Nat} (ha : a ≤ 3) (k : ∀ p H', Same H H' → MvAt Z H' p (.emp a) → Q p H') : MK Z.E (sp_jug_init Z.E) E [.int a] H Q :=
 fun x dx nx nd _ => ⟨x, dx, a, rfl, uS, ha, fun H' kp e => ⟨rfl, k x H' (mkSame nx nd kp) ⟨dx, e⟩⟩⟩
theorem mk_pourX {v u : V} {tv tu : String} {C : Addr} (kv : Kd H v tv) (ku : Kd H u tu) (hb : numB v 0 3 = false ∨ ∃ a : Nat, v = .int a ∧ a ≤ 3 ∧ (numB u 0 3 = false ∨ u = .int a)) (k : ∀ o H', Same H H' → E (.ref CB) o H') : MK C (sp_Pour_initX CB) E [v, u] H Q :=
 fun x dx nx nd _ => ⟨x, v, u, tv, tu, rfl, kv.mono (lsSame nx nd), ku.mono (lsSame nx nd), hb, fun o H' s' => k o H' ((lsSame nx nd).trans s')⟩
theorem mk_jugX {v : V} {tv : String} {C : Addr} (kv : Kd H v tv) (hb : numB v 0 3 = false) (k : ∀ o H', Same H H' → E (.ref CB) o H') : MK C (sp_jug_initX CB) E [v] H Q :=
 fun x dx nx nd _ => ⟨x, v, tv, rfl, kv.mono (lsSame nx nd), hb, fun o H' s' => k o H' ((lsSame nx nd).trans s')⟩
theorem mk_holds {j : Nat} {m : Int} (ha : j ≤ 3) (h0 : 0 ≤ m) (h1 : m ≤ 240) (k : ∀ p H', Same H H' → GoAt G H' p (.holds j m) → Q p H') : MK G.H (sp_Holds_init G) E [.int j, .int m] H Q :=
 fun x dx nx nd _ => ⟨x, dx, j, m, rfl, uS, ha, h0, h1, fun H' kp e => ⟨rfl, k x H' (mkSame nx nd kp) e⟩⟩
theorem mk_some {m : Int} (h0 : 0 ≤ m) (h1 : m ≤ 240) (k : ∀ p H', Same H H' → GoAt G H' p (.som m) → Q p H') : MK G.S (sp_Some_init G) E [.int m] H Q :=
 fun x dx nx nd _ => ⟨x, dx, m, rfl, uS, h0, h1, fun H' kp e => ⟨rfl, k x H' (mkSame nx nd kp) e⟩⟩
theorem mk_sum {l : Addr} {js : List Int} {m : Int} (hl : H l = some (.lst (js.map V.int))) (hnd : js.Nodup) (l1 : 1 ≤ js.length) (l4 : js.length ≤ 4) (hb : ∀ j ∈ js, 0 ≤ j ∧ j ≤ 3) (h0 : 0 ≤ m) (h1 : m ≤ 240) (k : ∀ p H', Same H H' → GoAt G H' p (.sum js m) → Q p H') : MK G.U (sp_Sum_init G) E [.ref l, .int m] H Q :=
 fun x dx nx nd _ => ⟨x, dx, l, js, m, rfl, uS, lsSame nx nd _ _ hl, hnd, l1, l4, hb, h0, h1, fun H' kp e => ⟨rfl, k x H' (mkSame nx nd kp) e⟩⟩
theorem mk_whole {l : Addr} {st : List Int} (hl : H l = some (.tup (st.map V.int))) (l1 : 1 ≤ st.length) (l4 : st.length ≤ 4) (hb : ∀ j ∈ st, 0 ≤ j ∧ j ≤ 60) (k : ∀ p H', Same H H' → GoAt G H' p (.whole st) → Q p H') : MK G.W (sp_Whole_init G) E [.ref l] H Q :=
 fun x dx nx nd _ => ⟨x, dx, l, st, rfl, uS, lsSame nx nd _ _ hl, l1, l4, hb, fun H' kp e => ⟨rfl, k x H' (mkSame nx nd kp) e⟩⟩
theorem mk_holdsX {v u : V} {tv tu : String} {C : Addr} (kv : Kd H v tv) (ku : Kd H u tu) (hb : numB v 0 3 = false ∨ ∃ a : Nat, v = .int a ∧ a ≤ 3 ∧ numB u 0 240 = false) (k : ∀ o H', Same H H' → E (.ref CB) o H') : MK C (sp_Holds_initX CB) E [v, u] H Q :=
 fun x dx nx nd _ => ⟨x, v, u, tv, tu, rfl, kv.mono (lsSame nx nd), ku.mono (lsSame nx nd), hb, fun o H' s' => k o H' ((lsSame nx nd).trans s')⟩
theorem mk_someX {v : V} {tv : String} {C : Addr} (kv : Kd H v tv) (hb : numB v 0 240 = false) (k : ∀ o H', Same H H' → E (.ref CB) o H') : MK C (sp_Some_initX CB) E [v] H Q :=
 fun x dx nx nd _ => ⟨x, v, tv, rfl, kv.mono (lsSame nx nd), hb, fun o H' s' => k o H' ((lsSame nx nd).trans s')⟩
theorem mk_sumX {v u : V} (hb : BadJs H v ∨ ∃ (l : Addr) (js : List Int) (t : String), v = .ref l ∧ H l = some (.lst (js.map V.int)) ∧ js.Nodup ∧ 1 ≤ js.length ∧ js.length ≤ 4 ∧ (∀ j ∈ js, 0 ≤ j ∧ j ≤ 3) ∧ Kd H u t ∧ numB u 0 240 = false) (k : ∀ o H', Same H H' → E (.ref CB) o H') : MK G.U (sp_Sum_initX G CB) E [v, u] H Q :=
 fun x dx nx nd _ => ⟨x, dx, v, u, rfl, uS, hb.imp (fun b => b.mono (lsSame nx nd)) (fun ⟨l, sz, t, e, hl, a, b, c, d, ku, n⟩ => ⟨l, sz, t, e, lsSame nx nd _ _ hl, a, b, c, d, ku.mono (lsSame nx nd), n⟩), fun o H' kp => k o H' (mkSame nx nd kp)⟩
theorem mk_wholeX {v : V} {C : Addr} (hb : BadAm H v) (k : ∀ o H', Same H H' → E (.ref CB) o H') : MK C (sp_Whole_initX CB) E [v] H Q :=
 fun x dx nx nd _ => ⟨x, v, rfl, hb.mono (lsSame nx nd), fun o H' s' => k o H' ((lsSame nx nd).trans s')⟩
end
theorem hz35 : Hz [3, 5] := ⟨by decide, by decide, by decide, by decide⟩
theorem hz3 : Hz [3] := ⟨by decide, by decide, by decide, by decide⟩
theorem hz60 : Hz [60] := ⟨by decide, by decide, by decide, by decide⟩
theorem hz4939 : Hz [49, 39] := ⟨by decide, by decide, by decide, by decide⟩
section
v5%
variable {CH CS CB CG : Addr} {Z : Cz} {G : Gz} {z : Ez}
def sp_lhouse (CB : Addr) : Sp := fun vs H _ E => ∃ (d : Int) (v : V), vs = [.int d, v] ∧ ((d = 0 ∧ BadSz H v) ∨ (d = 1 ∧ ∃ t, Kd H v t ∧ t ≠ "bool")) ∧ ∀ o H', Same H H' → E (.ref CB) o H'
theorem ok_lhouse {f : Addr} {fd : FuncData} (F : Fun K "_law_house" "_law_house" s__law_house f fd) (HX : kx% 3 "House" CH ["self", "sizes", "tap"] (sp_House_initX CH CB)) : fo% (CX1 P w) 10 f fd ["_law_door", "_law_bad"] (sp_lhouse CB) := by
 gok F.okX sc__law_house
 · obtain ⟨d, v, rfl, _⟩ := h
   rfl
 · obtain ⟨d, v, rfl, hb, k⟩ := h
   rcases hb with ⟨rfl, hb⟩ | ⟨rfl, t, kd, nt⟩
   · refine ⟨_, s1' (sR (pe_ifExp (pt_cmpR op_eq (pv 0) eI (nomark _)) (pe_mkX bdX xeX HX (hr.mono (by decide)) (pK (pv 1) (pK pe_bl pN))) pe_never)), ?_⟩
     exact ⟨_, rfl, rfl, _, rfl, iteY rfl ⟨_, rfl, mk_houseX (.inl hb) k⟩⟩
   · refine ⟨_, s1' (sR (pe_ifExp (pt_cmpR op_eq (pv 0) eI (nomark _)) pe_never (pe_mkX bdX xeX HX (hr.mono (by decide)) (pK (pe_lst (pK eI pN)) (pK (pv 1) pN))))), ?_⟩
     refine ⟨_, rfl, rfl, _, rfl, iteN (by decide) ⟨(z% 1), fun l nl => ⟨_, rfl, mk_houseX (.inr ⟨l, [3], t, rfl, uS, hz3, kd.mono (Same.new nl), nt⟩) fun o H' s' => k o H' ((Same.new nl).trans s')⟩⟩⟩
end
end Jug
namespace Jug
open PySem L2
section
v5%
variable {CH CS CB CG : Addr} {Z : Cz} {G : Gz} {z : Ez}
def sp_lstate (CS : Addr) : Sp := fun vs H _ E => ∃ (d : Nat) (v : V), vs = [.int d, v] ∧ d < 9 ∧ BadSt H [3, 5] v ∧ ∀ o H', Same H H' → E (.ref CS) o H'
theorem ok_lstate {f : Addr} {fd : FuncData} (F : Fun K "_law_with_state" "_law_with_state" s__law_with_state f fd) (HM : mk% 3 "House" CH ["self", "sizes", "tap"] (sp_House_init CH))
   (PM : mk% 4 "Pour" Z.P ["self", "one", "other"] (sp_Pour_init Z)) (FM : mk% 4 "Fill" Z.F ["self", "jug"] (sp_jug_init Z.F)) (OM : mk% 4 "Holds" G.H ["self", "jug", "many"] (sp_Holds_init G))
   (D : ∀ C, anyMv Z C → mx% 5 C "done" ["self", "house", "state"] (sp_doneX Z CH CS CB)) (DA : fx% 6 "done_all" ["moves", "house", "state"] (sp_done_allX Z CH CS CB)) (CM : ∀ C, anyGo G C → mx% 5 C "come" ["self", "house", "state"] (sp_comeX G CH CS CG))
   (FW : fx% 9 "fewest" ["house", "state", "goal"] (sp_fewestX G CH CS CG)) (RX : fx% 9 "reached" ["house", "state"] (sp_walkX CH CS)) (MX : fx% 9 "measured" ["house", "state"] (sp_walkX CH CS)) (TX : fx% 9 "tied" ["house", "one", "other"] (sp_tiedX CH CS)) :
   fo% (CX1 P w) 10 f fd ["_law_door", "_law_bad"] (sp_lstate CS) := by
 gok F.okX sc__law_with_state
 · obtain ⟨d, v, rfl, _⟩ := h
   rfl
 · obtain ⟨d, v, rfl, hd, hb, k⟩ := h
   have nd := sc__law_with_state.nd
   have hr4 : Room 4 _ := hr.mono (by decide)
   have hr5 : Room 5 _ := hr.mono (by decide)
   have hr6 : Room 6 _ := hr.mono (by decide)
   match d, hd with
   | 0, _ =>
     refine ⟨_, sK (sS (i := 2) nd rfl (Or.inl rfl) (pe_mk HM hr4 (pK (pe_lst (pK eI (pK eI pN))) (pK pe_bl pN))))
       (sK (ps_if (pt_cmpR op_eq (pv 0) eI (nomark _)) (s1' (sR (pe_meX bdX xeX (D Z.P (.inl rfl)) (pe_mk PM hr5 (pK eI (pK eI pN))) hr5 (pK (pv 2) (pK (pv 1) pN))))) sV) sV), ?_⟩
     refine ⟨(z% 2), fun l nl => mk_house (sz := [3, 5]) uS hz35 fun p H1 s1 hh => ⟨_, rfl, rfl, _, rfl, iteY rfl ?_⟩⟩
     refine mk_pour (a := 0) (b := 1) (by decide) (by decide) (by decide) fun q H2 s2 hm => ?_
     obtain ⟨dq, hq⟩ := id hm
     have s3 := (Same.new nl).trans (s1.trans s2)
     exact ⟨q, dq, _, rfl, hq, pF_no _ _ (by decide +kernel) (by decide +kernel), _, rfl, _, rfl, q, p, v, [3, 5], false, .pour 0 1, rfl, hm, hh.mono s2, .inl ⟨hb.mono s3, fun o H' s' => k o H' (s3.trans s')⟩⟩
   | 1, _ =>
     refine ⟨_, sK (sS (i := 2) nd rfl (Or.inl rfl) (pe_mk HM hr4 (pK (pe_lst (pK eI (pK eI pN))) (pK pe_bl pN))))
       (sK if0% (sK (ps_if (pt_cmpR op_eq (pv 0) eI (nomark _)) (s1' (sR (pe_meX bdX xeX (D Z.F (.inr (.inl rfl))) (pe_mk FM hr5 (pK eI pN)) hr5 (pK (pv 2) (pK (pv 1) pN))))) sV) sV)), ?_⟩
     refine ⟨(z% 2), fun l nl => mk_house (sz := [3, 5]) uS hz35 fun p H1 s1 hh => ⟨_, rfl, rfl, _, rfl, iteN (by decide) ⟨_, rfl, rfl, _, rfl, iteY rfl ?_⟩⟩⟩
     refine mk_fill (a := 0) (by decide) fun q H2 s2 hm => ?_
     obtain ⟨dq, hq⟩ := id hm
     have s3 := (Same.new nl).trans (s1.trans s2)
     exact ⟨q, dq, _, rfl, hq, jF_no _ (by decide +kernel), _, rfl, _, rfl, q, p, v, [3, 5], false, .fill 0, rfl, hm, hh.mono s2, .inl ⟨hb.mono s3, fun o H' s' => k o H' (s3.trans s')⟩⟩
   | 2, _ =>
     refine ⟨_, sK (sS (i := 2) nd rfl (Or.inl rfl) (pe_mk HM hr4 (pK (pe_lst (pK eI (pK eI pN))) (pK pe_bl pN))))
       (sK if0% (sK if0%
       (sK (ps_if (pt_cmpR op_eq (pv 0) eI (nomark _)) (s1' (sR (pe_fnX bdX xeX DA hr6 (pK (pe_lst (pK (pe_mk PM hr5 (pK eI (pK eI pN))) pN)) (pK (pv 2) (pK (pv 1) pN)))))) sV) sV))), ?_⟩
     refine ⟨(z% 2), fun l nl => mk_house (sz := [3, 5]) uS hz35 fun p H1 s1 hh => ⟨_, rfl, rfl, _, rfl, iteN (by decide) ⟨_, rfl, rfl, _, rfl, iteN (by decide) ⟨_, rfl, rfl, _, rfl, iteY rfl ?_⟩⟩⟩⟩
     refine mk_pour (a := 2) (b := 3) (by decide) (by decide) (by decide) fun q H2 s2 hm => ⟨(z% 1), fun m nm => ?_⟩
     have s3 := (Same.new nl).trans (s1.trans (s2.lay (o := .lst [.ref q]) nm))
     exact ⟨_, rfl, _, rfl, _, p, v, [3, 5], false, rfl, hh.mono (s2.lay nm), .inr ⟨m, _, [.pour 2 3], rfl, uS, .cons ⟨q, rfl, hm.mono (Same.new nm)⟩ .nil, .inl ⟨hb.mono s3, fun o H' s' => k o H' (s3.trans s')⟩⟩⟩
   | 3, _ =>
     refine ⟨_, sK (sS (i := 2) nd rfl (Or.inl rfl) (pe_mk HM hr4 (pK (pe_lst (pK eI (pK eI pN))) (pK pe_bl pN))))
       (sK if0% (sK if0% (sK if0%
       (sK (ps_if (pt_cmpR op_eq (pv 0) eI (nomark _)) (s1' (sR (pe_meX bdX xeX (CM G.H (.inl rfl)) (pe_mk OM hr5 (pK eI (pK eI pN))) hr5 (pK (pv 2) (pK (pv 1) pN))))) sV) sV)))), ?_⟩
     refine ⟨(z% 2), fun l nl => mk_house (sz := [3, 5]) uS hz35 fun p H1 s1 hh => ⟨_, rfl, rfl, _, rfl, iteN (by decide) ⟨_, rfl, rfl, _, rfl, iteN (by decide) ⟨_, rfl, rfl, _, rfl, iteN (by decide) ⟨_, rfl, rfl, _, rfl, iteY rfl ?_⟩⟩⟩⟩⟩
     refine mk_holds (j := 3) (m := 0) (by decide) (by decide) (by decide) fun q H2 s2 hm => ?_
     obtain ⟨dq, hq⟩ := id hm
     have s3 := (Same.new nl).trans (s1.trans s2)
     exact ⟨q, dq, _, rfl, hq, hoF_no _ _ (by decide +kernel) (by decide +kernel), _, rfl, _, rfl, q, p, v, [3, 5], false, .holds 3 0, rfl, hm, hh.mono s2, .inl ⟨hb.mono s3, fun o H' s' => k o H' (s3.trans s')⟩⟩
   | 4, _ =>
     refine ⟨_, sK (sS (i := 2) nd rfl (Or.inl rfl) (pe_mk HM hr4 (pK (pe_lst (pK eI (pK eI pN))) (pK pe_bl pN))))
       (sK if0% (sK if0% (sK if0% (sK if0%
       (sK (ps_if (pt_cmpR op_eq (pv 0) eI (nomark _)) (s1' (sR (pe_fnX bdX xeX FW hr (pK (pv 2) (pK (pv 1) (pK pe_non pN)))))) sV) sV))))), ?_⟩
     refine ⟨(z% 2), fun l nl => mk_house (sz := [3, 5]) uS hz35 fun p H1 s1 hh => ⟨_, rfl, rfl, _, rfl, iteN (by decide) ⟨_, rfl, rfl, _, rfl, iteN (by decide) ⟨_, rfl, rfl, _, rfl, iteN (by decide) ⟨_, rfl, rfl, _, rfl, iteN (by decide) ⟨_, rfl, rfl, _, rfl, iteY rfl ?_⟩⟩⟩⟩⟩⟩
     have s3 := (Same.new nl).trans s1
     exact ⟨_, rfl, _, rfl, p, v, _, [3, 5], false, rfl, hh, .inl ⟨hb.mono s3, fun o H' s' => k o H' (s3.trans s')⟩⟩
   | 5, _ =>
     refine ⟨_, sK (sS (i := 2) nd rfl (Or.inl rfl) (pe_mk HM hr4 (pK (pe_lst (pK eI (pK eI pN))) (pK pe_bl pN))))
       (sK if0% (sK if0% (sK if0% (sK if0% (sK if0%
       (sK (ps_if (pt_cmpR op_eq (pv 0) eI (nomark _)) (s1' (sR (pe_fnX bdX xeX RX hr (pK (pv 2) (pK (pv 1) pN))))) sV) sV)))))), ?_⟩
     refine ⟨(z% 2), fun l nl => mk_house (sz := [3, 5]) uS hz35 fun p H1 s1 hh => ⟨_, rfl, rfl, _, rfl, iteN (by decide) ⟨_, rfl, rfl, _, rfl, iteN (by decide) ⟨_, rfl, rfl, _, rfl, iteN (by decide) ⟨_, rfl, rfl, _, rfl, iteN (by decide) ⟨_, rfl, rfl, _, rfl, iteN (by decide) ⟨_, rfl, rfl, _, rfl, iteY rfl ?_⟩⟩⟩⟩⟩⟩⟩
     have s3 := (Same.new nl).trans s1
     exact ⟨_, rfl, _, rfl, p, [3, 5], false, v, rfl, hh, hb.mono s3, fun o H' s' => k o H' (s3.trans s')⟩
   | 6, _ =>
     refine ⟨_, sK (sS (i := 2) nd rfl (Or.inl rfl) (pe_mk HM hr4 (pK (pe_lst (pK eI (pK eI pN))) (pK pe_bl pN))))
       (sK if0% (sK if0% (sK if0% (sK if0% (sK if0% (sK if0%
       (sK (ps_if (pt_cmpR op_eq (pv 0) eI (nomark _)) (s1' (sR (pe_fnX bdX xeX MX hr (pK (pv 2) (pK (pv 1) pN))))) sV) sV))))))), ?_⟩
     refine ⟨(z% 2), fun l nl => mk_house (sz := [3, 5]) uS hz35 fun p H1 s1 hh => ⟨_, rfl, rfl, _, rfl, iteN (by decide) ⟨_, rfl, rfl, _, rfl, iteN (by decide) ⟨_, rfl, rfl, _, rfl, iteN (by decide) ⟨_, rfl, rfl, _, rfl, iteN (by decide) ⟨_, rfl, rfl, _, rfl, iteN (by decide) ⟨_, rfl, rfl, _, rfl, iteN (by decide) ⟨_, rfl, rfl, _, rfl, iteY rfl ?_⟩⟩⟩⟩⟩⟩⟩⟩
     have s3 := (Same.new nl).trans s1
     exact ⟨_, rfl, _, rfl, p, [3, 5], false, v, rfl, hh, hb.mono s3, fun o H' s' => k o H' (s3.trans s')⟩
   | 7, _ =>
     refine ⟨_, sK (sS (i := 2) nd rfl (Or.inl rfl) (pe_mk HM hr4 (pK (pe_lst (pK eI (pK eI pN))) (pK pe_bl pN))))
       (sK if0% (sK if0% (sK if0% (sK if0% (sK if0% (sK if0% (sK if0%
       (sK (ps_if (pt_cmpR op_eq (pv 0) eI (nomark _)) (s1' (sR (pe_fnX bdX xeX TX hr (pK (pv 2) (pK (pv 1) (pK (pe_tup (pK eI (pK eI pN))) pN)))))) sV) sV)))))))), ?_⟩
     refine ⟨(z% 2), fun l nl => mk_house (sz := [3, 5]) uS hz35 fun p H1 s1 hh => ⟨_, rfl, rfl, _, rfl, iteN (by decide) ⟨_, rfl, rfl, _, rfl, iteN (by decide) ⟨_, rfl, rfl, _, rfl, iteN (by decide) ⟨_, rfl, rfl, _, rfl, iteN (by decide) ⟨_, rfl, rfl, _, rfl, iteN (by decide) ⟨_, rfl, rfl, _, rfl, iteN (by decide) ⟨_, rfl, rfl, _, rfl, iteN (by decide) ⟨_, rfl, rfl, _, rfl, iteY rfl ?_⟩⟩⟩⟩⟩⟩⟩⟩⟩
     refine ⟨_, rfl, _, rfl, (z% 2), fun t nt => ?_⟩
     have s3 := (Same.new nl).trans (s1.lay (o := .tup [.int 0, .int 0]) nt)
     exact ⟨p, [3, 5], false, v, _, rfl, hh.mono (Same.new nt), .inl (hb.mono s3), fun o H' s' => k o H' (s3.trans s')⟩
   | 8, _ =>
     refine ⟨_, sK (sS (i := 2) nd rfl (Or.inl rfl) (pe_mk HM hr4 (pK (pe_lst (pK eI (pK eI pN))) (pK pe_bl pN))))
       (sK if0% (sK if0% (sK if0% (sK if0% (sK if0% (sK if0% (sK if0% (sK if0%
       (s1' (sR (pe_fnX bdX xeX TX hr (pK (pv 2) (pK (pe_tup (pK eI (pK eI pN))) (pK (pv 1) pN)))))))))))))), ?_⟩
     refine ⟨(z% 2), fun l nl => mk_house (sz := [3, 5]) uS hz35 fun p H1 s1 hh => ⟨_, rfl, rfl, _, rfl, iteN (by decide) ⟨_, rfl, rfl, _, rfl, iteN (by decide) ⟨_, rfl, rfl, _, rfl, iteN (by decide) ⟨_, rfl, rfl, _, rfl, iteN (by decide) ⟨_, rfl, rfl, _, rfl, iteN (by decide) ⟨_, rfl, rfl, _, rfl, iteN (by decide) ⟨_, rfl, rfl, _, rfl, iteN (by decide) ⟨_, rfl, rfl, _, rfl, iteN (by decide) ?_⟩⟩⟩⟩⟩⟩⟩⟩⟩
     refine ⟨_, rfl, (z% 2), fun t nt => ⟨_, rfl, ?_⟩⟩
     have s3 := (Same.new nl).trans (s1.lay (o := .tup [.int 0, .int 0]) nt)
     exact ⟨p, [3, 5], false, _, v, rfl, hh.mono (Same.new nt), .inr ⟨t, [0, 0], rfl, uS, ⟨rfl, by decide⟩, hb.mono s3⟩, fun o H' s' => k o H' (s3.trans s')⟩
end
end Jug
namespace Jug
open PySem L2
section
v5%
variable {CH CS CB CG : Addr} {Z : Cz} {G : Gz} {z : Ez}
theorem bad_pair {H : Hp} {q l : Addr} {v : V} {t : String} {m : J.Mv} (hm : MvAt Z H q m) (kv : Kd H v t) (e : H l = some (.lst [.ref q, v])) : BadMvs Z H (.ref l) := by
 refine .inr ⟨l, _, rfl, e, fun x hx => ?_, v, by simp, t, kv⟩
 rcases List.mem_cons.mp hx with rfl | hx
 · exact .inr ⟨m, q, rfl, hm⟩
 · rcases List.mem_cons.mp hx with rfl | hx
   · exact .inl ⟨t, kv⟩
   · cases hx
theorem bad_one {H : Hp} {l : Addr} {v : V} {t : String} (kv : Kd H v t) (e : H l = some (.lst [v])) : BadMvs Z H (.ref l) := by
 refine .inr ⟨l, _, rfl, e, fun x hx => ?_, v, by simp, t, kv⟩
 rcases List.mem_cons.mp hx with rfl | hx
 · exact .inl ⟨t, kv⟩
 · cases hx
def sp_lmove (Z : Cz) (CB : Addr) : Sp := fun vs H _ E => ∃ (d : Nat) (v : V) (t : String), vs = [.int d, v] ∧ d < 7 ∧ Kd H v t ∧ (d = 0 → numB v 0 3 = false ∨ v = .int 1) ∧ (d = 1 → numB v 0 3 = false ∨ v = .int 0) ∧ (2 ≤ d → numB v 0 3 = false) ∧ (d = 5 → BadMvs Z H v) ∧ ∀ o H', Same H H' → E (.ref CB) o H'
theorem ok_lmove {f : Addr} {fd : FuncData} (F : Fun K "_law_with_move" "_law_with_move" s__law_with_move f fd) (HM : mk% 3 "House" CH ["self", "sizes", "tap"] (sp_House_init CH)) (PM : mk% 4 "Pour" Z.P ["self", "one", "other"] (sp_Pour_init Z))
   (PX : kx% 4 "Pour" Z.P ["self", "one", "other"] (sp_Pour_initX CB)) (FX : kx% 4 "Fill" Z.F ["self", "jug"] (sp_jug_initX CB)) (EX : kx% 4 "Empty" Z.E ["self", "jug"] (sp_jug_initX CB))
   (DA : fx% 6 "done_all" ["moves", "house", "state"] (sp_done_allX Z CH CS CB)) (RT : fx% 2 "routine_text" ["moves"] (sp_moves_inX Z CB)) :
   fo% (CX1 P w) 10 f fd ["_law_door", "_law_bad"] (sp_lmove Z CB) := by
 gok F.okX sc__law_with_move
 · obtain ⟨d, v, t, rfl, _⟩ := h
   rfl
 · obtain ⟨d, v, t, rfl, hd, kv, h0, h1, h2, h5, k⟩ := h
   have nd := sc__law_with_move.nd
   have hr2 : Room 2 _ := hr.mono (by decide)
   have hr4 : Room 4 _ := hr.mono (by decide)
   have hr5 : Room 5 _ := hr.mono (by decide)
   have hr6 : Room 6 _ := hr.mono (by decide)
   match d, hd with
   | 0, _ =>
     refine ⟨_, sK (sS (i := 2) nd rfl (Or.inl rfl) (pe_mk HM hr4 (pK (pe_lst (pK eI (pK eI pN))) (pK pe_bl pN)))) (sK (ps_if (pt_cmpR op_eq (pv 0) eI (nomark _)) (s1' (sR (pe_mkX bdX xeX PX hr5 (pK (pv 1) (pK eI pN))))) sV) sV), ?_⟩
     refine ⟨(z% 2), fun l nl => mk_house (sz := [3, 5]) uS hz35 fun p H1 s1 hh => ?_⟩
     have s3 := (Same.new (o := .lst ([3, 5].map V.int)) nl).trans s1
     refine ⟨_, rfl, rfl, _, rfl, iteY rfl ?_⟩
     exact ⟨_, rfl, mk_pourX (kv.mono s3) (.int 1) ((h0 rfl).imp id fun e => ⟨1, e, by decide, .inr rfl⟩) fun o H' s' => k o H' (s3.trans s')⟩
   | 1, _ =>
     refine ⟨_, sK (sS (i := 2) nd rfl (Or.inl rfl) (pe_mk HM hr4 (pK (pe_lst (pK eI (pK eI pN))) (pK pe_bl pN)))) (sK if0% (sK (ps_if (pt_cmpR op_eq (pv 0) eI (nomark _)) (s1' (sR (pe_mkX bdX xeX PX hr5 (pK eI (pK (pv 1) pN))))) sV) sV)), ?_⟩
     refine ⟨(z% 2), fun l nl => mk_house (sz := [3, 5]) uS hz35 fun p H1 s1 hh => ?_⟩
     have s3 := (Same.new (o := .lst ([3, 5].map V.int)) nl).trans s1
     refine ⟨_, rfl, rfl, _, rfl, iteN (by decide) ⟨_, rfl, rfl, _, rfl, iteY rfl ?_⟩⟩
     exact ⟨_, rfl, mk_pourX (.int 0) (kv.mono s3) (.inr ⟨0, rfl, by decide, h1 rfl⟩) fun o H' s' => k o H' (s3.trans s')⟩
   | 2, _ =>
     refine ⟨_, sK (sS (i := 2) nd rfl (Or.inl rfl) (pe_mk HM hr4 (pK (pe_lst (pK eI (pK eI pN))) (pK pe_bl pN)))) (sK if0% (sK if0% (sK (ps_if (pt_cmpR op_eq (pv 0) eI (nomark _)) (s1' (sR (pe_mkX bdX xeX FX hr5 (pK (pv 1) pN)))) sV) sV))), ?_⟩
     refine ⟨(z% 2), fun l nl => mk_house (sz := [3, 5]) uS hz35 fun p H1 s1 hh => ?_⟩
     have s3 := (Same.new (o := .lst ([3, 5].map V.int)) nl).trans s1
     refine ⟨_, rfl, rfl, _, rfl, iteN (by decide) ⟨_, rfl, rfl, _, rfl, iteN (by decide) ⟨_, rfl, rfl, _, rfl, iteY rfl ?_⟩⟩⟩
     exact ⟨_, rfl, mk_jugX (kv.mono s3) (h2 (by decide)) fun o H' s' => k o H' (s3.trans s')⟩
   | 3, _ =>
     refine ⟨_, sK (sS (i := 2) nd rfl (Or.inl rfl) (pe_mk HM hr4 (pK (pe_lst (pK eI (pK eI pN))) (pK pe_bl pN)))) (sK if0% (sK if0% (sK if0% (sK (ps_if (pt_cmpR op_eq (pv 0) eI (nomark _)) (s1' (sR (pe_mkX bdX xeX EX hr5 (pK (pv 1) pN)))) sV) sV)))), ?_⟩
     refine ⟨(z% 2), fun l nl => mk_house (sz := [3, 5]) uS hz35 fun p H1 s1 hh => ?_⟩
     have s3 := (Same.new (o := .lst ([3, 5].map V.int)) nl).trans s1
     refine ⟨_, rfl, rfl, _, rfl, iteN (by decide) ⟨_, rfl, rfl, _, rfl, iteN (by decide) ⟨_, rfl, rfl, _, rfl, iteN (by decide) ⟨_, rfl, rfl, _, rfl, iteY rfl ?_⟩⟩⟩⟩
     exact ⟨_, rfl, mk_jugX (kv.mono s3) (h2 (by decide)) fun o H' s' => k o H' (s3.trans s')⟩
   | 4, _ =>
     refine ⟨_, sK (sS (i := 2) nd rfl (Or.inl rfl) (pe_mk HM hr4 (pK (pe_lst (pK eI (pK eI pN))) (pK pe_bl pN)))) (sK if0% (sK if0% (sK if0% (sK if0% (sK (ps_if (pt_cmpR op_eq (pv 0) eI (nomark _)) (s1' (sR (pe_fnX bdX xeX DA hr6 (pK (pe_lst (pK (pe_mk PM hr5 (pK eI (pK eI pN))) (pK (pv 1) pN))) (pK (pv 2) (pK pe_non pN)))))) sV) sV))))), ?_⟩
     refine ⟨(z% 2), fun l nl => mk_house (sz := [3, 5]) uS hz35 fun p H1 s1 hh => ?_⟩
     have s3 := (Same.new (o := .lst ([3, 5].map V.int)) nl).trans s1
     refine ⟨_, rfl, rfl, _, rfl, iteN (by decide) ⟨_, rfl, rfl, _, rfl, iteN (by decide) ⟨_, rfl, rfl, _, rfl, iteN (by decide) ⟨_, rfl, rfl, _, rfl, iteN (by decide) ⟨_, rfl, rfl, _, rfl, iteY rfl ?_⟩⟩⟩⟩⟩
     refine mk_pour (a := 0) (b := 1) (by decide) (by decide) (by decide) fun q H2 s2 hm => ⟨_, rfl, (z% 2), fun m nm => ⟨_, rfl, ?_⟩⟩
     have s4 := s3.trans (s2.lay (o := .lst [.ref q, v]) nm)
     exact ⟨_, p, _, [3, 5], false, rfl, hh.mono (s2.lay nm), .inl ⟨bad_pair (hm.mono (Same.new nm)) (kv.mono s4) uS, fun o H' s' => k o H' (s4.trans s')⟩⟩
   | 5, _ =>
     refine ⟨_, sK (sS (i := 2) nd rfl (Or.inl rfl) (pe_mk HM hr4 (pK (pe_lst (pK eI (pK eI pN))) (pK pe_bl pN)))) (sK if0% (sK if0% (sK if0% (sK if0% (sK if0% (sK (ps_if (pt_cmpR op_eq (pv 0) eI (nomark _)) (s1' (sR (pe_fnX bdX xeX DA hr6 (pK (pv 1) (pK (pv 2) (pK pe_non pN)))))) sV) sV)))))), ?_⟩
     refine ⟨(z% 2), fun l nl => mk_house (sz := [3, 5]) uS hz35 fun p H1 s1 hh => ?_⟩
     have s3 := (Same.new (o := .lst ([3, 5].map V.int)) nl).trans s1
     refine ⟨_, rfl, rfl, _, rfl, iteN (by decide) ⟨_, rfl, rfl, _, rfl, iteN (by decide) ⟨_, rfl, rfl, _, rfl, iteN (by decide) ⟨_, rfl, rfl, _, rfl, iteN (by decide) ⟨_, rfl, rfl, _, rfl, iteN (by decide) ⟨_, rfl, rfl, _, rfl, iteY rfl ?_⟩⟩⟩⟩⟩⟩
     exact ⟨_, rfl, _, rfl, v, p, _, [3, 5], false, rfl, hh, .inl ⟨(h5 rfl).mono s3, fun o H' s' => k o H' (s3.trans s')⟩⟩
   | 6, _ =>
     refine ⟨_, sK (sS (i := 2) nd rfl (Or.inl rfl) (pe_mk HM hr4 (pK (pe_lst (pK eI (pK eI pN))) (pK pe_bl pN)))) (sK if0% (sK if0% (sK if0% (sK if0% (sK if0% (sK if0% (s1' (sR (pe_fnX bdX xeX RT hr2 (pK (pe_lst (pK (pv 1) pN)) pN)))))))))), ?_⟩
     refine ⟨(z% 2), fun l nl => mk_house (sz := [3, 5]) uS hz35 fun p H1 s1 hh => ?_⟩
     have s3 := (Same.new (o := .lst ([3, 5].map V.int)) nl).trans s1
     refine ⟨_, rfl, rfl, _, rfl, iteN (by decide) ⟨_, rfl, rfl, _, rfl, iteN (by decide) ⟨_, rfl, rfl, _, rfl, iteN (by decide) ⟨_, rfl, rfl, _, rfl, iteN (by decide) ⟨_, rfl, rfl, _, rfl, iteN (by decide) ⟨_, rfl, rfl, _, rfl, iteN (by decide) ?_⟩⟩⟩⟩⟩⟩
     refine ⟨_, rfl, (z% 1), fun m nm => ?_⟩
     have s4 := s3.lay (o := .lst [v]) nm
     exact ⟨_, rfl, bad_one (kv.mono s4) uS, fun o H' s' => k o H' (s4.trans s')⟩
def sp_lgoal (CG : Addr) : Sp := fun vs H _ E => ∃ (d : Nat) (v : V) (t : String), vs = [.int d, v] ∧ d < 7 ∧ Kd H v t ∧ (d = 0 ∨ d = 4 → numB v 0 3 = false) ∧ (1 ≤ d ∧ d ≤ 3 → numB v 0 240 = false) ∧ (d = 5 → numB v 0 60 = false) ∧ ∀ o H', Same H H' → E (.ref CG) o H'
theorem ok_lgoal {f : Addr} {fd : FuncData} (F : Fun K "_law_with_goal" "_law_with_goal" s__law_with_goal f fd) (HM : mk% 3 "House" CH ["self", "sizes", "tap"] (sp_House_init CH))
   (OX : kx% 4 "Holds" G.H ["self", "jug", "many"] (sp_Holds_initX CG)) (SX : kx% 3 "Some" G.S ["self", "many"] (sp_Some_initX CG)) (UX : kx% 5 "Sum" G.U ["self", "jugs", "many"] (sp_Sum_initX G CG)) (WX : kx% 3 "Whole" G.W ["self", "state"] (sp_Whole_initX CG))
   (FW : fx% 9 "fewest" ["house", "state", "goal"] (sp_fewestX G CH CS CG)) : fo% (CX1 P w) 10 f fd ["_law_door", "_law_bad"] (sp_lgoal CG) := by
 gok F.okX sc__law_with_goal
 · obtain ⟨d, v, t, rfl, _⟩ := h
   rfl
 · obtain ⟨d, v, t, rfl, hd, kv, h0, h1, h5, k⟩ := h
   have hr4 : Room 4 _ := hr.mono (by decide)
   have hr5 : Room 5 _ := hr.mono (by decide)
   have hr6 : Room 6 _ := hr.mono (by decide)
   match d, hd with
   | 0, _ =>
     refine ⟨_, (sK (ps_if (pt_cmpR op_eq (pv 0) eI (nomark _)) (s1' (sR (pe_mkX bdX xeX OX hr5 (pK (pv 1) (pK eI pN))))) sV) sV), ?_⟩
     refine ⟨_, rfl, rfl, _, rfl, iteY rfl ?_⟩
     exact ⟨_, rfl, mk_holdsX kv (.int 1) (.inl (h0 (.inl rfl))) k⟩
   | 1, _ =>
     refine ⟨_, (sK if0% (sK (ps_if (pt_cmpR op_eq (pv 0) eI (nomark _)) (s1' (sR (pe_mkX bdX xeX OX hr5 (pK eI (pK (pv 1) pN))))) sV) sV)), ?_⟩
     refine ⟨_, rfl, rfl, _, rfl, iteN (by decide) ⟨_, rfl, rfl, _, rfl, iteY rfl ?_⟩⟩
     exact ⟨_, rfl, mk_holdsX (.int 1) kv (.inr ⟨1, rfl, by decide, h1 (by decide)⟩) k⟩
   | 2, _ =>
     refine ⟨_, (sK if0% (sK if0% (sK (ps_if (pt_cmpR op_eq (pv 0) eI (nomark _)) (s1' (sR (pe_mkX bdX xeX SX hr4 (pK (pv 1) pN)))) sV) sV))), ?_⟩
     refine ⟨_, rfl, rfl, _, rfl, iteN (by decide) ⟨_, rfl, rfl, _, rfl, iteN (by decide) ⟨_, rfl, rfl, _, rfl, iteY rfl ?_⟩⟩⟩
     exact ⟨_, rfl, mk_someX kv (h1 (by decide)) k⟩
   | 3, _ =>
     refine ⟨_, (sK if0% (sK if0% (sK if0% (sK (ps_if (pt_cmpR op_eq (pv 0) eI (nomark _)) (s1' (sR (pe_mkX bdX xeX UX hr6 (pK (pe_lst (pK eI pN)) (pK (pv 1) pN))))) sV) sV)))), ?_⟩
     refine ⟨_, rfl, rfl, _, rfl, iteN (by decide) ⟨_, rfl, rfl, _, rfl, iteN (by decide) ⟨_, rfl, rfl, _, rfl, iteN (by decide) ⟨_, rfl, rfl, _, rfl, iteY rfl ?_⟩⟩⟩⟩
     refine ⟨(z% 1), fun m nm => ⟨_, rfl, mk_sumX (.inr ⟨m, [0], t, rfl, uS, by decide, by decide, by decide, by decide, kv.mono (Same.new nm), h1 (by decide)⟩) fun o H' s' => k o H' ((Same.new nm).trans s')⟩⟩
   | 4, _ =>
     refine ⟨_, (sK if0% (sK if0% (sK if0% (sK if0% (sK (ps_if (pt_cmpR op_eq (pv 0) eI (nomark _)) (s1' (sR (pe_mkX bdX xeX UX hr6 (pK (pe_lst (pK (pv 1) pN)) (pK eI pN))))) sV) sV))))), ?_⟩
     refine ⟨_, rfl, rfl, _, rfl, iteN (by decide) ⟨_, rfl, rfl, _, rfl, iteN (by decide) ⟨_, rfl, rfl, _, rfl, iteN (by decide) ⟨_, rfl, rfl, _, rfl, iteN (by decide) ⟨_, rfl, rfl, _, rfl, iteY rfl ?_⟩⟩⟩⟩⟩
     refine ⟨_, rfl, (z% 1), fun m nm => mk_sumX (.inl (.inr ⟨m, [v], rfl, uS, fun x hx => ?_, .inl ⟨v, by simp, h0 (.inr rfl)⟩⟩)) fun o H' s' => k o H' ((Same.new nm).trans s')⟩
     rcases List.mem_cons.mp hx with rfl | hx
     · exact ⟨t, kv.mono (Same.new nm)⟩
     · cases hx
   | 5, _ =>
     refine ⟨_, (sK if0% (sK if0% (sK if0% (sK if0% (sK if0% (sK (ps_if (pt_cmpR op_eq (pv 0) eI (nomark _)) (s1' (sR (pe_mkX bdX xeX WX hr4 (pK (pe_tup (pK eI (pK (pv 1) pN))) pN)))) sV) sV)))))), ?_⟩
     refine ⟨_, rfl, rfl, _, rfl, iteN (by decide) ⟨_, rfl, rfl, _, rfl, iteN (by decide) ⟨_, rfl, rfl, _, rfl, iteN (by decide) ⟨_, rfl, rfl, _, rfl, iteN (by decide) ⟨_, rfl, rfl, _, rfl, iteN (by decide) ⟨_, rfl, rfl, _, rfl, iteY rfl ?_⟩⟩⟩⟩⟩⟩
     refine ⟨_, rfl, (z% 2), fun m nm => mk_wholeX (.inr ⟨m, [.int 1, v], rfl, uS, fun x hx => ?_, .inr (.inr ⟨v, by simp, h5 rfl⟩)⟩) fun o H' s' => k o H' ((Same.new nm).trans s')⟩
     rcases List.mem_cons.mp hx with rfl | hx
     · exact ⟨_, .int 1⟩
     · rcases List.mem_cons.mp hx with rfl | hx
       · exact ⟨t, kv.mono (Same.new nm)⟩
       · cases hx
   | 6, _ =>
     refine ⟨_, (sK if0% (sK if0% (sK if0% (sK if0% (sK if0% (sK if0% (s1' (sR (pe_fnX bdX xeX FW hr (pK (pe_mk HM hr4 (pK (pe_lst (pK eI (pK eI pN))) (pK pe_bl pN))) (pK (pe_tup (pK eI (pK eI pN))) (pK (pv 1) pN)))))))))))), ?_⟩
     refine ⟨_, rfl, rfl, _, rfl, iteN (by decide) ⟨_, rfl, rfl, _, rfl, iteN (by decide) ⟨_, rfl, rfl, _, rfl, iteN (by decide) ⟨_, rfl, rfl, _, rfl, iteN (by decide) ⟨_, rfl, rfl, _, rfl, iteN (by decide) ⟨_, rfl, rfl, _, rfl, iteN (by decide) ?_⟩⟩⟩⟩⟩⟩
     refine ⟨(z% 2), fun l nl => mk_house (sz := [3, 5]) uS hz35 fun p H1 s1 hh => ⟨(z% 2), fun m nm => ⟨_, rfl, ?_⟩⟩⟩
     have s3 := (Same.new (o := .lst ([3, 5].map V.int)) nl).trans (s1.lay (o := .tup [.int 0, .int 0]) nm)
     exact ⟨p, _, v, [3, 5], true, rfl, hh.mono (Same.new nm), .inr ⟨m, [0, 0], rfl, uS, ⟨rfl, by decide⟩, .inl ⟨t, kv.mono s3, fun o H' s' => k o H' (s3.trans s')⟩⟩⟩
end
end Jug
namespace Jug
open PySem L2
def mvW : Nat → J.Mv
 | 0 => .fill 0
 | 1 => .emp 1
 | 2 => .pour 0 2
 | 3 => .pour 3 1
 | 4 => .fill 2
 | 5 => .emp 3
 | _ => .pour 2 0
theorem unfitW : ∀ (n : Nat), n < 7 → unfit 2 (decide ((3 : Int) < (n : Int))) (mvW n)
 | 0, _ => .inr (by decide)
 | 1, _ => .inr (by decide)
 | 2, _ => .inr (by decide)
 | 3, _ => .inl (by decide)
 | 4, _ => .inl (by decide)
 | 5, _ => .inl (by decide)
 | 6, _ => .inl (by decide)
def goW : Nat → Go
 | 0 => .holds 2 0
 | 1 => .sum [0, 3] 1
 | 2 => .whole [0]
 | 3 => .whole [0, 0, 0]
 | 4 => .whole [4, 0]
 | _ => .whole [0, 6]
theorem gunfitW : ∀ (n : Nat), n < 6 → (goW n).unfit [3, 5]
 | 0, _ => (by decide : 2 ≤ 2)
 | 1, _ => ⟨by decide, 3, by decide, by decide⟩
 | 2, _ => (by decide : okSt ([0].map V.int) [3, 5] = false)
 | 3, _ => (by decide : okSt ([0, 0, 0].map V.int) [3, 5] = false)
 | 4, _ => (by decide : okSt ([4, 0].map V.int) [3, 5] = false)
 | 5, _ => (by decide : okSt ([0, 6].map V.int) [3, 5] = false)
section
v5%
variable {CH CS CB CG : Addr} {Z : Cz} {G : Gz} {z : Ez}
theorem pickM {H : Hp} {p0 p1 p2 p3 p4 p5 p6 : Addr} (m0 : MvAt Z H p0 (.fill 0)) (m1 : MvAt Z H p1 (.emp 1)) (m2 : MvAt Z H p2 (.pour 0 2)) (m3 : MvAt Z H p3 (.pour 3 1)) (m4 : MvAt Z H p4 (.fill 2)) (m5 : MvAt Z H p5 (.emp 3)) (m6 : MvAt Z H p6 (.pour 2 0)) :
   ∀ (n : Nat), n < 7 → ∃ p, [V.ref p0, .ref p1, .ref p2, .ref p3, .ref p4, .ref p5, .ref p6][n]? = some (.ref p) ∧ MvAt Z H p (mvW n)
 | 0, _ => ⟨_, rfl, m0⟩
 | 1, _ => ⟨_, rfl, m1⟩
 | 2, _ => ⟨_, rfl, m2⟩
 | 3, _ => ⟨_, rfl, m3⟩
 | 4, _ => ⟨_, rfl, m4⟩
 | 5, _ => ⟨_, rfl, m5⟩
 | 6, _ => ⟨_, rfl, m6⟩
theorem pickG {H : Hp} {p0 p1 p2 p3 p4 p5 : Addr} (m0 : GoAt G H p0 (.holds 2 0)) (m1 : GoAt G H p1 (.sum [0, 3] 1)) (m2 : GoAt G H p2 (.whole [0])) (m3 : GoAt G H p3 (.whole [0, 0, 0])) (m4 : GoAt G H p4 (.whole [4, 0])) (m5 : GoAt G H p5 (.whole [0, 6])) :
   ∀ (n : Nat), n < 6 → ∃ p, [V.ref p0, .ref p1, .ref p2, .ref p3, .ref p4, .ref p5][n]? = some (.ref p) ∧ GoAt G H p (goW n)
 | 0, _ => ⟨_, rfl, m0⟩
 | 1, _ => ⟨_, rfl, m1⟩
 | 2, _ => ⟨_, rfl, m2⟩
 | 3, _ => ⟨_, rfl, m3⟩
 | 4, _ => ⟨_, rfl, m4⟩
 | 5, _ => ⟨_, rfl, m5⟩
def sp_lunfit (CB : Addr) : Sp := fun vs H _ E => ∃ (d n : Nat), vs = [.int d, .int n] ∧ d < 2 ∧ n < 7 ∧ ∀ o H', Same H H' → E (.ref CB) o H'
theorem ok_lunfit {f : Addr} {fd : FuncData} (F : Fun K "_law_unfit" "_law_unfit" s__law_unfit f fd) (HM : mk% 3 "House" CH ["self", "sizes", "tap"] (sp_House_init CH)) (PM : mk% 4 "Pour" Z.P ["self", "one", "other"] (sp_Pour_init Z))
   (FM : mk% 4 "Fill" Z.F ["self", "jug"] (sp_jug_init Z.F)) (EM : mk% 4 "Empty" Z.E ["self", "jug"] (sp_jug_init Z.E)) (D : ∀ C, anyMv Z C → mx% 5 C "done" ["self", "house", "state"] (sp_doneX Z CH CS CB)) (DA : fx% 6 "done_all" ["moves", "house", "state"] (sp_done_allX Z CH CS CB)) :
   fo% (CX1 P w) 10 f fd ["_law_door", "_law_way"] (sp_lunfit CB) := by
 gok F.okX sc__law_unfit
 · obtain ⟨d, n, rfl, _⟩ := h
   rfl
 · obtain ⟨d, n, rfl, hd, hn, k⟩ := h
   have nd := sc__law_unfit.nd
   have hr4 : Room 4 _ := hr.mono (by decide)
   have hr5 : Room 5 _ := hr.mono (by decide)
   have hr6 : Room 6 _ := hr.mono (by decide)
   have hu := unfitW n hn
   have hst : J.IsSt [3, 5] [3, 0] := ⟨rfl, by decide⟩
   have hs0 : ∀ i, i < [3, 5].length → 0 ≤ J.at0 [3, 5] i := by decide
   match d, hd with
   | 0, _ =>
     refine ⟨_, sK (sS (i := 2) nd rfl (Or.inl rfl) (pe_mk HM hr4 (pK (pe_lst (pK eI (pK eI pN))) (pK (pe_cmpR op_gt (pv 1) eI (nomark _)) pN))))
       (sK (sS (i := 3) nd rfl (Or.inl rfl) (pe_ix ix_tup (pe_tup (pK (pe_mk FM hr5 (pK eI pN)) (pK (pe_mk EM hr5 (pK eI pN)) (pK (pe_mk PM hr5 (pK eI (pK eI pN))) (pK (pe_mk PM hr5 (pK eI (pK eI pN)))
         (pK (pe_mk FM hr5 (pK eI pN)) (pK (pe_mk EM hr5 (pK eI pN)) (pK (pe_mk PM hr5 (pK eI (pK eI pN))) pN)))))))) (pv 1) (fun _ _ => rfl)))
       (sK (ps_if (pt_cmpR op_eq (pv 0) eI (nomark _)) (s1' (sR (pe_meUX bdX xeX D (pv 3) hr5 (pK (pv 2) (pK (pe_tup (pK eI (pK eI pN))) pN))))) sV) sV)), ?_⟩
     refine ⟨(z% 2), fun l nl => ⟨_, rfl, _, _, rfl, rfl, mk_house (sz := [3, 5]) uS hz35 fun p H1 s1 hh => ?_⟩⟩
     refine mk_fill (a := 0) (by decide) fun p0 H2 s2 m0 => mk_emp (a := 1) (by decide) fun p1 H3 s3 m1 => mk_pour (a := 0) (b := 2) (by decide) (by decide) (by decide) fun p2 H4 s4 m2 => mk_pour (a := 3) (b := 1) (by decide) (by decide) (by decide) fun p3 H5 s5 m3 =>
       mk_fill (a := 2) (by decide) fun p4 H6 s6 m4 => mk_emp (a := 3) (by decide) fun p5 H7 s7 m5 => mk_pour (a := 2) (b := 0) (by decide) (by decide) (by decide) fun p6 H8 s8 m6 => ⟨(z% 7), fun t nt => ?_⟩
     have s9 : Same H8 (upd H8 t (.tup [.ref p0, .ref p1, .ref p2, .ref p3, .ref p4, .ref p5, .ref p6])) := Same.new nt
     have s89 := s8.trans s9
     have s79 := s7.trans s89
     have s69 := s6.trans s79
     have s59 := s5.trans s69
     have s49 := s4.trans s59
     have s39 := s3.trans s49
     have s29 := s2.trans s39
     have s19 := (Same.new (o := .lst ([3, 5].map V.int)) nl).trans (s1.trans s29)
     obtain ⟨p', ep, mp⟩ := pickM (m0.mono s39) (m1.mono s49) (m2.mono s59) (m3.mono s69) (m4.mono s79) (m5.mono s89) (m6.mono s9) n hn
     obtain ⟨dp, hp⟩ := id mp
     refine ⟨_, rfl, t, _, _, _, rfl, rfl, SqT.of uS, atI_nat ep, ?_⟩
     refine ⟨_, rfl, rfl, _, rfl, iteY rfl ⟨_, rfl, Z.cl (mvW n), p', dp, _, anyMv_cl Z _, rfl, hp, fsOf_no _ (by decide +kernel) (by decide +kernel) (by decide +kernel), _, rfl, (z% 2), fun u nu => ?_⟩⟩
     exact ⟨p', p, _, [3, 5], _, mvW n, rfl, mp.mono (Same.new nu), hh.mono (s29.lay nu), .inr ⟨u, [3, 0], rfl, uS, hst, hu, fun o H' s' => k o H' ((s19.lay nu).trans s')⟩⟩
   | 1, _ =>
     refine ⟨_, sK (sS (i := 2) nd rfl (Or.inl rfl) (pe_mk HM hr4 (pK (pe_lst (pK eI (pK eI pN))) (pK (pe_cmpR op_gt (pv 1) eI (nomark _)) pN))))
       (sK (sS (i := 3) nd rfl (Or.inl rfl) (pe_ix ix_tup (pe_tup (pK (pe_mk FM hr5 (pK eI pN)) (pK (pe_mk EM hr5 (pK eI pN)) (pK (pe_mk PM hr5 (pK eI (pK eI pN))) (pK (pe_mk PM hr5 (pK eI (pK eI pN)))
         (pK (pe_mk FM hr5 (pK eI pN)) (pK (pe_mk EM hr5 (pK eI pN)) (pK (pe_mk PM hr5 (pK eI (pK eI pN))) pN)))))))) (pv 1) (fun _ _ => rfl)))
       (sK if0% (s1' (sR (pe_fnX bdX xeX DA hr6 (pK (pe_lst (pK (pe_mk PM hr5 (pK eI (pK eI pN))) (pK (pv 3) pN))) (pK (pv 2) (pK (pe_tup (pK eI (pK eI pN))) pN)))))))), ?_⟩
     refine ⟨(z% 2), fun l nl => ⟨_, rfl, _, _, rfl, rfl, mk_house (sz := [3, 5]) uS hz35 fun p H1 s1 hh => ?_⟩⟩
     refine mk_fill (a := 0) (by decide) fun p0 H2 s2 m0 => mk_emp (a := 1) (by decide) fun p1 H3 s3 m1 => mk_pour (a := 0) (b := 2) (by decide) (by decide) (by decide) fun p2 H4 s4 m2 => mk_pour (a := 3) (b := 1) (by decide) (by decide) (by decide) fun p3 H5 s5 m3 =>
       mk_fill (a := 2) (by decide) fun p4 H6 s6 m4 => mk_emp (a := 3) (by decide) fun p5 H7 s7 m5 => mk_pour (a := 2) (b := 0) (by decide) (by decide) (by decide) fun p6 H8 s8 m6 => ⟨(z% 7), fun t nt => ?_⟩
     have s9 : Same H8 (upd H8 t (.tup [.ref p0, .ref p1, .ref p2, .ref p3, .ref p4, .ref p5, .ref p6])) := Same.new nt
     have s89 := s8.trans s9
     have s79 := s7.trans s89
     have s69 := s6.trans s79
     have s59 := s5.trans s69
     have s49 := s4.trans s59
     have s39 := s3.trans s49
     have s29 := s2.trans s39
     have s19 := (Same.new (o := .lst ([3, 5].map V.int)) nl).trans (s1.trans s29)
     obtain ⟨p', ep, mp⟩ := pickM (m0.mono s39) (m1.mono s49) (m2.mono s59) (m3.mono s69) (m4.mono s79) (m5.mono s89) (m6.mono s9) n hn
     obtain ⟨dp, hp⟩ := id mp
     refine ⟨_, rfl, t, _, _, _, rfl, rfl, SqT.of uS, atI_nat ep, ?_⟩
     refine ⟨_, rfl, rfl, _, rfl, iteN (by decide) (mk_pour (a := 0) (b := 1) (by decide) (by decide) (by decide) fun q Ha sa mq => ⟨_, rfl, (z% 2), fun x nx => ⟨_, rfl, (z% 2), fun u nu => ?_⟩⟩)⟩
     have sb : Same (upd H8 t (.tup [.ref p0, .ref p1, .ref p2, .ref p3, .ref p4, .ref p5, .ref p6])) (upd (upd Ha x (.lst [.ref q, .ref p'])) u (.tup [.int 3, .int 0])) := (sa.lay nx).lay nu
     exact ⟨_, p, _, [3, 5], _, rfl, hh.mono (s29.trans sb), .inr ⟨x, _, [.pour 0 1, mvW n], rfl, (Same.new nu) _ _ uS, .cons ⟨q, rfl, (mq.mono (Same.new nx)).mono (Same.new nu)⟩ (.cons ⟨p', rfl, mp.mono sb⟩ .nil),
       .inr ⟨u, [3, 0], [.pour 0 1], mvW n, [], rfl, uS, hst, hs0, rfl, fun y hy => by rw [List.mem_singleton.mp hy]; exact ⟨by decide, by decide, by decide⟩, hu, fun o H' s' => k o H' ((s19.trans sb).trans s')⟩⟩⟩
def sp_lgunfit (CG : Addr) : Sp := fun vs H _ E => ∃ (d n : Nat), vs = [.int d, .int n] ∧ d < 2 ∧ n < 6 ∧ ∀ o H', Same H H' → E (.ref CG) o H'
theorem ok_lgunfit {f : Addr} {fd : FuncData} (F : Fun K "_law_goal_unfit" "_law_goal_unfit" s__law_goal_unfit f fd) (HM : mk% 3 "House" CH ["self", "sizes", "tap"] (sp_House_init CH)) (OM : mk% 4 "Holds" G.H ["self", "jug", "many"] (sp_Holds_init G))
   (UM : mk% 5 "Sum" G.U ["self", "jugs", "many"] (sp_Sum_init G)) (WM : mk% 3 "Whole" G.W ["self", "state"] (sp_Whole_init G)) (CM : ∀ C, anyGo G C → mx% 5 C "come" ["self", "house", "state"] (sp_comeX G CH CS CG)) (FW : fx% 9 "fewest" ["house", "state", "goal"] (sp_fewestX G CH CS CG)) :
   fo% (CX1 P w) 10 f fd ["_law_door", "_law_way"] (sp_lgunfit CG) := by
 gok F.okX sc__law_goal_unfit
 · obtain ⟨d, n, rfl, _⟩ := h
   rfl
 · obtain ⟨d, n, rfl, hd, hn, k⟩ := h
   have nd := sc__law_goal_unfit.nd
   have hr4 : Room 4 _ := hr.mono (by decide)
   have hr5 : Room 5 _ := hr.mono (by decide)
   have hr6 : Room 6 _ := hr.mono (by decide)
   have hu := gunfitW n hn
   match d, hd with
   | 0, _ =>
     refine ⟨_, sK (sS (i := 2) nd rfl (Or.inl rfl) (pe_ix ix_tup (pe_tup (pK (pe_mk OM hr5 (pK eI (pK eI pN))) (pK (pe_mk UM hr6 (pK (pe_lst (pK eI (pK eI pN))) (pK eI pN)))
         (pK (pe_mk WM hr4 (pK (pe_tup (pK eI pN)) pN)) (pK (pe_mk WM hr4 (pK (pe_tup (pK eI (pK eI (pK eI pN)))) pN)) (pK (pe_mk WM hr4 (pK (pe_tup (pK eI (pK eI pN))) pN)) (pK (pe_mk WM hr4 (pK (pe_tup (pK eI (pK eI pN))) pN)) pN))))))) (pv 1) (fun _ _ => rfl)))
       (sK (ps_if (pt_cmpR op_eq (pv 0) eI (nomark _)) (s1' (sR (pe_meUX bdX xeX CM (pv 2) hr5 (pK (pe_mk HM hr4 (pK (pe_lst (pK eI (pK eI pN))) (pK pe_bl pN))) (pK (pe_tup (pK eI (pK eI pN))) pN))))) sV) sV), ?_⟩
     refine mk_holds (j := 2) (m := 0) (by decide) (by decide) (by decide) fun p0 H1 s1 m0 => ⟨(z% 2), fun a1 n1 => ?_⟩
     refine mk_sum (js := [0, 3]) (m := 1) uS (by decide) (by decide) (by decide) (by decide) (by decide) (by decide) fun p1 H2 s2 m1 => ⟨(z% 1), fun a2 n2 => ?_⟩
     refine mk_whole (st := [0]) uS (by decide) (by decide) (by decide) fun p2 H3 s3 m2 => ⟨(z% 3), fun a3 n3 => ?_⟩
     refine mk_whole (st := [0, 0, 0]) uS (by decide) (by decide) (by decide) fun p3 H4 s4 m3 => ⟨(z% 2), fun a4 n4 => ?_⟩
     refine mk_whole (st := [4, 0]) uS (by decide) (by decide) (by decide) fun p4 H5 s5 m4 => ⟨(z% 2), fun a5 n5 => ?_⟩
     refine mk_whole (st := [0, 6]) uS (by decide) (by decide) (by decide) fun p5 H6 s6 m5 => ⟨(z% 6), fun t nt => ?_⟩
     have s7 : Same H6 (upd H6 t (.tup [.ref p0, .ref p1, .ref p2, .ref p3, .ref p4, .ref p5])) := Same.new nt
     have s67 := ((Same.new (o := .tup ([0, 6].map V.int)) n5).trans s6).trans s7
     have s57 := ((Same.new (o := .tup ([4, 0].map V.int)) n4).trans s5).trans s67
     have s47 := ((Same.new (o := .tup ([0, 0, 0].map V.int)) n3).trans s4).trans s57
     have s37 := ((Same.new (o := .tup ([0].map V.int)) n2).trans s3).trans s47
     have s27 := ((Same.new (o := .lst ([0, 3].map V.int)) n1).trans s2).trans s37
     have s17 := s1.trans s27
     obtain ⟨p', ep, mp⟩ := pickG (m0.mono s27) (m1.mono s37) (m2.mono s47) (m3.mono s57) (m4.mono s67) (m5.mono s7) n hn
     obtain ⟨dp, fs, hp, hno⟩ := mp.no
     refine ⟨_, rfl, t, _, _, _, rfl, rfl, SqT.of uS, atI_nat ep, ?_⟩
     refine ⟨_, rfl, rfl, _, rfl, iteY rfl ⟨_, rfl, G.cl (goW n), p', dp, fs, anyGo.of G _, rfl, hp, hno, (z% 2), fun l nl => mk_house (sz := [3, 5]) uS hz35 fun h H8 s8 hh => ⟨(z% 2), fun u nu => ?_⟩⟩⟩
     have s9 : Same (upd H6 t (.tup [.ref p0, .ref p1, .ref p2, .ref p3, .ref p4, .ref p5])) (upd H8 u (.tup ([0, 0].map V.int))) := ((Same.new nl).trans s8).lay nu
     exact ⟨p', h, _, [3, 5], true, goW n, rfl, mp.mono s9, hh.mono (Same.new nu), .inr ⟨u, [0, 0], rfl, uS, ⟨rfl, by decide⟩, hu, fun o H' s' => k o H' ((s17.trans s9).trans s')⟩⟩
   | 1, _ =>
     refine ⟨_, sK (sS (i := 2) nd rfl (Or.inl rfl) (pe_ix ix_tup (pe_tup (pK (pe_mk OM hr5 (pK eI (pK eI pN))) (pK (pe_mk UM hr6 (pK (pe_lst (pK eI (pK eI pN))) (pK eI pN)))
         (pK (pe_mk WM hr4 (pK (pe_tup (pK eI pN)) pN)) (pK (pe_mk WM hr4 (pK (pe_tup (pK eI (pK eI (pK eI pN)))) pN)) (pK (pe_mk WM hr4 (pK (pe_tup (pK eI (pK eI pN))) pN)) (pK (pe_mk WM hr4 (pK (pe_tup (pK eI (pK eI pN))) pN)) pN))))))) (pv 1) (fun _ _ => rfl)))
       (sK if0% (s1' (sR (pe_fnX bdX xeX FW hr (pK (pe_mk HM hr4 (pK (pe_lst (pK eI (pK eI pN))) (pK pe_bl pN))) (pK (pe_tup (pK eI (pK eI pN))) (pK (pv 2) pN))))))), ?_⟩
     refine mk_holds (j := 2) (m := 0) (by decide) (by decide) (by decide) fun p0 H1 s1 m0 => ⟨(z% 2), fun a1 n1 => ?_⟩
     refine mk_sum (js := [0, 3]) (m := 1) uS (by decide) (by decide) (by decide) (by decide) (by decide) (by decide) fun p1 H2 s2 m1 => ⟨(z% 1), fun a2 n2 => ?_⟩
     refine mk_whole (st := [0]) uS (by decide) (by decide) (by decide) fun p2 H3 s3 m2 => ⟨(z% 3), fun a3 n3 => ?_⟩
     refine mk_whole (st := [0, 0, 0]) uS (by decide) (by decide) (by decide) fun p3 H4 s4 m3 => ⟨(z% 2), fun a4 n4 => ?_⟩
     refine mk_whole (st := [4, 0]) uS (by decide) (by decide) (by decide) fun p4 H5 s5 m4 => ⟨(z% 2), fun a5 n5 => ?_⟩
     refine mk_whole (st := [0, 6]) uS (by decide) (by decide) (by decide) fun p5 H6 s6 m5 => ⟨(z% 6), fun t nt => ?_⟩
     have s7 : Same H6 (upd H6 t (.tup [.ref p0, .ref p1, .ref p2, .ref p3, .ref p4, .ref p5])) := Same.new nt
     have s67 := ((Same.new (o := .tup ([0, 6].map V.int)) n5).trans s6).trans s7
     have s57 := ((Same.new (o := .tup ([4, 0].map V.int)) n4).trans s5).trans s67
     have s47 := ((Same.new (o := .tup ([0, 0, 0].map V.int)) n3).trans s4).trans s57
     have s37 := ((Same.new (o := .tup ([0].map V.int)) n2).trans s3).trans s47
     have s27 := ((Same.new (o := .lst ([0, 3].map V.int)) n1).trans s2).trans s37
     have s17 := s1.trans s27
     obtain ⟨p', ep, mp⟩ := pickG (m0.mono s27) (m1.mono s37) (m2.mono s47) (m3.mono s57) (m4.mono s67) (m5.mono s7) n hn
     obtain ⟨dp, fs, hp, hno⟩ := mp.no
     refine ⟨_, rfl, t, _, _, _, rfl, rfl, SqT.of uS, atI_nat ep, ?_⟩
     refine ⟨_, rfl, rfl, _, rfl, iteN (by decide) ⟨(z% 2), fun l nl => mk_house (sz := [3, 5]) uS hz35 fun h H8 s8 hh => ⟨(z% 2), fun u nu => ⟨_, rfl, ?_⟩⟩⟩⟩
     have s9 : Same (upd H6 t (.tup [.ref p0, .ref p1, .ref p2, .ref p3, .ref p4, .ref p5])) (upd H8 u (.tup ([3, 5].map V.int))) := ((Same.new nl).trans s8).lay nu
     exact ⟨h, _, _, [3, 5], false, rfl, hh.mono (Same.new nu), .inr ⟨u, [3, 5], rfl, uS, ⟨rfl, by decide⟩, .inr ⟨p', goW n, rfl, hz35, mp.mono s9, hu, fun o H' s' => k o H' ((s17.trans s9).trans s')⟩⟩⟩
end
end Jug
namespace Jug
open PySem L2
section
variable {X : Cx}
theorem op_isnotB : OpR X (compareOp .IsNot) (fun x y H Q => ∃ b c, x = .bl b ∧ y = .bl c ∧ Q (.bl (b != c)) H) := by
 intro pins s σ H x y v u Q I rx ry h
 obtain ⟨b, c, rfl, rfl, q⟩ := h
 cases rx
 cases ry
 exact PyProof.Rows.isnot_bool (fin_bl I q rfl)
end
theorem iteB {b : Bool} {A B : Prop} (hb : b = false) (h : B) : if b = true then A else B := by subst hb; exact iteF h
theorem moves1 : J.moves 1 false = [] := by decide
theorem wst7 : wst [60] false [7] = [[7]] := by decide +kernel
theorem len2000 : (J.states [49, 39]).length = 2000 := by
 have := J.len_states (sz := [49, 39]) (by decide)
 have e : J.prod1 [49, 39] = 2000 := by decide
 omega
section
v5%
variable {CH CS CB CG : Addr} {Z : Cz} {G : Gz} {z : Ez}
def sp_lgood : Sp := fun vs H Q _ => vs = [] ∧ ∀ H', Same H H' → Q (.bl true) H'
theorem ok_lgood {f : Addr} {fd : FuncData} (F : Fun K "_law_good" "_law_good" s__law_good f fd) (B : Bt mg) (HM : mk% 3 "House" CH ["self", "sizes", "tap"] (sp_House_init CH)) (MO : me% 7 CH "moves" ["self"] (sp_moves Z CH)) (ST : me% 2 CH "states" ["self"] (sp_states CH))
   (SM : mk% 3 "Some" G.S ["self", "many"] (sp_Some_init G)) (OM : mk% 4 "Holds" G.H ["self", "jug", "many"] (sp_Holds_init G)) (WM : mk% 3 "Whole" G.W ["self", "state"] (sp_Whole_init G)) (CM : ∀ C, anyGo G C → me% 5 C "come" ["self", "house", "state"] (sp_come G CH))
   (RE : fb% 9 "reached" ["house", "state"] (sp_reached CH)) : fo% CX0 10 f fd [] sp_lgood := by
 gok F.ok sc__law_good
 · obtain ⟨rfl, _⟩ := h
   rfl
 · obtain ⟨rfl, k⟩ := h
   have hr2 : Room 2 _ := hr.mono (by decide)
   have hr4 : Room 4 _ := hr.mono (by decide)
   have hr5 : Room 5 _ := hr.mono (by decide)
   have hr7 : Room 7 _ := hr.mono (by decide)
   have hu := hr.u20
   refine ⟨_, sK (ps_if (PW.pt (pw_or (pt_cmpR (op_neD hu) (pe_me0 MO (pe_mk HM hr4 (pK (pe_lst (pK eI pN)) (pK pe_bl pN))) hr7) (pe_lst pN) (nomark _))
       (pw_or1 (pt_cmpR op_ne (eZ call_len_seq (by rfl) B.len PySem.boot_len (pK (pe_me0 ST (pe_mk HM hr4 (pK (pe_lst (pK eI (pK eI pN))) (pK pe_bl pN))) hr2) pN)) eI (nomark _))))) sV sN)
     (sK (ps_if (PW.pt (pw_or (pt_cmpR op_isnotB (pe_me (CM G.S (.inr (.inl rfl))) (pe_mk SM hr4 (pK eI pN)) hr5 (pK (pe_mk HM hr4 (pK (pe_lst (pK eI pN)) (pK pe_bl pN))) (pK (pe_tup (pK eI pN)) pN))) pe_bl (nomark _))
       (pw_or1 (pt_cmpR op_isnotB (pe_me (CM G.H (.inl rfl)) (pe_mk OM hr5 (pK eI (pK eI pN))) hr5 (pK (pe_mk HM hr4 (pK (pe_lst (pK eI pN)) (pK pe_bl pN))) (pK (pe_tup (pK eI pN)) pN))) pe_bl (nomark _))))) sV sN)
     (s1' (sR (pe_and (pe_cmpR (op_eqD hu) (eF RE hr (pK (pe_mk HM hr4 (pK (pe_lst (pK eI pN)) (pK pe_bl pN))) (pK (pe_tup (pK eI pN)) pN))) (pe_lst (pK (pe_tup (pK eI pN)) pN)) (nomark _))
       (pe_one (pe_cmpR op_isB (pe_me (CM G.W (.inr (.inr (.inr rfl)))) (pe_mk WM hr4 (pK (pe_tup (pK eI pN)) pN)) hr5 (pK (pe_mk HM hr4 (pK (pe_lst (pK eI pN)) (pK pe_bl pN))) (pK (pe_tup (pK eI pN)) pN))) pe_bl (nomark _))))))), ?_⟩
   refine ⟨(z% 1), fun l nl => mk_house (sz := [60]) uS hz60 fun p H1 s1 hh => ?_⟩
   have t1 := (Same.new (o := .lst ([60].map V.int)) nl).trans s1
   obtain ⟨dx, t, hp, ht⟩ := id hh
   refine ⟨p, dx, _, rfl, hp, hF_no _ _ (by decide +kernel) (by decide +kernel), p, [60], false, rfl, hh, hz60, fun r H2 ys s2 nr er pr => ?_⟩
   have pr : Paired (isM Z H2) ys [] := moves1 ▸ pr
   cases pr
   refine ⟨(z% 0), fun e ne => ?_⟩
   refine ⟨_, rcL (s := []) (t := []) ((Same.new ne) _ _ er) uS, _, rfl, iteF ?_⟩
   have t2 := t1.trans (s2.lay (o := .lst []) ne)
   refine ⟨(z% 2), fun l2 nl2 => mk_house (sz := [49, 39]) uS hz4939 fun p2 H3 s3 hh2 => ?_⟩
   have t3 := t2.trans ((Same.new (o := .lst ([49, 39].map V.int)) nl2).trans s3)
   obtain ⟨dx2, tt2, hp2, ht2⟩ := id hh2
   refine ⟨p2, dx2, _, rfl, hp2, hF_no _ _ (by decide +kernel) (by decide +kernel), p2, [49, 39], true, rfl, hh2, hz4939, fun r2 H4 ys2 s4 nr2 er2 pr2 => ?_⟩
   have t4 := t3.trans s4
   have ly : ys2.length = 2000 := by rw [pr2.length]; exact len2000
   refine ⟨r2, _, rfl, .inl (SqL.of er2), rfl, _, rfl, iteNS (by rw [ly]; rfl) ?_⟩
   refine mk_some (m := 240) (by decide) (by decide) fun q H5 s5 mq => ?_
   obtain ⟨dq, hq⟩ := id mq
   refine ⟨q, dq, _, rfl, hq, soF_no _ (by decide +kernel), (z% 1), fun l3 nl3 => mk_house (sz := [3]) uS hz3 fun h3 H6 s6 hh3 => ⟨(z% 1), fun u3 nu3 => ?_⟩⟩
   have s56 := ((Same.new (o := .lst ([3].map V.int)) nl3).trans s6).lay (o := .tup ([0].map V.int)) nu3
   refine ⟨q, h3, u3, [3], true, [0], .som 240, rfl, mq.mono s56, hh3.mono (Same.new nu3), uS, ⟨rfl, by decide⟩, trivial, fun H7 s7 => ⟨_, _, rfl, rfl, _, rfl, iteB (by decide) ?_⟩⟩
   have t7 := t4.trans (s5.trans (s56.trans s7))
   refine mk_holds (j := 0) (m := 240) (by decide) (by decide) (by decide) fun q2 H8 s8 mq2 => ?_
   obtain ⟨dq2, hq2⟩ := id mq2
   refine ⟨q2, dq2, _, rfl, hq2, hoF_no _ _ (by decide +kernel) (by decide +kernel), (z% 1), fun l4 nl4 => mk_house (sz := [3]) uS hz3 fun h4 H9 s9 hh4 => ⟨(z% 1), fun u4 nu4 => ?_⟩⟩
   have s89 := ((Same.new (o := .lst ([3].map V.int)) nl4).trans s9).lay (o := .tup ([3].map V.int)) nu4
   refine ⟨q2, h4, u4, [3], false, [3], .holds 0 240, rfl, mq2.mono s89, hh4.mono (Same.new nu4), uS, ⟨rfl, by decide⟩, (by decide : 0 < 1), fun Ha sa => ⟨_, _, rfl, rfl, _, rfl, iteB (by decide) ?_⟩⟩
   have ta := t7.trans (s8.trans (s89.trans sa))
   refine ⟨(z% 1), fun l5 nl5 => mk_house (sz := [60]) uS hz60 fun h5 Hb sb hh5 => ⟨(z% 1), fun u5 nu5 => ?_⟩⟩
   refine ⟨h5, u5, [60], false, [7], rfl, hh5.mono (Same.new nu5), hz60, uS, ⟨rfl, by decide⟩, (by rw [wst7]; decide), fun r5 Hc ys5 sc nr5 er5 pr5 => ⟨(z% 1), fun v5 nv5 => ⟨(z% 1), fun w5 nw5 => ?_⟩⟩⟩
   rw [wst7] at pr5
   have sd : Same Hc (upd (upd Hc v5 (.tup ([7].map V.int))) w5 (.lst [.ref v5])) := (Same.new nv5).lay nw5
   refine ⟨_, rcLT (s := [[7]]) (t := [[7]]) (sd _ _ er5) (pt_fix pr5 (Fix.of sd)) uS (.cons ⟨v5, rfl, (Same.new nw5) _ _ uS⟩ .nil), _, rfl, iteT ?_⟩
   have td := ta.trans ((((Same.new (o := .lst ([60].map V.int)) nl5).trans sb).lay (o := .tup ([7].map V.int)) nu5).trans (sc.trans sd))
   refine ⟨(z% 1), fun a6 na6 => mk_whole (st := [60]) uS (by decide) (by decide) (by decide) fun q6 He se mq6 => ?_⟩
   obtain ⟨dq6, tq6, hq6, htq6⟩ := id mq6
   refine ⟨q6, dq6, _, rfl, hq6, whF_no _ (by decide +kernel), (z% 1), fun l6 nl6 => mk_house (sz := [60]) uS hz60 fun h6 Hf sf hh6 => ⟨(z% 1), fun u6 nu6 => ?_⟩⟩
   have sg := ((Same.new (o := .lst ([60].map V.int)) nl6).trans sf).lay (o := .tup ([60].map V.int)) nu6
   refine ⟨q6, h6, u6, [60], true, [60], .whole [60], rfl, mq6.mono sg, hh6.mono (Same.new nu6), uS, ⟨rfl, by decide⟩, ⟨rfl, by decide⟩, fun Hh sh => ⟨_, _, rfl, rfl, ?_⟩⟩
   exact k Hh (td.trans (((Same.new (o := .tup ([60].map V.int)) na6).trans se).trans (sg.trans sh)))
end
end Jug
namespace Jug
open PySem L2
theorem bt_range : bootBuiltins "range" = some (.type "range") := by decide +kernel
attribute [local irreducible] PSs PS PE PT PA PI PG
structure FunC (K : W.Frag) (x qual : Str) (st : Stmt) (f : Addr) (fd : FuncData) (c : Addr) : Prop where
 ex : ∃ (oc : Value) (od : Option Addr) (kV doc pm : Value) (an : Option Addr) (ct : Value) (osl : Array (Option Value)),
   fd = W.fnOf x qual (dA st) (dB st) (dZ st) .none kV doc pm an (.ref c) ct ∧ K.lookup f = some ⟨oc, od, .func fd, osl⟩ ∧ W.codeIn K (.ref c) qual = true
 kp : W.keepIn K (.ref f) = true
section
v5%
theorem FunC.ok {x qual : Str} {st : Stmt} {f c : Addr} {fd : FuncData} {N ps : List Str} {k : Nat} {sp : Sp} (F : FunC K x qual st f fd c) (S : fSc N ps (dZ st)) (len : ∀ vs H Q E, sp vs H Q E → vs.length = ps.length)
   (hbody : ∀ (A : Around) (outer : List Env) (s : Shared) (H : Hp) (vs : List V) (Q : VK) (E : XK), Room k (A.deeper (PyProof.Rows.envOfC qual (dZ st) s.heap.objs.size f (.ref c))) → sp vs H Q E →
     ∃ t, PSs (cxOf CX0 P w K mg base N qual (dZ st) f (.ref c) A outer s H E).nox (dB st) t ∧ t { nx := fun _ H' => Q .non H', rt := Q } (start N vs) H) : fo% CX0 (k + 1) f fd ps sp := by
 obtain ⟨oc, od, kV, doc, pm, an, ct, osl, rfl, lk, hcd⟩ := F.ex
 refine fn_of lk hcd S len fun A outer s H vs Q E hr hsp => ?_
 obtain ⟨t, h, q⟩ := hbody A outer s H vs Q E hr hsp
 exact ⟨t, h.nox, q⟩
end
theorem numB_out {i lo hi : Int} (h : i < lo ∨ hi < i) : numB (.int i) lo hi = false := by
 show (decide (lo ≤ i) && decide (i ≤ hi)) = false
 rcases h with h | h
 · rw [decide_eq_false (by omega), Bool.false_and]
 · rw [decide_eq_false (show ¬ i ≤ hi by omega), Bool.and_false]
theorem six {n far hi : Int} {x : Str} (hf : 0 ≤ far) (hn : hi < n) : ∀ u ∈ [V.int n, .int (n + far), .int (-1 - far), .bl true, .non, .str x], ∃ t, (∀ H, Kd H u t) ∧ numB u 0 hi = false := by
 intro u hu
 simp only [List.mem_cons, List.not_mem_nil, or_false] at hu
 rcases hu with rfl | rfl | rfl | rfl | rfl | rfl
 · exact ⟨_, fun _ => .int _, numB_out (.inr hn)⟩
 · exact ⟨_, fun _ => .int _, numB_out (.inr (by omega))⟩
 · exact ⟨_, fun _ => .int _, numB_out (.inl (by omega))⟩
 · exact ⟨_, fun _ => .bl _, rfl⟩
 · exact ⟨_, fun _ => .non, rfl⟩
 · exact ⟨_, fun _ => .str _, rfl⟩
section
v5%
variable {CH CS CB CG : Addr} {Z : Cz} {G : Gz} {z : Ez}
theorem lg_asks {H : Hp} {f : Addr} {fd : FuncData} {d : Nat} {v : V} {t : String} (F : fo% (CX1 P w) 10 f fd ["_law_door", "_law_bad"] (sp_lgoal z.G)) (hk : W.keepIn K (.ref f) = true) (hb : Binds K fd ["_law_door", "_law_bad"] [])
   (hd : d < 7) (kv : Kd H v t) (h0 : d = 0 ∨ d = 4 → numB v 0 3 = false) (h1 : 1 ≤ d ∧ d ≤ 3 → numB v 0 240 = false) (h5 : d = 5 → numB v 0 60 = false) : Asks P w K mg base 10 z 3 H f (.int d) v :=
 Asks.of F hk hb fun H1 s1 Q E hE => ⟨d, v, t, rfl, hd, kv.mono s1, h0, h1, h5, hE⟩
theorem gu_asks {H : Hp} {f : Addr} {fd : FuncData} {d n : Nat} (F : fo% (CX1 P w) 10 f fd ["_law_door", "_law_way"] (sp_lgunfit z.G)) (hk : W.keepIn K (.ref f) = true) (hb : Binds K fd ["_law_door", "_law_way"] [])
   (hd : d < 2) (hn : n < 6) : Asks P w K mg base 10 z 3 H f (.int d) (.int n) :=
 Asks.of F hk hb fun H1 s1 Q E hE => ⟨d, n, rfl, hd, hn, hE⟩
theorem sameB_of {H H' : Hp} {d : Addr} (s : Same H H') : SameB d H H' := fun b c e _ => s b c e
theorem SameB.trans {H H1 H2 : Hp} {d : Addr} (a : SameB d H H1) (b : SameB d H1 H2) : SameB d H H2 := fun c o e n => b c o (a c o e n) n
theorem triples_snoc {a b : Int} {t u : Nat} {c : Value} : ∀ (l : List Value), TriplesOk l → TriplesOk (l ++ [.int a t, .int b u, c])
 | [], _ => trivial
 | .int _ _ :: .int _ _ :: _ :: rest, h => triples_snoc rest h
def TabIs (H : Hp) (P2 : Addr) (pos : Pos) (qual : Str) (p0 : Array Value) : Prop := H P2 = some (.tbl p0) ∨ ∃ c', H P2 = some (.tbl (p0 ++ #[rawInt pos.line, rawInt pos.col, .ref c'])) ∧ H c' = some (codO c' qual)
def offB (d : Addr) (H : Hp) : Hp := fun b => if b = d then none else H b
theorem off_get {d a : Addr} {H : Hp} {o : HO} (h : H a = some o) (n : a ≠ d) : offB d H a = some o := by unfold offB; rw [if_neg n]; exact h
theorem same_off {d : Addr} {H H' : Hp} (s : SameB d H H') : Same (offB d H) H' := fun b o e => by
 unfold offB at e
 by_cases n : b = d
 · rw [if_pos n] at e; cases e
 · rw [if_neg n] at e; exact s b o e n
theorem lamStep {H : Hp} {P2 : Addr} {pos : Pos} {qual : Str} {p0 : Array Value} {ar : Arguments} {body : Expr} {sc : Scope} {σ : St} {Q : VK} (ht : TabIs H P2 pos qual p0) (tri : TriplesOk p0.toList) (hn : codeAmong pos p0.toList = none)
   (k : ∀ f c' H', SameB P2 H H' → H' f = some (lamO f qual ar body sc c') → H' c' = some (codO c' qual) → H' P2 = some (.tbl (p0 ++ #[rawInt pos.line, rawInt pos.col, .ref c'])) → Q (.ref f) H') : tLam P2 qual ar body sc pos σ H Q := by
 rcases ht with hP | ⟨c', hP, hc⟩
 · refine ⟨p0, hP, tri, .inl ⟨hn, fun c' f nc nf fc fP cP => k f c' _ (fun b o e n => ?_) uS ?_ ?_⟩⟩
   · rw [uN (nN e nf), uN (nN e nc), uN n]; exact e
   · rw [uN (Ne.symm fc), uS]
   · rw [uN (Ne.symm fP), uN (Ne.symm cP), uS]
 · have e : (p0 ++ #[rawInt pos.line, rawInt pos.col, .ref c']).toList = p0.toList ++ [rawInt pos.line, rawInt pos.col, .ref c'] := by simp
   refine ⟨_, hP, ?_, .inr ⟨c', ?_, fun f nf => k f c' _ (fun b o e n => by rw [uN (nN e nf)]; exact e) uS (by rw [uN (nN hc nf)]; exact hc) (by rw [uN (nN hP nf)]; exact hP)⟩⟩
   · rw [e]; exact triples_snoc _ tri
   · rw [e]; exact codeAmong_snoc _ tri hn
attribute [local irreducible] tLam
def sp_gright (P2 : Addr) : Sp := fun vs H Q _ => ∃ (far : Int) (e : Addr), vs = [.int far, .ref e] ∧ 0 ≤ far ∧ H e = some (.lst ((dueL 3).map V.bl)) ∧ H P2 = some (.tbl #[]) ∧ ∀ H', SameB P2 H H' → Q (.bl true) H'
theorem ok_gright {f c2 P2 : Addr} {fd : FuncData} (F : FunC K "_law_goals_right" "_law_goals_right" s__law_goals_right f fd c2) (B : Bt mg) (hC : W.CodeHd base c2 P2) (bm : BMain mg base)
   (AL : fb% 12 "_law_all" ["_law_ask", "_law_doors", "_law_things", "_law_due"] (sp_all P w K mg base 10 z)) (T : fb% 11 "_law_told" ["_law_ask", "_law_one", "_law_other"] (sp_told P w K mg base 10 z))
   (GX : fx% 10 "_law_with_goal" ["_law_door", "_law_bad"] (sp_lgoal z.G)) (UX : fx% 10 "_law_goal_unfit" ["_law_door", "_law_way"] (sp_lgunfit z.G))
   (SX : kx% 5 "Sum" G.U ["self", "jugs", "many"] (sp_Sum_initX G z.G)) (WX : kx% 3 "Whole" G.W ["self", "state"] (sp_Whole_initX z.G)) : fo% CX0 13 f fd ["_law_far", "_law_due"] (sp_gright P2) := by
 obtain ⟨fG, fdG, FG, mG, kG, bG⟩ := GX
 obtain ⟨fU, fdU, FU, mU, kU, bU⟩ := UX
 refine F.ok sc__law_goals_right (fun vs H Q E h => ?_) (fun A outer s H vs Q E hr h => ?_)
 · obtain ⟨far, e, rfl, _⟩ := h
   rfl
 · obtain ⟨far, e, rfl, hf, he, hP, k⟩ := h
   have nd := sc__law_goals_right.nd
   have hu := hr.u20
   have hr11 : Room 11 _ := hr.mono (by decide)
   refine ⟨_, sK (ps_if (pt_not (pt_val (eF AL hr (pK (pe_glob (v := .ref fG) (by rfl) mG rfl) (pK (pe_lst (pK eI (pK eI pN))) (pK (pe_lst (pK eI (pK (pe_op op_add eI (pv 0)) (pK (pe_op op_sub (pe_un un_neg eI) (pv 0)) (pK pe_bl (pK pe_non (pK pe_str pN))))))) (pK (pv 1) pN))))))) sV sN)
     (sK (ps_if (pt_not (pt_val (eF AL hr (pK (pe_glob (v := .ref fG) (by rfl) mG rfl) (pK (pe_lst (pK eI (pK eI (pK eI pN)))) (pK (pe_lst (pK eI (pK (pe_op op_add eI (pv 0)) (pK (pe_op op_sub (pe_un un_neg eI) (pv 0)) (pK pe_bl (pK pe_non (pK pe_str pN))))))) (pK (pv 1) pN))))))) sV sN)
     (sK (ps_if (pt_not (pt_val (eF AL hr (pK (pe_glob (v := .ref fG) (by rfl) mG rfl) (pK (pe_lst (pK eI pN)) (pK (pe_lst (pK eI (pK (pe_op op_add eI (pv 0)) (pK (pe_op op_sub (pe_un un_neg eI) (pv 0)) (pK pe_bl (pK pe_non (pK pe_str pN))))))) (pK (pv 1) pN))))))) sV sN)
     (sK (ps_if (pt_not (pt_val (eF AL hr (pK (pe_glob (v := .ref fG) (by rfl) mG rfl) (pK (pe_lst (pK eI pN)) (pK (pe_lst (pK pe_non (pK eI (pK (pe_tup (pK eI (pK eI pN))) (pK pe_str pN))))) (pK (pv 1) pN))))))) sV sN)
     (sK (ps_for PassesOwn.never rfl (pi_list (pe_lst (pK pe_non (pK (pe_lst pN) (pK (pe_tup (pK eI (pK eI pN))) (pK (pe_lst (pK eI (pK eI pN))) (pK (pe_lst (pK eI (pK eI (pK eI pN)))) (pK pe_str pN)))))))) (pg_name (i := 2) nd rfl (Or.inl rfl))
       (s1' (ps_if (pt_cmpR (op_neD hu) (eF T hr11 (pK (pe_lam rfl hC rfl rfl rfl rfl bm) (pK (pv 2) (pK eI pN)))) (pv 1) (nomark _)) sV sN)))
     (sK (ps_for PassesOwn.never rfl (pi_list (pe_lst (pK pe_non (pK (pe_lst (pK eI (pK eI pN))) (pK pe_str (pK (pe_tup (pK eI (pK eI (pK eI (pK eI (pK eI pN)))))) (pK eI (pK (pe_tup pN) pN)))))))) (pg_name (i := 3) nd rfl (Or.inl rfl))
       (s1' (ps_if (pt_cmpR (op_neD hu) (eF T hr11 (pK (pe_lam rfl hC rfl rfl rfl rfl bm) (pK (pv 3) (pK eI pN)))) (pv 1) (nomark _)) sV sN)))
     (s1' (sR (eF AL hr (pK (pe_glob (v := .ref fU) (by rfl) mU rfl) (pK (pe_lst (pK eI (pK eI pN))) (pK (eT (call_list_rng rfl) (by rfl) B.list bt_list (pK (eT call_rangeR (by rfl) B.range bt_range (pK eI pN)) pN)) (pK (pv 1) pN)))))))))))), ?_⟩
   refine ⟨(z% 2), fun d1 n1 => ⟨_, rfl, _, _, rfl, rfl, _, rfl, _, rfl, _, _, rfl, rfl, (z% 6), fun t1 m1 => ⟨_, rfl, fG, d1, t1, e, 3, _, _, rfl, by decide, (Same.new m1) _ _ uS, uS, ((Same.new n1).lay m1) _ _ he, fun v hv u hu => ?_, fun H1 s1 => ⟨_, rfl, iteF ?_⟩⟩⟩⟩
   · obtain ⟨t, kt, hb⟩ := six (hi := 3) hf (by decide) u hu
     simp only [List.mem_cons, List.not_mem_nil, or_false] at hv
     rcases hv with rfl | rfl
     · exact lg_asks (d := 0) FG kG bG (by decide) (kt _) (fun _ => hb) (fun h => absurd h (by decide)) (fun h => absurd h (by decide))
     · exact lg_asks (d := 4) FG kG bG (by decide) (kt _) (fun _ => hb) (fun h => absurd h (by decide)) (fun h => absurd h (by decide))
   have q1 := ((Same.new (o := .lst [.int 0, .int 4]) n1).lay m1).trans s1
   have e1 := q1 _ _ he
   refine ⟨(z% 3), fun d2 n2 => ⟨_, rfl, _, _, rfl, rfl, _, rfl, _, rfl, _, _, rfl, rfl, (z% 6), fun t2 m2 => ⟨_, rfl, fG, d2, t2, e, 3, _, _, rfl, by decide, (Same.new m2) _ _ uS, uS, ((Same.new n2).lay m2) _ _ e1, fun v hv u hu => ?_, fun H2 s2 => ⟨_, rfl, iteF ?_⟩⟩⟩⟩
   · obtain ⟨t, kt, hb⟩ := six (hi := 240) hf (by decide) u hu
     simp only [List.mem_cons, List.not_mem_nil, or_false] at hv
     rcases hv with rfl | rfl | rfl
     · exact lg_asks (d := 1) FG kG bG (by decide) (kt _) (fun h => absurd h (by decide)) (fun _ => hb) (fun h => absurd h (by decide))
     · exact lg_asks (d := 2) FG kG bG (by decide) (kt _) (fun h => absurd h (by decide)) (fun _ => hb) (fun h => absurd h (by decide))
     · exact lg_asks (d := 3) FG kG bG (by decide) (kt _) (fun h => absurd h (by decide)) (fun _ => hb) (fun h => absurd h (by decide))
   have q2 := q1.trans (((Same.new (o := .lst [.int 1, .int 2, .int 3]) n2).lay m2).trans s2)
   have e2 := q2 _ _ he
   refine ⟨(z% 1), fun d3 n3 => ⟨_, rfl, _, _, rfl, rfl, _, rfl, _, rfl, _, _, rfl, rfl, (z% 6), fun t3 m3 => ⟨_, rfl, fG, d3, t3, e, 3, _, _, rfl, by decide, (Same.new m3) _ _ uS, uS, ((Same.new n3).lay m3) _ _ e2, fun v hv u hu => ?_, fun H3 s3 => ⟨_, rfl, iteF ?_⟩⟩⟩⟩
   · obtain ⟨t, kt, hb⟩ := six (hi := 60) hf (by decide) u hu
     simp only [List.mem_cons, List.not_mem_nil, or_false] at hv
     subst hv
     exact lg_asks (d := 5) FG kG bG (by decide) (kt _) (fun h => absurd h (by decide)) (fun h => absurd h (by decide)) (fun _ => hb)
   have q3 := q2.trans (((Same.new (o := .lst [.int 5]) n3).lay m3).trans s3)
   have e3 := q3 _ _ he
   refine ⟨(z% 1), fun d4 n4 => ⟨(z% 2), fun p4 o4 => ⟨(z% 4), fun t4 m4 => ⟨_, rfl, fG, d4, t4, e, 3, _, _, rfl, by decide, ((Same.new o4).lay m4) _ _ uS, uS, (((Same.new n4).lay o4).lay m4) _ _ e3, fun v hv u hu => ?_, fun H4 s4 => ⟨_, rfl, iteF ?_⟩⟩⟩⟩⟩
   · have hb : ∃ t, Kd (upd (upd (upd H3 d4 (.lst [.int 6])) p4 (.tup [.int 0, .int 0])) t4 (.lst [.non, .int 0, .ref p4, .str "some 1"])) u t := by
       simp only [List.mem_cons, List.not_mem_nil, or_false] at hu
       rcases hu with rfl | rfl | rfl | rfl
       · exact ⟨_, .non⟩
       · exact ⟨_, .int _⟩
       · exact ⟨_, .tup ((Same.new m4) _ _ uS)⟩
       · exact ⟨_, .str _⟩
     obtain ⟨t, kt⟩ := hb
     simp only [List.mem_cons, List.not_mem_nil, or_false] at hv
     subst hv
     exact lg_asks (d := 6) FG kG bG (by decide) kt (fun h => absurd h (by decide)) (fun h => absurd h (by decide)) (fun h => absurd h (by decide))
   have q4 := q3.trans ((((Same.new (o := .lst [.int 6]) n4).lay (o := .tup [.int 0, .int 0]) o4).lay m4).trans s4)
   have hP4 := q4 _ _ hP
   refine ⟨(z% 0), fun a1 na1 => ⟨(z% 2), fun a2 na2 => ⟨(z% 2), fun a3 na3 => ⟨(z% 3), fun a4 na4 => ⟨(z% 6), fun L nL => ?_⟩⟩⟩⟩⟩
   have sL : Same H4 (upd (upd (upd (upd (upd H4 a1 (.lst [])) a2 (.tup [.int 0, .int 1])) a3 (.lst [.int 1, .int 1])) a4 (.lst [.int 0, .int 1, .int 0])) L (.lst [.non, .ref a1, .ref a2, .ref a3, .ref a4, .str "01"])) := ((((Same.new na1).lay na2).lay na3).lay na4).lay nL
   have g4 := (Same.new (o := .lst [.non, .ref a1, .ref a2, .ref a3, .ref a4, .str "01"]) nL) _ _ (uS (o := .lst [.int 0, .int 1, .int 0]))
   have g3 := ((Same.new (o := .lst [.int 0, .int 1, .int 0]) na4).lay (o := .lst [.non, .ref a1, .ref a2, .ref a3, .ref a4, .str "01"]) nL) _ _ (uS (o := .lst [.int 1, .int 1]))
   have g2 := (((Same.new (o := .lst [.int 1, .int 1]) na3).lay (o := .lst [.int 0, .int 1, .int 0]) na4).lay (o := .lst [.non, .ref a1, .ref a2, .ref a3, .ref a4, .str "01"]) nL) _ _ (uS (o := .tup [.int 0, .int 1]))
   have g1 := ((((Same.new (o := .tup [.int 0, .int 1]) na2).lay (o := .lst [.int 1, .int 1]) na3).lay (o := .lst [.int 0, .int 1, .int 0]) na4).lay (o := .lst [.non, .ref a1, .ref a2, .ref a3, .ref a4, .str "01"]) nL) _ _ (uS (o := .lst []))
   have gL : (upd (upd (upd (upd (upd H4 a1 (.lst [])) a2 (.tup [.int 0, .int 1])) a3 (.lst [.int 1, .int 1])) a4 (.lst [.int 0, .int 1, .int 0])) L (.lst [.non, .ref a1, .ref a2, .ref a3, .ref a4, .str "01"])) L = some (.lst [.non, .ref a1, .ref a2, .ref a3, .ref a4, .str "01"]) := uS
   generalize hHL : (upd (upd (upd (upd (upd H4 a1 (.lst [])) a2 (.tup [.int 0, .int 1])) a3 (.lst [.int 1, .int 1])) a4 (.lst [.int 0, .int 1, .int 0])) L (.lst [.non, .ref a1, .ref a2, .ref a3, .ref a4, .str "01"])) = HL at *
   have hPL := sL _ _ hP4
   have heL := sL _ _ (q4 _ _ he)
   have nP : ∀ {b : Addr} {o : HO}, HL b = some o → o ≠ .tbl #[] → b ≠ P2 := fun {b o} e n z => by rw [z, hPL] at e; cases e; exact n rfl
   have hall : ∀ v ∈ [V.non, .ref a1, .ref a2, .ref a3, .ref a4, .str "01"], BadJs (offB P2 HL) v := by
     intro v hv
     simp only [List.mem_cons, List.not_mem_nil, or_false] at hv
     rcases hv with rfl | rfl | rfl | rfl | rfl | rfl
     · exact .inl ⟨_, .non, by decide⟩
     · exact .inr ⟨_, _, rfl, off_get g1 (nP g1 (by intro z; cases z)), fun x hx => (by cases hx), .inr ⟨[], rfl, by decide, .inl rfl⟩⟩
     · exact .inl ⟨_, .tup (off_get g2 (nP g2 (by intro z; cases z))), by decide⟩
     · exact .inr ⟨_, _, rfl, off_get g3 (nP g3 (by intro z; cases z)), fun x hx => by simp only [List.mem_cons, List.not_mem_nil, or_false] at hx; rcases hx with rfl | rfl <;> exact ⟨_, .int _⟩, .inr ⟨[1, 1], rfl, by decide, .inr (by decide)⟩⟩
     · exact .inr ⟨_, _, rfl, off_get g4 (nP g4 (by intro z; cases z)), fun x hx => by simp only [List.mem_cons, List.not_mem_nil, or_false] at hx; rcases hx with rfl | rfl | rfl <;> exact ⟨_, .int _⟩, .inr ⟨[0, 1, 0], rfl, by decide, .inr (by decide)⟩⟩
     · exact .inl ⟨_, .str _, by decide⟩
   refine ⟨L, rfl, ⟨_, SqL.of gL⟩, for_list (K := K) (a := L) (xs := [V.non, .ref a1, .ref a2, .ref a3, .ref a4, .str "01"]) (fun i σ H' => (∃ v2 v3, σ = [some (.int far), some (.ref e), v2, v3]) ∧ SameB P2 HL H' ∧ TabIs H' P2 ⟨419, 21, 419, 66⟩ ((("_law_goals_right" : Str) ++ ".<locals>.") ++ "<lambda>") #[])
     ⟨⟨none, none, rfl⟩, sameB_of (Same.refl _), .inl hPL⟩ (fun i σ H' _ ⟨_, sB, _⟩ => SqL.of (sB _ _ gL (nP gL (by intro z; cases z)))) ?_ ?_⟩
   · rintro i v σ H5 hv ⟨⟨v2, v3, rfl⟩, sB, hT⟩
     refine lamStep hT trivial rfl fun fl c' H6 s6 hfl hc' hP6 => ⟨_, rfl, ?_⟩
     have sB6 := sB.trans s6
     have bad := (hall v (List.mem_of_getElem? hv)).mono (same_off sB6)
     refine ⟨fl, 3, v, .int 0, rfl, by decide, fun H7 s7 => ⟨lam_fnal (s7 _ _ hfl), fun Q' E' hE => lam_of (k := 9) (N := ["_law_one", "_law_other"]) (ps := ["_law_one", "_law_other"]) r7% (s7 _ _ hfl) (s7 _ _ hc') rfl (fun pm ctv us hl => match us, hl with | [_, _], _ => rfl) fun A' o' s' hr' => ?_⟩, fun l H8 s8 e8 => ?_⟩
     · exact ⟨_, pe_mkX bdX xeX SX (hr'.mono (by decide)) (pK (pv 0) (pK eI pN)), ⟨_, rfl, mk_sumX (.inl (bad.mono s7)) hE⟩⟩
     · have sB8 := sB6.trans (sameB_of s8)
       refine ⟨_, rfl, _, rcB e8 (sB8 _ _ heL (nP heL (by intro z; cases z))), _, rfl, ?_⟩
       rw [decide_eq_true rfl]
       exact iteF ⟨⟨_, _, rfl⟩, sB8, .inr ⟨c', s8 _ _ hP6, s8 _ _ hc'⟩⟩
   · rintro σ H5 ⟨⟨v2, v3, rfl⟩, sB5, hT5⟩
     obtain ⟨p0, hp0, tri0, hn0⟩ : ∃ p0, H5 P2 = some (.tbl p0) ∧ TriplesOk p0.toList ∧ codeAmong ⟨422, 21, 422, 65⟩ p0.toList = none := by
       rcases hT5 with h | ⟨c', h, _⟩
       · exact ⟨_, h, trivial, rfl⟩
       · exact ⟨_, h, trivial, rfl⟩
     have he5 := sB5 _ _ heL (nP heL (by intro z; cases z))
     refine ⟨(z% 2), fun b1 nb1 => ⟨(z% 5), fun b2 nb2 => ⟨(z% 0), fun b3 nb3 => ⟨(z% 6), fun M nM => ?_⟩⟩⟩⟩
     have sM : Same H5 (upd (upd (upd (upd H5 b1 (.lst [.int 0, .int 0])) b2 (.tup [.int 0, .int 0, .int 0, .int 0, .int 0])) b3 (.tup [])) M (.lst [.non, .ref b1, .str "00", .ref b2, .int 3, .ref b3])) := (((Same.new nb1).lay nb2).lay nb3).lay nM
     have k3 := (Same.new (o := .lst [.non, .ref b1, .str "00", .ref b2, .int 3, .ref b3]) nM) _ _ (uS (o := .tup []))
     have k2 := ((Same.new (o := .tup []) nb3).lay (o := .lst [.non, .ref b1, .str "00", .ref b2, .int 3, .ref b3]) nM) _ _ (uS (o := .tup [.int 0, .int 0, .int 0, .int 0, .int 0]))
     have k1 := (((Same.new (o := .tup [.int 0, .int 0, .int 0, .int 0, .int 0]) nb2).lay (o := .tup []) nb3).lay (o := .lst [.non, .ref b1, .str "00", .ref b2, .int 3, .ref b3]) nM) _ _ (uS (o := .lst [.int 0, .int 0]))
     have kM : (upd (upd (upd (upd H5 b1 (.lst [.int 0, .int 0])) b2 (.tup [.int 0, .int 0, .int 0, .int 0, .int 0])) b3 (.tup [])) M (.lst [.non, .ref b1, .str "00", .ref b2, .int 3, .ref b3])) M = some (.lst [.non, .ref b1, .str "00", .ref b2, .int 3, .ref b3]) := uS
     generalize hHM : (upd (upd (upd (upd H5 b1 (.lst [.int 0, .int 0])) b2 (.tup [.int 0, .int 0, .int 0, .int 0, .int 0])) b3 (.tup [])) M (.lst [.non, .ref b1, .str "00", .ref b2, .int 3, .ref b3])) = HM at *
     have hPM := sM _ _ hp0
     have heM := sM _ _ he5
     have nQ : ∀ {b : Addr} {o : HO}, HM b = some o → (∀ ps, o ≠ .tbl ps) → b ≠ P2 := fun {b o} e n z => by rw [z, hPM] at e; cases e; exact n _ rfl
     have hall2 : ∀ v ∈ [V.non, .ref b1, .str "00", .ref b2, .int 3, .ref b3], BadAm (offB P2 HM) v := by
       intro v hv
       simp only [List.mem_cons, List.not_mem_nil, or_false] at hv
       rcases hv with rfl | rfl | rfl | rfl | rfl | rfl
       · exact .inl ⟨_, .non, by decide⟩
       · exact .inl ⟨_, .lst (off_get k1 (nQ k1 (by intro _ z; cases z))), by decide⟩
       · exact .inl ⟨_, .str _, by decide⟩
       · exact .inr ⟨_, _, rfl, off_get k2 (nQ k2 (by intro _ z; cases z)), fun x hx => by simp only [List.mem_cons, List.not_mem_nil, or_false] at hx; rcases hx with rfl | rfl | rfl | rfl | rfl <;> exact ⟨_, .int _⟩, .inr (.inl (by decide))⟩
       · exact .inl ⟨_, .int _, by decide⟩
       · exact .inr ⟨_, _, rfl, off_get k3 (nQ k3 (by intro _ z; cases z)), fun x hx => (by cases hx), .inl rfl⟩
     refine ⟨M, rfl, ⟨_, SqL.of kM⟩, for_list (K := K) (a := M) (xs := [V.non, .ref b1, .str "00", .ref b2, .int 3, .ref b3]) (fun i σ H' => (∃ v2 v3, σ = [some (.int far), some (.ref e), v2, v3]) ∧ SameB P2 HM H' ∧ TabIs H' P2 ⟨422, 21, 422, 65⟩ ((("_law_goals_right" : Str) ++ ".<locals>.") ++ "<lambda>") p0)
       ⟨⟨_, _, rfl⟩, sameB_of (Same.refl _), .inl hPM⟩ (fun i σ H' _ ⟨_, sB, _⟩ => SqL.of (sB _ _ kM (nQ kM (by intro _ z; cases z)))) ?_ ?_⟩
     · rintro i v σ H6 hv ⟨⟨v2, v3, rfl⟩, sB, hT⟩
       refine lamStep hT tri0 hn0 fun fl c' H7 s7 hfl hc' hP7 => ⟨_, rfl, ?_⟩
       have sB7 := sB.trans s7
       have bad := (hall2 v (List.mem_of_getElem? hv)).mono (same_off sB7)
       refine ⟨fl, 3, v, .int 0, rfl, by decide, fun H8 s8 => ⟨lam_fnal (s8 _ _ hfl), fun Q' E' hE => lam_of (k := 9) (N := ["_law_one", "_law_other"]) (ps := ["_law_one", "_law_other"]) r7% (s8 _ _ hfl) (s8 _ _ hc') rfl (fun pm ctv us hl => match us, hl with | [_, _], _ => rfl) fun A' o' s' hr' => ?_⟩, fun l H9 s9 e9 => ?_⟩
       · exact ⟨_, pe_mkX bdX xeX WX (hr'.mono (by decide)) (pK (pv 0) pN), ⟨_, rfl, mk_wholeX (bad.mono s8) hE⟩⟩
       · have sB9 := sB7.trans (sameB_of s9)
         refine ⟨_, rfl, _, rcB e9 (sB9 _ _ heM (nQ heM (by intro _ z; cases z))), _, rfl, ?_⟩
         rw [decide_eq_true rfl]
         exact iteF ⟨⟨_, _, rfl⟩, sB9, .inr ⟨c', s9 _ _ hP7, s9 _ _ hc'⟩⟩
     · rintro σ H6 ⟨⟨v2, v3, rfl⟩, sB6, _⟩
       have he6 := sB6 _ _ heM (nQ heM (by intro _ z; cases z))
       refine ⟨(z% 2), fun d5 n5 => ⟨6, rfl, fun r5 nr5 => ⟨r5, 6, rfl, uS, by decide, by decide, fun l5 nl5 => ⟨_, rfl, fU, d5, l5, e, 3, _, _, rfl, by decide, ((Same.new nr5).lay nl5) _ _ uS, uS, (((Same.new n5).lay nr5).lay nl5) _ _ he6, fun v hv u hu => ?_, fun H7 s7 => ?_⟩⟩⟩⟩
       · obtain ⟨n, hn, rfl⟩ := List.mem_map.mp hu
         have hn := List.mem_range.mp hn
         have hn : n < 6 := hn
         simp only [List.mem_cons, List.not_mem_nil, or_false] at hv
         rcases hv with rfl | rfl
         · exact gu_asks (d := 0) FU kU bU (by decide) hn
         · exact gu_asks (d := 1) FU kU bU (by decide) hn
       · exact k H7 ((sameB_of (q4.trans sL)).trans (sB5.trans ((sameB_of sM).trans (sB6.trans (sameB_of ((((Same.new n5).lay nr5).lay nl5).trans s7))))))
end
end Jug
namespace Jug
open PySem L2
section
v5%
variable {CH : Addr}
def sp_cell_at (K : W.Frag) : Sp := fun vs H Q _ => ∃ (a : Addr) (ns : List Int) (k : Int), vs = [.ref a, .int k] ∧ SqL K H a (ns.map V.int) ∧ 0 ≤ k ∧ ∀ c : Int, Q (.int c) H
theorem ok_cell_at {f : Addr} {fd : FuncData} (F : Fun K "_law_cell_at" "_law_cell_at" s__law_cell_at f fd) (B : Bt mg) : fo% CX0 1 f fd ["_law_script", "_law_k"] (sp_cell_at K) := by
 gok F.ok sc__law_cell_at
 · obtain ⟨a, ns, k, rfl, _⟩ := h
   rfl
 · obtain ⟨a, ns, k, rfl, ha, hk, q⟩ := h
   refine ⟨_, sK (ps_if (pt_cmpR op_lt (pv 1) (eZ call_len_seq (by rfl) B.len PySem.boot_len (pK (pv 0) pN)) (nomark _)) (s1' (sR (pe_ix ix_list (pv 0) (pv 1) (fun _ _ => rfl)))) sN) (s1' (sR eI)), ?_⟩
   refine ⟨_, rfl, _, rfl, a, _, rfl, .inl ha, _, _, rfl, rfl, _, rfl, ite2 (fun hlt => ?_) (fun _ => q 0)⟩
   have hlt : k < ((ns.map V.int).length : Int) := of_decide_eq_true hlt
   rw [List.length_map] at hlt
   refine ⟨_, rfl, _, rfl, a, _, _, .int (J.at0 ns k.toNat), rfl, rfl, ha, ?_, q _⟩
   have e : ((k.toNat : Nat) : Int) = k := Int.toNat_of_nonneg hk
   rw [← e]
   exact atI_nat (getV_of (by omega))
end
attribute [local irreducible] PSs PS PE PT PA PI PG tLam
section
v5%
variable {CH CS CB CG : Addr} {Z : Cz} {G : Gz} {z : Ez}
theorem lh_asks {H : Hp} {f : Addr} {fd : FuncData} {d : Int} {v : V} (F : fo% (CX1 P w) 10 f fd ["_law_door", "_law_bad"] (sp_lhouse z.B)) (hk : W.keepIn K (.ref f) = true) (hb : Binds K fd ["_law_door", "_law_bad"] [])
   (h : (d = 0 ∧ BadSz H v) ∨ (d = 1 ∧ ∃ t, Kd H v t ∧ t ≠ "bool")) : Asks P w K mg base 10 z 0 H f (.int d) v :=
 Asks.of F hk hb fun H1 s1 Q E hE => ⟨d, v, rfl, h.imp (fun ⟨a, b⟩ => ⟨a, b.mono s1⟩) (fun ⟨a, t, k, n⟩ => ⟨a, t, k.mono s1, n⟩), hE⟩
theorem ls_asks {H : Hp} {f : Addr} {fd : FuncData} {d : Nat} {v : V} (F : fo% (CX1 P w) 10 f fd ["_law_door", "_law_bad"] (sp_lstate z.S)) (hk : W.keepIn K (.ref f) = true) (hb : Binds K fd ["_law_door", "_law_bad"] [])
   (hd : d < 9) (h : BadSt H [3, 5] v) : Asks P w K mg base 10 z 1 H f (.int d) v :=
 Asks.of F hk hb fun H1 s1 Q E hE => ⟨d, v, rfl, hd, h.mono s1, hE⟩
theorem lm_asks {H : Hp} {f : Addr} {fd : FuncData} {d : Nat} {v : V} {t : String} (F : fo% (CX1 P w) 10 f fd ["_law_door", "_law_bad"] (sp_lmove Z z.M)) (hk : W.keepIn K (.ref f) = true) (hb : Binds K fd ["_law_door", "_law_bad"] [])
   (hd : d < 7) (kv : Kd H v t) (h0 : d = 0 → numB v 0 3 = false ∨ v = .int 1) (h1 : d = 1 → numB v 0 3 = false ∨ v = .int 0) (h2 : 2 ≤ d → numB v 0 3 = false) (h5 : d = 5 → BadMvs Z H v) : Asks P w K mg base 10 z 2 H f (.int d) v :=
 Asks.of F hk hb fun H1 s1 Q E hE => ⟨d, v, t, rfl, hd, kv.mono s1, h0, h1, h2, fun e => (h5 e).mono s1, hE⟩
theorem lu_asks {H : Hp} {f : Addr} {fd : FuncData} {d n : Nat} (F : fo% (CX1 P w) 10 f fd ["_law_door", "_law_way"] (sp_lunfit z.M)) (hk : W.keepIn K (.ref f) = true) (hb : Binds K fd ["_law_door", "_law_way"] [])
   (hd : d < 2) (hn : n < 7) : Asks P w K mg base 10 z 2 H f (.int d) (.int n) :=
 Asks.of F hk hb fun H1 s1 Q E hE => ⟨d, n, rfl, hd, hn, hE⟩
theorem dueV : ∀ (i : Nat), i < 4 → [V.bl (decide (V.int (i : Int) = V.int 0)), .bl (decide (V.int (i : Int) = V.int 1)), .bl (decide (V.int (i : Int) = V.int 2)), .bl (decide (V.int (i : Int) = V.int 3)), .bl false, .bl true] = (dueL i).map V.bl
 | 0, _ => rfl
 | 1, _ => rfl
 | 2, _ => rfl
 | 3, _ => rfl
theorem upd_keep {H : Hp} {b c : Addr} {o u : HO} (h : H b = some o) (n : H c = none) : (upd H c u) b = some o := by rw [uN (nN h n)]; exact h
macro "at_" : tactic => `(tactic| (repeat (first | exact uS | assumption | (refine upd_keep ?_ (by assumption)))))
def imB : V → Bool
 | .non => true
 | .bl _ => true
 | .int _ => true
 | .str _ => true
 | _ => false
theorem imB_im {v : V} (h : imB v = true) : Im v := by
 cases v with
 | non => exact .non
 | bl b => exact .bl b
 | int i => exact .int i
 | str x => exact .str x
 | byt b => cases h
 | flt b => cases h
 | ref a => cases h
 | ty n => cases h
theorem bst {H : Hp} {a : Addr} {xs : List V} (e : H a = some (.tup xs)) (hi : xs.all imB = true) (n : okSt xs [3, 5] = false) : BadSt H [3, 5] (.ref a) :=
 .inr ⟨a, xs, rfl, e, fun x hx => imB_im (List.all_eq_true.mp hi x hx), n⟩
theorem bz1 {H : Hp} {l : Addr} {x : V} (e : H l = some (.lst [x])) (i : Im x) (n : numB x 1 60 = false) : BadSz H (.ref l) :=
 .inr ⟨l, _, rfl, e, fun y hy => (List.mem_singleton.mp hy) ▸ i, .inr (.inr (.inl ⟨x, by simp, n⟩))⟩
theorem bzP {H : Hp} {l : Addr} {sz : List Int} (e : H l = some (.lst (sz.map V.int))) (h : ∀ s ∈ sz, 1 ≤ s ∧ s ≤ 60) (n : 2000 < J.prod1 sz) : BadSz H (.ref l) :=
 .inr ⟨l, _, rfl, e, fun y hy => let ⟨_, _, q⟩ := List.mem_map.mp hy; q ▸ .int _, .inr (.inr (.inr ⟨sz, rfl, h, n⟩))⟩
def sp_law8 (K : W.Frag) (P1 P2 : Addr) : Sp := fun vs H Q _ => ∃ (a : Addr) (ns : List Int), vs = [.ref a] ∧ SqL K H a (ns.map V.int) ∧ H P1 = some (.tbl #[]) ∧ H P2 = some (.tbl #[]) ∧ ∀ H', Q (.bl true) H'
theorem ok_law8 {f c1 P1 P2 : Addr} {fd : FuncData} (F : FunC K "law" "law" s_law f fd c1) (B : Bt mg) (h12 : P1 ≠ P2) (hC : W.CodeHd base c1 P1) (bm : BMain mg base) (CA : fb% 1 "_law_cell_at" ["_law_script", "_law_k"] (sp_cell_at K))
   (AL : fb% 12 "_law_all" ["_law_ask", "_law_doors", "_law_things", "_law_due"] (sp_all P w K mg base 10 z)) (T : fb% 11 "_law_told" ["_law_ask", "_law_one", "_law_other"] (sp_told P w K mg base 10 z))
   (HX : fx% 10 "_law_house" ["_law_door", "_law_bad"] (sp_lhouse z.B)) (SX : fx% 10 "_law_with_state" ["_law_door", "_law_bad"] (sp_lstate z.S)) (MX : fx% 10 "_law_with_move" ["_law_door", "_law_bad"] (sp_lmove Z z.M)) (UX : fx% 10 "_law_unfit" ["_law_door", "_law_way"] (sp_lunfit z.M))
   (RT : fx% 2 "routine_text" ["moves"] (sp_moves_inX Z z.M)) (FM : mk% 4 "Fill" Z.F ["self", "jug"] (sp_jug_init Z.F)) (GR : fb% 13 "_law_goals_right" ["_law_far", "_law_due"] (sp_gright P2)) (GO : fb% 10 "_law_good" [] sp_lgood) :
   fo% CX0 14 f fd ["_law_script"] (sp_law8 K P1 P2) := by
 obtain ⟨fH, fdH, FH, mH, kH, bH⟩ := HX
 obtain ⟨fS, fdS, FS, mS, kS, bS⟩ := SX
 obtain ⟨fM, fdM, FMv, mM, kM, bM⟩ := MX
 obtain ⟨fU, fdU, FU, mU, kU, bU⟩ := UX
 refine F.ok sc_law (fun vs H Q E h => ?_) (fun A outer s H vs Q E hr h => ?_)
 · obtain ⟨a, ns, rfl, _⟩ := h
   rfl
 · obtain ⟨a, ns, rfl, hS, hP1, hP2, kk⟩ := h
   have nd := sc_law.nd
   have hu := hr.u20
   have hr1 : Room 1 _ := hr.mono (by decide)
   have hr5 : Room 5 _ := hr.mono (by decide)
   have hr10 : Room 10 _ := hr.mono (by decide)
   have hr11 : Room 11 _ := hr.mono (by decide)
   have hr12 : Room 12 _ := hr.mono (by decide)
   refine ⟨_, sK (sS (i := 1) nd rfl (Or.inl rfl) (pe_op op_mod (eF CA hr1 (pK (pv 0) (pK eI pN))) (pe_op op_pow eI eI)))
     (sK (sS (i := 2) nd rfl (Or.inl rfl) (pe_lst pN))
     (sK (ps_for PassesOwn.never rfl (pi_range1 (by rfl) B.range (pK eI pN)) (pg_name (i := 3) nd rfl (Or.inl rfl))
       (s1' (ps_expr (pe_append (pv 2) (pe_lst (pK (pe_cmpR op_eq (pv 3) eI (nomark _)) (pK (pe_cmpR op_eq (pv 3) eI (nomark _)) (pK (pe_cmpR op_eq (pv 3) eI (nomark _)) (pK (pe_cmpR op_eq (pv 3) eI (nomark _)) (pK pe_bl (pK pe_bl pN)))))))))))
     (sK (sS (i := 4) nd rfl (Or.inl rfl) (pe_lst (pK pe_non (pK (pe_lst pN) (pK (pe_tup (pK eI (pK eI pN))) (pK pe_str (pK (pe_lst (pK eI pN)) (pK (pe_lst (pK eI pN)) (pK (pe_lst (pK (pe_op op_add eI (pv 1)) pN)) (pK (pe_lst (pK (pe_op op_sub (pe_un un_neg eI) (pv 1)) pN))
         (pK (pe_lst (pK pe_bl pN)) (pK (pe_lst (pK pe_str pN)) (pK (pe_lst (pK pe_non pN)) (pK (pe_lst (pK eI (pK eI (pK eI (pK eI (pK eI pN)))))) pN))))))))))))))
     (sK (ps_if (pt_not (pt_val (eF AL hr12 (pK (pe_glob (v := .ref fH) (by rfl) mH rfl) (pK (pe_lst (pK eI pN)) (pK (pe_op op_cat (pv 4) (pe_lst (pK (pe_lst (pK eI (pK eI pN))) (pK (pe_lst (pK eI (pK eI pN))) (pK (pe_lst (pK eI (pK eI pN))) (pK (pe_lst (pK eI (pK eI (pK eI pN)))) pN)))))) (pK (pe_ix ix_list (pv 2) eI (fun _ _ => rfl)) pN))))))) sV sN)
     (sK (ps_if (pt_not (pt_val (eF AL hr12 (pK (pe_glob (v := .ref fH) (by rfl) mH rfl) (pK (pe_lst (pK eI pN)) (pK (pe_lst (pK eI (pK eI (pK pe_non (pK pe_str (pK (pe_lst (pK pe_bl pN)) pN)))))) (pK (pe_ix ix_list (pv 2) eI (fun _ _ => rfl)) pN))))))) sV sN)
     (sK (sS (i := 5) nd rfl (Or.inl rfl) (pe_lst (pK pe_non (pK (pe_tup pN) (pK (pe_lst (pK eI (pK eI pN))) (pK (pe_tup (pK eI pN)) (pK (pe_tup (pK eI (pK eI (pK eI pN)))) (pK (pe_tup (pK eI (pK eI pN))) (pK (pe_tup (pK eI (pK eI pN))) (pK (pe_tup (pK eI (pK (pe_op op_sub (pe_un un_neg eI) (pv 1)) pN))) (pK (pe_tup (pK (pe_op op_add eI (pv 1)) (pK eI pN))) (pK (pe_tup (pK pe_bl (pK eI pN))) (pK pe_str pN)))))))))))))
     (sK (ps_if (pt_not (pt_val (eF AL hr12 (pK (pe_glob (v := .ref fS) (by rfl) mS rfl) (pK (eT (call_list_rng rfl) (by rfl) B.list bt_list (pK (eT call_rangeR (by rfl) B.range bt_range (pK eI pN)) pN)) (pK (pe_op op_cat (pv 5) (pe_lst (pK (pe_tup (pK pe_str (pK eI pN))) (pK (pe_tup (pK eI (pK pe_non pN))) pN)))) (pK (pe_ix ix_list (pv 2) eI (fun _ _ => rfl)) pN))))))) sV sN)
     (sK (sS (i := 6) nd rfl (Or.inl rfl) (pe_lst (pK eI (pK (pe_op op_add eI (pv 1)) (pK (pe_op op_sub (pe_un un_neg eI) (pv 1)) (pK pe_bl (pK pe_non (pK pe_str (pK (pe_lst (pK eI pN)) pN)))))))))
     (sK (ps_if (pt_not (pt_val (eF AL hr12 (pK (pe_glob (v := .ref fM) (by rfl) mM rfl) (pK (eT (call_list_rng rfl) (by rfl) B.list bt_list (pK (eT call_rangeR (by rfl) B.range bt_range (pK eI pN)) pN)) (pK (pv 6) (pK (pe_ix ix_list (pv 2) eI (fun _ _ => rfl)) pN))))))) sV sN)
     (sK (ps_if (PW.pt (pw_or (pt_cmpR (op_neD hu) (eF T hr11 (pK (pe_glob (v := .ref fM) (by rfl) mM rfl) (pK eI (pK eI pN)))) (pe_ix ix_list (pv 2) eI (fun _ _ => rfl)) (nomark _)) (pw_or1 (pt_cmpR (op_neD hu) (eF T hr11 (pK (pe_glob (v := .ref fM) (by rfl) mM rfl) (pK eI (pK eI pN)))) (pe_ix ix_list (pv 2) eI (fun _ _ => rfl)) (nomark _))))) sV sN)
     (sK (ps_for PassesOwn.never rfl (pi_list (pe_lst (pK pe_non (pK (pe_tup pN) (pK pe_str (pK (pe_tup (pK (pe_mk FM hr5 (pK eI pN)) pN)) (pK eI pN))))))) (pg_name (i := 7) nd rfl (Or.inl rfl)) (s1' (ps_if (pt_cmpR (op_neD hu) (eF T hr11 (pK (pe_lam rfl hC rfl rfl rfl rfl bm) (pK (pv 7) (pK eI pN)))) (pe_ix ix_list (pv 2) eI (fun _ _ => rfl)) (nomark _)) sV sN)))
     (sK (ps_if (pt_not (pt_val (eF AL hr12 (pK (pe_glob (v := .ref fU) (by rfl) mU rfl) (pK (pe_lst (pK eI (pK eI pN))) (pK (eT (call_list_rng rfl) (by rfl) B.list bt_list (pK (eT call_rangeR (by rfl) B.range bt_range (pK eI pN)) pN)) (pK (pe_ix ix_list (pv 2) eI (fun _ _ => rfl)) pN))))))) sV sN)
     (s1' (sR (pe_and (eF GR hr (pK (pv 1) (pK (pe_ix ix_list (pv 2) eI (fun _ _ => rfl)) pN))) (pe_one (pe_fn0 GO hr10))))))))))))))))), ?_⟩
   refine ⟨_, rfl, a, ns, 0, rfl, hS, by decide, fun c => ⟨_, _, rfl, rfl, ⟨by decide, by decide, by decide⟩, _, _, rfl, rfl, (show (0 : Int) < 10 ^ (6 : Int).toNat by decide), ?_⟩⟩
   have hf : 0 ≤ c % 10 ^ (6 : Int).toNat := Int.emod_nonneg _ (by decide)
   refine ⟨(z% 0), fun r nr => ⟨4, rfl, by decide, by decide, for_rangeN (n := 4) (fun i σ H' => ∃ (es : List Addr) (v3 : Option V), σ = [some (.ref a), some (.int (c % 10 ^ (6 : Int).toNat)), some (.ref r), v3, none, none, none, none] ∧ Same H H' ∧ H' r = some (.lst (es.map V.ref)) ∧ es.length = i ∧ ∀ (j : Nat) x, es[j]? = some x → x ≠ r ∧ H' x = some (.lst ((dueL j).map V.bl)))
     ⟨[], none, rfl, Same.new nr, uS, rfl, fun j x h => (by cases h)⟩ ?_ ?_⟩⟩
   · rintro i σ H1 hi ⟨es, v3, rfl, s1, er, le, hes⟩
     refine ⟨_, rfl, .inl ⟨rfl, _, SqL.of er⟩, _, rfl, rfl, _, rfl, rfl, _, rfl, rfl, _, rfl, rfl, (z% 6), fun l nl => ⟨r, _, _, rfl, rfl, (Same.new nl) _ _ er, small1000 (by simp; omega), ?_⟩⟩
     have lr : l ≠ r := fun z => by rw [z, er] at nl; cases nl
     refine ⟨es ++ [l], _, rfl, (s1.lay nl).put nr, ?_, by simp [le], fun j x hj => ?_⟩
     · rw [uS]; simp
     · by_cases hlt : j < es.length
       · rw [List.getElem?_append_left hlt] at hj
         obtain ⟨h1, h2⟩ := hes j x hj
         exact ⟨h1, by rw [uN h1]; exact (Same.new nl) _ _ h2⟩
       · have hj' := (List.getElem?_eq_some_iff.mp hj).1
         rw [List.length_append, List.length_singleton] at hj'
         have hji : j = es.length := by omega
         subst hji
         rw [List.getElem?_append_right (Nat.le_refl _)] at hj
         simp at hj
         subst hj
         refine ⟨lr, ?_⟩
         rw [uN lr, uS, le, ← dueV i hi]
   rintro σ H1 ⟨es, v3, rfl, s1, er, le, hes⟩
   obtain ⟨e0, e1, e2, e3, rfl⟩ : ∃ e0 e1 e2 e3, es = [e0, e1, e2, e3] := by
     match es, le with
     | [e0, e1, e2, e3], _ => exact ⟨e0, e1, e2, e3, rfl⟩
   have h0 := (hes 0 e0 rfl).2
   have h1 := (hes 1 e1 rfl).2
   have h2 := (hes 2 e2 rfl).2
   have h3 := (hes 3 e3 rfl).2
   have p1 := s1 _ _ hP1
   have p2 := s1 _ _ hP2
   clear hes le s1
   generalize c % 10 ^ (6 : Int).toNat = far at *
   refine ⟨(z% 0), fun b1 n1 => ⟨(z% 2), fun b2 n2 => ⟨(z% 1), fun b3 n3 => ⟨(z% 1), fun b4 n4 => ⟨_, rfl, _, _, rfl, rfl, (z% 1), fun b5 n5 => ⟨_, rfl, _, rfl, _, _, rfl, rfl, (z% 1), fun b6 n6 => ⟨(z% 1), fun b7 n7 => ⟨(z% 1), fun b8 n8 => ⟨(z% 1), fun b9 n9 => ⟨(z% 5), fun b10 n10 => ⟨(z% 12), fun L nL => ?_⟩⟩⟩⟩⟩⟩⟩⟩⟩⟩⟩
   refine ⟨(z% 1), fun d nd => ⟨_, rfl, (z% 2), fun c1 m1 => ⟨(z% 2), fun c2 m2 => ⟨(z% 2), fun c3 m3 => ⟨(z% 3), fun c4 m4 => ⟨(z% 4), fun M nM => ⟨L, M, _, _, rfl, rfl, by at_, uS, (z% 16), fun C nC => ⟨_, rfl, r, _, _, _, rfl, rfl, SqL.of (by at_), rfl, fH, d, C, e0, 0, _, _, rfl, by decide, by at_, uS, by at_, ?_, fun H2 s2 => ⟨_, rfl, iteF ?_⟩⟩⟩⟩⟩⟩⟩⟩⟩
   · intro v hv u hu
     simp only [List.mem_cons, List.not_mem_nil, or_false] at hv
     subst hv
     refine lh_asks (d := 0) FH kH bH (.inl ⟨rfl, ?_⟩)
     simp only [List.mem_append, List.mem_cons, List.not_mem_nil, or_false] at hu
     rcases hu with (rfl | rfl | rfl | rfl | rfl | rfl | rfl | rfl | rfl | rfl | rfl | rfl) | (rfl | rfl | rfl | rfl)
     · exact .inl ⟨_, .non, by decide⟩
     · exact .inr ⟨_, [], rfl, by at_, fun x hx => (by cases hx), .inl rfl⟩
     · exact .inl ⟨_, .tup (xs := [.int 3, .int 5]) (by at_), by decide⟩
     · exact .inl ⟨_, .str _, by decide⟩
     · exact bz1 (x := .int 0) (by at_) (.int _) rfl
     · exact bz1 (x := .int 61) (by at_) (.int _) rfl
     · exact bz1 (x := .int (61 + far)) (by at_) (.int _) (numB_out (.inr (by omega)))
     · exact bz1 (x := .int (-1 - far)) (by at_) (.int _) (numB_out (.inl (by omega)))
     · exact bz1 (x := .bl true) (by at_) (.bl _) rfl
     · exact bz1 (x := .str "3") (by at_) (.str _) rfl
     · exact bz1 (x := .non) (by at_) .non rfl
     · exact .inr ⟨_, [.int 1, .int 1, .int 1, .int 1, .int 1], rfl, by at_, fun x hx => (by simp at hx; subst hx; exact .int _), .inr (.inl (by decide))⟩
     · exact bzP (sz := [60, 60]) (by at_) (by decide) (by decide)
     · exact bzP (sz := [44, 44]) (by at_) (by decide) (by decide)
     · exact bzP (sz := [60, 32]) (by at_) (by decide) (by decide)
     · exact bzP (sz := [2, 22, 28]) (by at_) (by decide) (by decide)
   have er2 : H2 r = some (.lst ([e0, e1, e2, e3].map V.ref)) := s2 _ _ (by at_)
   have f0 : H2 e0 = some (.lst ((dueL 0).map V.bl)) := s2 _ _ (by at_)
   have f1 : H2 e1 = some (.lst ((dueL 1).map V.bl)) := s2 _ _ (by at_)
   have f2 : H2 e2 = some (.lst ((dueL 2).map V.bl)) := s2 _ _ (by at_)
   have f3 : H2 e3 = some (.lst ((dueL 3).map V.bl)) := s2 _ _ (by at_)
   have fp1 : H2 P1 = some (.tbl #[]) := s2 _ _ (by at_)
   have fp2 : H2 P2 = some (.tbl #[]) := s2 _ _ (by at_)
   clear s2 nC nM m1 m2 m3 m4 nd nL n1 n2 n3 n4 n5 n6 n7 n8 n9 n10 er h0 h1 h2 h3 p1 p2 hP1 hP2
   refine ⟨(z% 1), fun d nd => ⟨(z% 1), fun t1 mt1 => ⟨(z% 5), fun T5 nT => ⟨_, rfl, r, _, _, _, rfl, rfl, SqL.of (by at_), rfl, fH, d, T5, e0, 0, _, _, rfl, by decide, by at_, uS, by at_, ?_, fun H3 s3 => ⟨_, rfl, iteF ?_⟩⟩⟩⟩⟩
   · intro v hv u hu
     simp only [List.mem_cons, List.not_mem_nil, or_false] at hv
     subst hv
     refine lh_asks (d := 1) FH kH bH (.inr ⟨rfl, ?_⟩)
     simp only [List.mem_cons, List.not_mem_nil, or_false] at hu
     rcases hu with rfl | rfl | rfl | rfl | rfl
     · exact ⟨_, .int _, by decide⟩
     · exact ⟨_, .int _, by decide⟩
     · exact ⟨_, .non, by decide⟩
     · exact ⟨_, .str _, by decide⟩
     · exact ⟨_, .lst (xs := [.bl true]) (by at_), by decide⟩
   have er3 : H3 r = some (.lst ([e0, e1, e2, e3].map V.ref)) := s3 _ _ (by at_)
   have g1 : H3 e1 = some (.lst ((dueL 1).map V.bl)) := s3 _ _ (by at_)
   have g2 : H3 e2 = some (.lst ((dueL 2).map V.bl)) := s3 _ _ (by at_)
   have g3 : H3 e3 = some (.lst ((dueL 3).map V.bl)) := s3 _ _ (by at_)
   have gp1 : H3 P1 = some (.tbl #[]) := s3 _ _ (by at_)
   have gp2 : H3 P2 = some (.tbl #[]) := s3 _ _ (by at_)
   clear s3 nT mt1 nd er2 f0 f1 f2 f3 fp1 fp2
   refine ⟨(z% 0), fun b1 n1 => ⟨(z% 2), fun b2 n2 => ⟨(z% 1), fun b3 n3 => ⟨(z% 3), fun b4 n4 => ⟨(z% 2), fun b5 n5 => ⟨(z% 2), fun b6 n6 => ⟨_, rfl, _, rfl, _, _, rfl, rfl, (z% 2), fun b7 n7 => ⟨_, rfl, _, _, rfl, rfl, (z% 2), fun b8 n8 => ⟨(z% 2), fun b9 n9 => ⟨(z% 11), fun L2 nL2 => ?_⟩⟩⟩⟩⟩⟩⟩⟩⟩⟩
   refine ⟨9, rfl, fun r9 nr9 => ⟨r9, 9, rfl, uS, by decide, by decide, fun l9 nl9 => ⟨_, rfl, (z% 2), fun c1 m1 => ⟨(z% 2), fun c2 m2 => ⟨(z% 2), fun M nM => ⟨L2, M, _, _, rfl, rfl, by at_, uS, (z% 13), fun C nC => ⟨_, rfl, r, _, _, _, rfl, rfl, SqL.of (by at_), rfl, fS, l9, C, e1, 1, _, _, rfl, by decide, by at_, uS, by at_, ?_, fun H4 s4 => ⟨_, rfl, iteF ?_⟩⟩⟩⟩⟩⟩⟩⟩
   · intro v hv u hu
     obtain ⟨n, hn, rfl⟩ := List.mem_map.mp hv
     have hn : n < 9 := List.mem_range.mp hn
     refine ls_asks FS kS bS hn ?_
     simp only [List.mem_append, List.mem_cons, List.not_mem_nil, or_false] at hu
     rcases hu with (rfl | rfl | rfl | rfl | rfl | rfl | rfl | rfl | rfl | rfl | rfl) | (rfl | rfl)
     · exact .inl ⟨_, .non, by decide⟩
     · exact bst (xs := []) (by at_) rfl rfl
     · exact .inl ⟨_, .lst (xs := [.int 0, .int 0]) (by at_), by decide⟩
     · exact bst (xs := [.int 0]) (by at_) rfl rfl
     · exact bst (xs := [.int 0, .int 0, .int 0]) (by at_) rfl rfl
     · exact bst (xs := [.int 4, .int 0]) (by at_) rfl rfl
     · exact bst (xs := [.int 0, .int 6]) (by at_) rfl rfl
     · exact bst (xs := [.int 0, .int (-1 - far)]) (by at_) rfl (by show (_ && (numB _ 0 5 && _)) = false; rw [numB_out (i := -1 - far) (.inl (by omega))]; rfl)
     · exact bst (xs := [.int (6 + far), .int 0]) (by at_) rfl (by show (numB _ 0 3 && _) = false; rw [numB_out (i := 6 + far) (.inr (by omega))]; rfl)
     · exact bst (xs := [.bl true, .int 0]) (by at_) rfl rfl
     · exact .inl ⟨_, .str _, by decide⟩
     · exact bst (xs := [.str "0", .int 0]) (by at_) rfl rfl
     · exact bst (xs := [.int 0, .non]) (by at_) rfl rfl
   have er4 : H4 r = some (.lst ([e0, e1, e2, e3].map V.ref)) := s4 _ _ (by at_)
   have h2 : H4 e2 = some (.lst ((dueL 2).map V.bl)) := s4 _ _ (by at_)
   have h3 : H4 e3 = some (.lst ((dueL 3).map V.bl)) := s4 _ _ (by at_)
   have hp1 : H4 P1 = some (.tbl #[]) := s4 _ _ (by at_)
   have hp2 : H4 P2 = some (.tbl #[]) := s4 _ _ (by at_)
   clear s4 nC nM m1 m2 nl9 nr9 nL2 n1 n2 n3 n4 n5 n6 n7 n8 n9 er3 g1 g2 g3 gp1 gp2
   refine ⟨_, rfl, _, _, rfl, rfl, _, rfl, _, rfl, _, _, rfl, rfl, (z% 1), fun gl ngl => ⟨(z% 7), fun Lb nLb => ?_⟩⟩
   refine ⟨7, rfl, fun r7 nr7 => ⟨r7, 7, rfl, uS, by decide, by decide, fun l7 nl7 => ⟨_, rfl, _, rfl, r, _, _, _, rfl, rfl, SqL.of (by at_), rfl, fM, l7, Lb, e2, 2, _, _, rfl, by decide, by at_, by at_, by at_, ?_, fun H5 s5 => ⟨_, rfl, iteF ?_⟩⟩⟩⟩
   · intro v hv u hu
     obtain ⟨n, hn, rfl⟩ := List.mem_map.mp hv
     have hn : n < 7 := List.mem_range.mp hn
     simp only [List.mem_cons, List.not_mem_nil, or_false] at hu
     rcases hu with rfl | rfl | rfl | rfl | rfl | rfl | rfl
     · exact lm_asks FMv kM bM hn (.int _) (fun _ => .inl rfl) (fun _ => .inl rfl) (fun _ => rfl) fun _ => .inl ⟨_, .int _, by decide⟩
     · have q : numB (.int (4 + far)) 0 3 = false := numB_out (.inr (by omega))
       exact lm_asks FMv kM bM hn (.int _) (fun _ => .inl q) (fun _ => .inl q) (fun _ => q) fun _ => .inl ⟨_, .int _, by decide⟩
     · have q : numB (.int (-1 - far)) 0 3 = false := numB_out (.inl (by omega))
       exact lm_asks FMv kM bM hn (.int _) (fun _ => .inl q) (fun _ => .inl q) (fun _ => q) fun _ => .inl ⟨_, .int _, by decide⟩
     · exact lm_asks FMv kM bM hn (.bl _) (fun _ => .inl rfl) (fun _ => .inl rfl) (fun _ => rfl) fun _ => .inl ⟨_, .bl _, by decide⟩
     · exact lm_asks FMv kM bM hn .non (fun _ => .inl rfl) (fun _ => .inl rfl) (fun _ => rfl) fun _ => .inl ⟨_, .non, by decide⟩
     · exact lm_asks FMv kM bM hn (.str _) (fun _ => .inl rfl) (fun _ => .inl rfl) (fun _ => rfl) fun _ => .inl ⟨_, .str _, by decide⟩
     · exact lm_asks FMv kM bM hn (.lst (xs := [.int 0]) (by at_)) (fun _ => .inl rfl) (fun _ => .inl rfl) (fun _ => rfl) fun _ => bad_one (.int 0) (by at_)
   have er5 : H5 r = some (.lst ([e0, e1, e2, e3].map V.ref)) := s5 _ _ (by at_)
   have j2 : H5 e2 = some (.lst ((dueL 2).map V.bl)) := s5 _ _ (by at_)
   have j3 : H5 e3 = some (.lst ((dueL 3).map V.bl)) := s5 _ _ (by at_)
   have jp1 : H5 P1 = some (.tbl #[]) := s5 _ _ (by at_)
   have jp2 : H5 P2 = some (.tbl #[]) := s5 _ _ (by at_)
   clear s5 nl7 nr7 nLb ngl er4 h2 h3 hp1 hp2
   refine ⟨fM, 2, .int 0, .int 1, rfl, by decide, lm_asks (d := 0) FMv kM bM (by decide) (.int _) (fun _ => .inr rfl) (fun h => absurd h (by decide)) (fun h => absurd h (by decide)) (fun h => absurd h (by decide)), fun l6 H6 s6 x6 => ⟨_, rfl, r, _, _, _, rfl, rfl, SqL.of (s6 _ _ er5), rfl, _, rcB x6 (s6 _ _ j2), _, rfl, ?_⟩⟩
   rw [decide_eq_true rfl]
   refine iteF ?_
   refine ⟨fM, 2, .int 1, .int 0, rfl, by decide, lm_asks (d := 1) FMv kM bM (by decide) (.int _) (fun h => absurd h (by decide)) (fun _ => .inr rfl) (fun h => absurd h (by decide)) (fun h => absurd h (by decide)), fun l7 H7 s7 x7 => ⟨_, rfl, r, _, _, _, rfl, rfl, SqL.of (s7 _ _ (s6 _ _ er5)), rfl, _, rcB x7 (s7 _ _ (s6 _ _ j2)), _, rfl, ?_⟩⟩
   rw [decide_eq_true rfl]
   refine iteF ?_
   have s67 := s6.trans s7
   have er7 := s67 _ _ er5
   have k2 := s67 _ _ j2
   have k3 := s67 _ _ j3
   have kp1 := s67 _ _ jp1
   have kp2 := s67 _ _ jp2
   clear s6 s7 s67 er5 j2 j3 jp1 jp2 x6 x7
   refine ⟨(z% 0), fun b1 n1 => mk_fill (a := 0) (by decide) fun q8 H8 s8 m8 => ⟨(z% 1), fun b2 n2 => ⟨(z% 5), fun L nL => ?_⟩⟩⟩
   have er8 : (upd (upd H8 b2 (.tup [.ref q8])) L (.lst [.non, .ref b1, .str "fill 0", .ref b2, .int 5])) r = some (.lst ([e0, e1, e2, e3].map V.ref)) := upd_keep (upd_keep (s8 _ _ (by at_)) n2) nL
   have u2 : (upd (upd H8 b2 (.tup [.ref q8])) L (.lst [.non, .ref b1, .str "fill 0", .ref b2, .int 5])) e2 = some (.lst ((dueL 2).map V.bl)) := upd_keep (upd_keep (s8 _ _ (by at_)) n2) nL
   have u3 : (upd (upd H8 b2 (.tup [.ref q8])) L (.lst [.non, .ref b1, .str "fill 0", .ref b2, .int 5])) e3 = some (.lst ((dueL 3).map V.bl)) := upd_keep (upd_keep (s8 _ _ (by at_)) n2) nL
   have up1 : (upd (upd H8 b2 (.tup [.ref q8])) L (.lst [.non, .ref b1, .str "fill 0", .ref b2, .int 5])) P1 = some (.tbl #[]) := upd_keep (upd_keep (s8 _ _ (by at_)) n2) nL
   have up2 : (upd (upd H8 b2 (.tup [.ref q8])) L (.lst [.non, .ref b1, .str "fill 0", .ref b2, .int 5])) P2 = some (.tbl #[]) := upd_keep (upd_keep (s8 _ _ (by at_)) n2) nL
   have v1 : (upd (upd H8 b2 (.tup [.ref q8])) L (.lst [.non, .ref b1, .str "fill 0", .ref b2, .int 5])) b1 = some (.tup []) := upd_keep (upd_keep (s8 _ _ uS) n2) nL
   have v2 : (upd (upd H8 b2 (.tup [.ref q8])) L (.lst [.non, .ref b1, .str "fill 0", .ref b2, .int 5])) b2 = some (.tup [.ref q8]) := upd_keep uS nL
   have vL : (upd (upd H8 b2 (.tup [.ref q8])) L (.lst [.non, .ref b1, .str "fill 0", .ref b2, .int 5])) L = some (.lst [.non, .ref b1, .str "fill 0", .ref b2, .int 5]) := uS
   generalize hHL : (upd (upd H8 b2 (.tup [.ref q8])) L (.lst [.non, .ref b1, .str "fill 0", .ref b2, .int 5])) = HL at *
   have nP : ∀ {b : Addr} {o : HO}, HL b = some o → o ≠ .tbl #[] → b ≠ P1 := fun {b o} e n z => by rw [z, up1] at e; cases e; exact n rfl
   have hall : ∀ v ∈ [V.non, .ref b1, .str "fill 0", .ref b2, .int 5], BadMvs Z (offB P1 HL) v := by
     intro v hv
     simp only [List.mem_cons, List.not_mem_nil, or_false] at hv
     rcases hv with rfl | rfl | rfl | rfl | rfl
     · exact .inl ⟨_, .non, by decide⟩
     · exact .inl ⟨_, .tup (off_get v1 (nP v1 (by intro z; cases z))), by decide⟩
     · exact .inl ⟨_, .str _, by decide⟩
     · exact .inl ⟨_, .tup (off_get v2 (nP v2 (by intro z; cases z))), by decide⟩
     · exact .inl ⟨_, .int _, by decide⟩
   refine ⟨L, rfl, ⟨_, SqL.of vL⟩, for_list (K := K) (a := L) (xs := [V.non, .ref b1, .str "fill 0", .ref b2, .int 5]) (fun i σ H' => (∃ v3 v4 v5 v6 v7, σ = [some (.ref a), some (.int far), some (.ref r), v3, v4, v5, v6, v7]) ∧ SameB P1 HL H' ∧ TabIs H' P1 ⟨450, 21, 450, 72⟩ ((("law" : Str) ++ ".<locals>.") ++ "<lambda>") #[])
     ⟨⟨_, _, _, _, _, rfl⟩, sameB_of (Same.refl _), .inl up1⟩ (fun i σ H' _ ⟨_, sB, _⟩ => SqL.of (sB _ _ vL (nP vL (by intro z; cases z)))) ?_ ?_⟩
   · rintro i v σ H5 hv ⟨⟨v3, v4, v5, v6, v7, rfl⟩, sB, hT⟩
     refine lamStep hT trivial rfl fun fl c' H6 s6 hfl hc' hP6 => ⟨_, rfl, ?_⟩
     have sB6 := sB.trans s6
     have bad := (hall v (List.mem_of_getElem? hv)).mono (same_off sB6)
     refine ⟨fl, 2, v, .int 0, rfl, by decide, fun H7 s7 => ⟨lam_fnal (s7 _ _ hfl), fun Q' E' hE => lam_of (k := 9) (N := ["_law_one", "_law_other"]) (ps := ["_law_one", "_law_other"]) r7% (s7 _ _ hfl) (s7 _ _ hc') rfl (fun pm ctv us hl => match us, hl with | [_, _], _ => rfl) fun A' o' s' hr' => ?_⟩, fun l H8 s8 e8 => ?_⟩
     · exact ⟨_, pe_fnX bdX xeX RT (hr'.mono (by decide)) (pK (pv 0) pN), ⟨_, rfl, v, rfl, bad.mono s7, hE⟩⟩
     · have sB8 := sB6.trans (sameB_of s8)
       refine ⟨_, rfl, r, _, _, _, rfl, rfl, SqL.of (sB8 _ _ er8 (nP er8 (by intro z; cases z))), rfl, _, rcB e8 (sB8 _ _ u2 (nP u2 (by intro z; cases z))), _, rfl, ?_⟩
       rw [decide_eq_true rfl]
       exact iteF ⟨⟨_, _, _, _, _, rfl⟩, sB8, .inr ⟨c', s8 _ _ hP6, s8 _ _ hc'⟩⟩
   · rintro σ H5 ⟨⟨v3, v4, v5, v6, v7, rfl⟩, sB5, _⟩
     have er9 := sB5 _ _ er8 (nP er8 (by intro z; cases z))
     have w2 := sB5 _ _ u2 (nP u2 (by intro z; cases z))
     have w3 := sB5 _ _ u3 (nP u3 (by intro z; cases z))
     have wp2 := sB5 _ _ up2 (Ne.symm h12)
     refine ⟨(z% 2), fun d nd => ⟨7, rfl, fun r7 nr7 => ⟨r7, 7, rfl, uS, by decide, by decide, fun l7 nl7 => ⟨_, rfl, r, _, _, _, rfl, rfl, SqL.of (upd_keep (upd_keep (upd_keep er9 nd) nr7) nl7), rfl, fU, d, l7, e2, 2, _, _, rfl, by decide, upd_keep (upd_keep uS nr7) nl7, uS, upd_keep (upd_keep (upd_keep w2 nd) nr7) nl7, ?_, fun H6 s6 => ⟨_, rfl, iteF ?_⟩⟩⟩⟩⟩
     · intro v hv u hu
       obtain ⟨n, hn, rfl⟩ := List.mem_map.mp hu
       have hn : n < 7 := List.mem_range.mp hn
       simp only [List.mem_cons, List.not_mem_nil, or_false] at hv
       rcases hv with rfl | rfl
       · exact lu_asks (d := 0) FU kU bU (by decide) hn
       · exact lu_asks (d := 1) FU kU bU (by decide) hn
     · have x1 := s6 _ _ (upd_keep (upd_keep (upd_keep er9 nd) nr7) nl7)
       have x3 := s6 _ _ (upd_keep (upd_keep (upd_keep w3 nd) nr7) nl7)
       have xp := s6 _ _ (upd_keep (upd_keep (upd_keep wp2 nd) nr7) nl7)
       refine ⟨_, rfl, _, rfl, r, _, _, _, rfl, rfl, SqL.of x1, rfl, far, e3, rfl, hf, x3, xp, fun H7 s7 => ⟨_, rfl, iteT ⟨rfl, fun H8 s8 => kk H8⟩⟩⟩
end
end Jug
namespace Jug
open PySem L2
theorem len1 {us : List Value} (h : us.length = 1) : ∃ a0, us = [a0] := match us, h with | [a0], _ => ⟨a0, rfl⟩
theorem len2 {us : List Value} (h : us.length = 2) : ∃ a0 a1, us = [a0, a1] := match us, h with | [a0, a1], _ => ⟨a0, a1, rfl⟩
theorem len3 {us : List Value} (h : us.length = 3) : ∃ a0 a1 a2, us = [a0, a1, a2] := match us, h with | [a0, a1, a2], _ => ⟨a0, a1, a2, rfl⟩
theorem len4 {us : List Value} (h : us.length = 4) : ∃ a0 a1 a2 a3, us = [a0, a1, a2, a3] := match us, h with | [a0, a1, a2, a3], _ => ⟨a0, a1, a2, a3, rfl⟩
theorem anyC {P : Program} {w : World} {K : W.Frag} {mg : Str → Option Value} {base : Heap} {k : Nat} {Z : Cz} {m : Str} {ps : List Str} {sp : Sp} (h0 : me% k Z.P m ps sp) (h1 : me% k Z.F m ps sp) (h2 : me% k Z.E m ps sp) : ∀ C, anyMv Z C → me% k C m ps sp := by
 rintro C (rfl | rfl | rfl)
 · exact h0
 · exact h1
 · exact h2
theorem anyX {P : Program} {w : World} {K : W.Frag} {mg : Str → Option Value} {base : Heap} {k : Nat} {Z : Cz} {m : Str} {ps : List Str} {sp : Sp} (h0 : mx% k Z.P m ps sp) (h1 : mx% k Z.F m ps sp) (h2 : mx% k Z.E m ps sp) : ∀ C, anyMv Z C → mx% k C m ps sp := by
 rintro C (rfl | rfl | rfl)
 · exact h0
 · exact h1
 · exact h2
theorem anyD {P : Program} {w : World} {K : W.Frag} {mg : Str → Option Value} {base : Heap} {k : Nat} {Z : Gz} {m : Str} {ps : List Str} {sp : Sp} (h0 : me% k Z.H m ps sp) (h1 : me% k Z.S m ps sp) (h2 : me% k Z.U m ps sp) (h3 : me% k Z.W m ps sp) : ∀ C, anyGo Z C → me% k C m ps sp := by
 rintro C (rfl | rfl | rfl | rfl)
 · exact h0
 · exact h1
 · exact h2
 · exact h3
theorem anyY {P : Program} {w : World} {K : W.Frag} {mg : Str → Option Value} {base : Heap} {k : Nat} {Z : Gz} {m : Str} {ps : List Str} {sp : Sp} (h0 : mx% k Z.H m ps sp) (h1 : mx% k Z.S m ps sp) (h2 : mx% k Z.U m ps sp) (h3 : mx% k Z.W m ps sp) : ∀ C, anyGo Z C → mx% k C m ps sp := by
 rintro C (rfl | rfl | rfl | rfl)
 · exact h0
 · exact h1
 · exact h2
 · exact h3
def spLaw (K : W.Frag) : Sp := sp_law8 K 712 698
theorem all_mk {l : W.OpenLaw} {w : World} {K : W.Frag} {h : Heap} {mg : Str → Option Value} {fa : Addr} (X : K.In h) (G : h.Ns mainGlobals mg) (hfa : mg "law" = some (.ref fa))
   {t_MOST_JUGS : Tok}
   {t_MOST_SIZE : Tok}
   {t_MOST_STATES : Tok}
   {t_MOST_AMOUNT : Tok}
   {C_Pour : Addr}
   {C_Fill : Addr}
   {C_Empty : Addr}
   {C_House : Addr}
   {C_Holds : Addr}
   {C_Some : Addr}
   {C_Sum : Addr}
   {C_Whole : Addr}
   {C_Goal : Addr}
   {C_BadHouse : Addr}
   {C_BadState : Addr}
   {C_BadMove : Addr}
   {C_BadGoal : Addr}
   {C_BadText : Addr}
   {C_JugError : Addr}
   {f0 : Addr} {oc0 kV0 dc0 pm0 ct0 : Value} {od0 an0 : Option Addr} {sl0 : Array (Option Value)} {cd0 : Value}
   {f1 : Addr} {oc1 kV1 dc1 pm1 ct1 : Value} {od1 an1 : Option Addr} {sl1 : Array (Option Value)} {cd1 : Value}
   {f2 : Addr} {oc2 kV2 dc2 pm2 ct2 : Value} {od2 an2 : Option Addr} {sl2 : Array (Option Value)} {cd2 : Value}
   {f3 : Addr} {oc3 kV3 dc3 pm3 ct3 : Value} {od3 an3 : Option Addr} {sl3 : Array (Option Value)} {cd3 : Value}
   {f4 : Addr} {oc4 kV4 dc4 pm4 ct4 : Value} {od4 an4 : Option Addr} {sl4 : Array (Option Value)} {cd4 : Value}
   {f5 : Addr} {oc5 kV5 dc5 pm5 ct5 : Value} {od5 an5 : Option Addr} {sl5 : Array (Option Value)} {cd5 : Value}
   {f6 : Addr} {oc6 kV6 dc6 pm6 ct6 : Value} {od6 an6 : Option Addr} {sl6 : Array (Option Value)} {cd6 : Value}
   {f7 : Addr} {oc7 kV7 dc7 pm7 ct7 : Value} {od7 an7 : Option Addr} {sl7 : Array (Option Value)} {cd7 : Value}
   {f8 : Addr} {oc8 kV8 dc8 pm8 ct8 : Value} {od8 an8 : Option Addr} {sl8 : Array (Option Value)} {cd8 : Value}
   {f9 : Addr} {oc9 kV9 dc9 pm9 ct9 : Value} {od9 an9 : Option Addr} {sl9 : Array (Option Value)} {cd9 : Value}
   {f10 : Addr} {oc10 kV10 dc10 pm10 ct10 : Value} {od10 an10 : Option Addr} {sl10 : Array (Option Value)} {cd10 : Value}
   {f11 : Addr} {oc11 kV11 dc11 pm11 ct11 : Value} {od11 an11 : Option Addr} {sl11 : Array (Option Value)} {cd11 : Value}
   {f12 : Addr} {oc12 kV12 dc12 pm12 ct12 : Value} {od12 an12 : Option Addr} {sl12 : Array (Option Value)} {cd12 : Value}
   {f13 : Addr} {oc13 kV13 dc13 pm13 ct13 : Value} {od13 an13 : Option Addr} {sl13 : Array (Option Value)} {cd13 : Value}
   {f14 : Addr} {oc14 kV14 dc14 pm14 ct14 : Value} {od14 an14 : Option Addr} {sl14 : Array (Option Value)} {cd14 : Value}
   {f15 : Addr} {oc15 kV15 dc15 pm15 ct15 : Value} {od15 an15 : Option Addr} {sl15 : Array (Option Value)} {cd15 : Value}
   {f16 : Addr} {oc16 kV16 dc16 pm16 ct16 : Value} {od16 an16 : Option Addr} {sl16 : Array (Option Value)} {cd16 : Value}
   {f17 : Addr} {oc17 kV17 dc17 pm17 ct17 : Value} {od17 an17 : Option Addr} {sl17 : Array (Option Value)} {cd17 : Value}
   {f18 : Addr} {oc18 kV18 dc18 pm18 ct18 : Value} {od18 an18 : Option Addr} {sl18 : Array (Option Value)} {cd18 : Value}
   {f19 : Addr} {oc19 kV19 dc19 pm19 ct19 : Value} {od19 an19 : Option Addr} {sl19 : Array (Option Value)} {cd19 : Value}
   {f20 : Addr} {oc20 kV20 dc20 pm20 ct20 : Value} {od20 an20 : Option Addr} {sl20 : Array (Option Value)} {cd20 : Value}
   {f21 : Addr} {oc21 kV21 dc21 pm21 ct21 : Value} {od21 an21 : Option Addr} {sl21 : Array (Option Value)} {cd21 : Value}
   {f22 : Addr} {oc22 kV22 dc22 pm22 ct22 : Value} {od22 an22 : Option Addr} {sl22 : Array (Option Value)} {cd22 : Value}
   {f23 : Addr} {oc23 kV23 dc23 pm23 ct23 : Value} {od23 an23 : Option Addr} {sl23 : Array (Option Value)} {cd23 : Value}
   {f24 : Addr} {oc24 kV24 dc24 pm24 ct24 : Value} {od24 an24 : Option Addr} {sl24 : Array (Option Value)} {cd24 : Value}
   {f25 : Addr} {oc25 kV25 dc25 pm25 ct25 : Value} {od25 an25 : Option Addr} {sl25 : Array (Option Value)} {cd25 : Value}
   {f26 : Addr} {oc26 kV26 dc26 pm26 ct26 : Value} {od26 an26 : Option Addr} {sl26 : Array (Option Value)} {cd26 : Value}
   {f27 : Addr} {oc27 kV27 dc27 pm27 ct27 : Value} {od27 an27 : Option Addr} {sl27 : Array (Option Value)} {cd27 : Value}
   {f28 : Addr} {oc28 kV28 dc28 pm28 ct28 : Value} {od28 an28 : Option Addr} {sl28 : Array (Option Value)} {cd28 : Value}
   {f29 : Addr} {oc29 kV29 dc29 pm29 ct29 : Value} {od29 an29 : Option Addr} {sl29 : Array (Option Value)} {cd29 : Value}
   {f30 : Addr} {oc30 kV30 dc30 pm30 ct30 : Value} {od30 an30 : Option Addr} {sl30 : Array (Option Value)} {cd30 : Value}
   {f31 : Addr} {oc31 kV31 dc31 pm31 ct31 : Value} {od31 an31 : Option Addr} {sl31 : Array (Option Value)} {cd31 : Value}
   {f32 : Addr} {oc32 kV32 dc32 pm32 ct32 : Value} {od32 an32 : Option Addr} {sl32 : Array (Option Value)} {cd32 : Value}
   {f33 : Addr} {oc33 kV33 dc33 pm33 ct33 : Value} {od33 an33 : Option Addr} {sl33 : Array (Option Value)} {cd33 : Value}
   {f34 : Addr} {oc34 kV34 dc34 pm34 ct34 : Value} {od34 an34 : Option Addr} {sl34 : Array (Option Value)} {cd34 : Value}
   {f35 : Addr} {oc35 kV35 dc35 pm35 ct35 : Value} {od35 an35 : Option Addr} {sl35 : Array (Option Value)} {cd35 : Value}
   {f36 : Addr} {oc36 kV36 dc36 pm36 ct36 : Value} {od36 an36 : Option Addr} {sl36 : Array (Option Value)} {cd36 : Value}
   {f37 : Addr} {oc37 kV37 dc37 pm37 ct37 : Value} {od37 an37 : Option Addr} {sl37 : Array (Option Value)} {cd37 : Value}
   {f38 : Addr} {oc38 kV38 dc38 pm38 ct38 : Value} {od38 an38 : Option Addr} {sl38 : Array (Option Value)} {cd38 : Value}
   {f39 : Addr} {oc39 kV39 dc39 pm39 ct39 : Value} {od39 an39 : Option Addr} {sl39 : Array (Option Value)} {cd39 : Value}
   {f40 : Addr} {oc40 kV40 dc40 pm40 ct40 : Value} {od40 an40 : Option Addr} {sl40 : Array (Option Value)} {cd40 : Value}
   {f41 : Addr} {oc41 kV41 dc41 pm41 ct41 : Value} {od41 an41 : Option Addr} {sl41 : Array (Option Value)} {cd41 : Value}
   {f42 : Addr} {oc42 kV42 dc42 pm42 ct42 : Value} {od42 an42 : Option Addr} {sl42 : Array (Option Value)} {cd42 : Value}
   {f43 : Addr} {oc43 kV43 dc43 pm43 ct43 : Value} {od43 an43 : Option Addr} {sl43 : Array (Option Value)} {cd43 : Value}
   {f44 : Addr} {oc44 kV44 dc44 pm44 ct44 : Value} {od44 an44 : Option Addr} {sl44 : Array (Option Value)} {cd44 : Value}
   {f45 : Addr} {oc45 kV45 dc45 pm45 ct45 : Value} {od45 an45 : Option Addr} {sl45 : Array (Option Value)} {cd45 : Value}
   {f46 : Addr} {oc46 kV46 dc46 pm46 ct46 : Value} {od46 an46 : Option Addr} {sl46 : Array (Option Value)} {cd46 : Value}
   {f47 : Addr} {oc47 kV47 dc47 pm47 ct47 : Value} {od47 an47 : Option Addr} {sl47 : Array (Option Value)} {cd47 : Value}
   {f48 : Addr} {oc48 kV48 dc48 pm48 ct48 : Value} {od48 an48 : Option Addr} {sl48 : Array (Option Value)} {cd48 : Value}
   {f49 : Addr} {oc49 kV49 dc49 pm49 ct49 : Value} {od49 an49 : Option Addr} {sl49 : Array (Option Value)} {cd49 : Value}
   {f50 : Addr} {oc50 kV50 dc50 pm50 ct50 : Value} {od50 an50 : Option Addr} {sl50 : Array (Option Value)} {cd50 : Value}
   {f51 : Addr} {oc51 kV51 dc51 pm51 ct51 : Value} {od51 an51 : Option Addr} {sl51 : Array (Option Value)} {cd51 : Value}
   {f52 : Addr} {oc52 kV52 dc52 pm52 ct52 : Value} {od52 an52 : Option Addr} {sl52 : Array (Option Value)} {cd52 : Value}
   {f53 : Addr} {oc53 kV53 dc53 pm53 ct53 : Value} {od53 an53 : Option Addr} {sl53 : Array (Option Value)} {cd53 : Value}
   {f54 : Addr} {oc54 kV54 dc54 pm54 ct54 : Value} {od54 an54 : Option Addr} {sl54 : Array (Option Value)} {cd54 : Value}
   {f55 : Addr} {oc55 kV55 dc55 pm55 ct55 : Value} {od55 an55 : Option Addr} {sl55 : Array (Option Value)} {cd55 : Value}
   {f56 : Addr} {oc56 kV56 dc56 pm56 ct56 : Value} {od56 an56 : Option Addr} {sl56 : Array (Option Value)} {cd56 : Value}
   {f57 : Addr} {oc57 kV57 dc57 pm57 ct57 : Value} {od57 an57 : Option Addr} {sl57 : Array (Option Value)} {cd57 : Value}
   {f58 : Addr} {oc58 kV58 dc58 pm58 ct58 : Value} {od58 an58 : Option Addr} {sl58 : Array (Option Value)}
   {f59 : Addr} {oc59 kV59 dc59 pm59 ct59 : Value} {od59 an59 : Option Addr} {sl59 : Array (Option Value)}
   (z_isinstance : W.nsIn K mainGlobals "isinstance" = some none)
   (z_int : W.nsIn K mainGlobals "int" = some none)
   (z_bool : W.nsIn K mainGlobals "bool" = some none)
   (z_tuple : W.nsIn K mainGlobals "tuple" = some none)
   (z_list : W.nsIn K mainGlobals "list" = some none)
   (z_len : W.nsIn K mainGlobals "len" = some none)
   (z_zip : W.nsIn K mainGlobals "zip" = some none)
   (z_range : W.nsIn K mainGlobals "range" = some none)
   (z_min : W.nsIn K mainGlobals "min" = some none)
   (z_str : W.nsIn K mainGlobals "str" = some none)
   (z_sum : W.nsIn K mainGlobals "sum" = some none)
   (z_sorted : W.nsIn K mainGlobals "sorted" = some none)
   (z_set : W.nsIn K mainGlobals "set" = some none)
   (z_ValueError : W.nsIn K mainGlobals "ValueError" = some none)
   (z_MOST_JUGS : W.nsIn K mainGlobals "MOST_JUGS" = some (some (.int 4 t_MOST_JUGS)))
   (z_MOST_SIZE : W.nsIn K mainGlobals "MOST_SIZE" = some (some (.int 60 t_MOST_SIZE)))
   (z_MOST_STATES : W.nsIn K mainGlobals "MOST_STATES" = some (some (.int 2000 t_MOST_STATES)))
   (z_MOST_AMOUNT : W.nsIn K mainGlobals "MOST_AMOUNT" = some (some (.int 240 t_MOST_AMOUNT)))
   (a_Pour : W.nsIn K mainGlobals "Pour" = some (some (.ref C_Pour)))
   (pg_Pour : W.plainGet K C_Pour Str.empty = true)
   (hd_Pour : W.hasDictIn K C_Pour = true)
   (po_Pour : W.plainOver K C_Pour = true)
   (sa_Pour : W.findIn K (.ref C_Pour) "__setattr__" = some (some (.builtin "object.__setattr__")))
   (mk_Pour : W.makesIn K C_Pour = true)
   (kc_Pour : W.keepIn K (.ref C_Pour) = true)
   (n_Pour_one : W.findIn K (.ref C_Pour) "one" = some none)
   (n_Pour_other : W.findIn K (.ref C_Pour) "other" = some none)
   (ha_Pour : W.findIn K (.ref C_Pour) "__class__" = some (some (.builtin "object.__class__")))
   (hm_Pour : W.mroIn K C_Pour (.type "object") = some true)
   (a_Fill : W.nsIn K mainGlobals "Fill" = some (some (.ref C_Fill)))
   (pg_Fill : W.plainGet K C_Fill Str.empty = true)
   (hd_Fill : W.hasDictIn K C_Fill = true)
   (po_Fill : W.plainOver K C_Fill = true)
   (sa_Fill : W.findIn K (.ref C_Fill) "__setattr__" = some (some (.builtin "object.__setattr__")))
   (mk_Fill : W.makesIn K C_Fill = true)
   (kc_Fill : W.keepIn K (.ref C_Fill) = true)
   (n_Fill_jug : W.findIn K (.ref C_Fill) "jug" = some none)
   (ha_Fill : W.findIn K (.ref C_Fill) "__class__" = some (some (.builtin "object.__class__")))
   (hm_Fill : W.mroIn K C_Fill (.type "object") = some true)
   (a_Empty : W.nsIn K mainGlobals "Empty" = some (some (.ref C_Empty)))
   (pg_Empty : W.plainGet K C_Empty Str.empty = true)
   (hd_Empty : W.hasDictIn K C_Empty = true)
   (po_Empty : W.plainOver K C_Empty = true)
   (sa_Empty : W.findIn K (.ref C_Empty) "__setattr__" = some (some (.builtin "object.__setattr__")))
   (mk_Empty : W.makesIn K C_Empty = true)
   (kc_Empty : W.keepIn K (.ref C_Empty) = true)
   (n_Empty_jug : W.findIn K (.ref C_Empty) "jug" = some none)
   (ha_Empty : W.findIn K (.ref C_Empty) "__class__" = some (some (.builtin "object.__class__")))
   (hm_Empty : W.mroIn K C_Empty (.type "object") = some true)
   (a_House : W.nsIn K mainGlobals "House" = some (some (.ref C_House)))
   (pg_House : W.plainGet K C_House Str.empty = true)
   (hd_House : W.hasDictIn K C_House = true)
   (po_House : W.plainOver K C_House = true)
   (sa_House : W.findIn K (.ref C_House) "__setattr__" = some (some (.builtin "object.__setattr__")))
   (mk_House : W.makesIn K C_House = true)
   (kc_House : W.keepIn K (.ref C_House) = true)
   (n_House_jug_sizes : W.findIn K (.ref C_House) "jug_sizes" = some none)
   (n_House_tap : W.findIn K (.ref C_House) "tap" = some none)
   (a_Holds : W.nsIn K mainGlobals "Holds" = some (some (.ref C_Holds)))
   (pg_Holds : W.plainGet K C_Holds Str.empty = true)
   (hd_Holds : W.hasDictIn K C_Holds = true)
   (po_Holds : W.plainOver K C_Holds = true)
   (sa_Holds : W.findIn K (.ref C_Holds) "__setattr__" = some (some (.builtin "object.__setattr__")))
   (mk_Holds : W.makesIn K C_Holds = true)
   (kc_Holds : W.keepIn K (.ref C_Holds) = true)
   (n_Holds_jug : W.findIn K (.ref C_Holds) "jug" = some none)
   (n_Holds_many : W.findIn K (.ref C_Holds) "many" = some none)
   (ha_Holds : W.findIn K (.ref C_Holds) "__class__" = some (some (.builtin "object.__class__")))
   (hm_Holds : W.mroIn K C_Holds (.type "object") = some true)
   (a_Some : W.nsIn K mainGlobals "Some" = some (some (.ref C_Some)))
   (pg_Some : W.plainGet K C_Some Str.empty = true)
   (hd_Some : W.hasDictIn K C_Some = true)
   (po_Some : W.plainOver K C_Some = true)
   (sa_Some : W.findIn K (.ref C_Some) "__setattr__" = some (some (.builtin "object.__setattr__")))
   (mk_Some : W.makesIn K C_Some = true)
   (kc_Some : W.keepIn K (.ref C_Some) = true)
   (n_Some_many : W.findIn K (.ref C_Some) "many" = some none)
   (ha_Some : W.findIn K (.ref C_Some) "__class__" = some (some (.builtin "object.__class__")))
   (hm_Some : W.mroIn K C_Some (.type "object") = some true)
   (a_Sum : W.nsIn K mainGlobals "Sum" = some (some (.ref C_Sum)))
   (pg_Sum : W.plainGet K C_Sum Str.empty = true)
   (hd_Sum : W.hasDictIn K C_Sum = true)
   (po_Sum : W.plainOver K C_Sum = true)
   (sa_Sum : W.findIn K (.ref C_Sum) "__setattr__" = some (some (.builtin "object.__setattr__")))
   (mk_Sum : W.makesIn K C_Sum = true)
   (kc_Sum : W.keepIn K (.ref C_Sum) = true)
   (n_Sum_jugs : W.findIn K (.ref C_Sum) "jugs" = some none)
   (n_Sum_many : W.findIn K (.ref C_Sum) "many" = some none)
   (ha_Sum : W.findIn K (.ref C_Sum) "__class__" = some (some (.builtin "object.__class__")))
   (hm_Sum : W.mroIn K C_Sum (.type "object") = some true)
   (a_Whole : W.nsIn K mainGlobals "Whole" = some (some (.ref C_Whole)))
   (pg_Whole : W.plainGet K C_Whole Str.empty = true)
   (hd_Whole : W.hasDictIn K C_Whole = true)
   (po_Whole : W.plainOver K C_Whole = true)
   (sa_Whole : W.findIn K (.ref C_Whole) "__setattr__" = some (some (.builtin "object.__setattr__")))
   (mk_Whole : W.makesIn K C_Whole = true)
   (kc_Whole : W.keepIn K (.ref C_Whole) = true)
   (n_Whole_state : W.findIn K (.ref C_Whole) "state" = some none)
   (ha_Whole : W.findIn K (.ref C_Whole) "__class__" = some (some (.builtin "object.__class__")))
   (hm_Whole : W.mroIn K C_Whole (.type "object") = some true)
   (a_Goal : W.nsIn K mainGlobals "Goal" = some (some (.ref C_Goal)))
   (pg_Goal : W.plainGet K C_Goal Str.empty = true)
   (hd_Goal : W.hasDictIn K C_Goal = true)
   (po_Goal : W.plainOver K C_Goal = true)
   (sa_Goal : W.findIn K (.ref C_Goal) "__setattr__" = some (some (.builtin "object.__setattr__")))
   (a_BadHouse : W.nsIn K mainGlobals "BadHouse" = some (some (.ref C_BadHouse)))
   (ex_BadHouse : W.excIn K C_BadHouse bmV "ValueError.__new__" = true)
   (a_BadState : W.nsIn K mainGlobals "BadState" = some (some (.ref C_BadState)))
   (ex_BadState : W.excIn K C_BadState bmV "ValueError.__new__" = true)
   (a_BadMove : W.nsIn K mainGlobals "BadMove" = some (some (.ref C_BadMove)))
   (ex_BadMove : W.excIn K C_BadMove bmV "ValueError.__new__" = true)
   (a_BadGoal : W.nsIn K mainGlobals "BadGoal" = some (some (.ref C_BadGoal)))
   (ex_BadGoal : W.excIn K C_BadGoal bmV "ValueError.__new__" = true)
   (a_BadText : W.nsIn K mainGlobals "BadText" = some (some (.ref C_BadText)))
   (a_JugError : W.nsIn K mainGlobals "JugError" = some (some (.ref C_JugError)))
   (ex_JugError : W.excIn K C_JugError bmV "ValueError.__new__" = true)
   (ga_BadHouse : W.findIn K (.ref C_BadHouse) "__getattribute__" = some (some (.builtin "BaseException.__getattribute__")))
   (gt_BadHouse : W.findIn K (.ref C_BadHouse) "__getattr__" = some none)
   (gc_BadHouse : W.findIn K (.ref C_BadHouse) "__class__" = some (some (.builtin "object.__class__")))
   (mb_BadHouse : W.mroIn K C_BadHouse (.type "BaseException") = some true)
   (mo_BadHouse : W.mroIn K C_BadHouse (.type "object") = some true)
   (is_BadHouse : (W.clsIn K C_BadHouse).isSome = true)
   (sj_BadHouse : L2.subIn K C_BadHouse C_JugError = true)
   (kv_BadHouse : W.kitOne K (.ref C_BadHouse) (.type "ValueError") = some true)
   (ga_BadState : W.findIn K (.ref C_BadState) "__getattribute__" = some (some (.builtin "BaseException.__getattribute__")))
   (gt_BadState : W.findIn K (.ref C_BadState) "__getattr__" = some none)
   (gc_BadState : W.findIn K (.ref C_BadState) "__class__" = some (some (.builtin "object.__class__")))
   (mb_BadState : W.mroIn K C_BadState (.type "BaseException") = some true)
   (mo_BadState : W.mroIn K C_BadState (.type "object") = some true)
   (is_BadState : (W.clsIn K C_BadState).isSome = true)
   (sj_BadState : L2.subIn K C_BadState C_JugError = true)
   (kv_BadState : W.kitOne K (.ref C_BadState) (.type "ValueError") = some true)
   (ga_BadMove : W.findIn K (.ref C_BadMove) "__getattribute__" = some (some (.builtin "BaseException.__getattribute__")))
   (gt_BadMove : W.findIn K (.ref C_BadMove) "__getattr__" = some none)
   (gc_BadMove : W.findIn K (.ref C_BadMove) "__class__" = some (some (.builtin "object.__class__")))
   (mb_BadMove : W.mroIn K C_BadMove (.type "BaseException") = some true)
   (mo_BadMove : W.mroIn K C_BadMove (.type "object") = some true)
   (is_BadMove : (W.clsIn K C_BadMove).isSome = true)
   (sj_BadMove : L2.subIn K C_BadMove C_JugError = true)
   (kv_BadMove : W.kitOne K (.ref C_BadMove) (.type "ValueError") = some true)
   (ga_BadGoal : W.findIn K (.ref C_BadGoal) "__getattribute__" = some (some (.builtin "BaseException.__getattribute__")))
   (gt_BadGoal : W.findIn K (.ref C_BadGoal) "__getattr__" = some none)
   (gc_BadGoal : W.findIn K (.ref C_BadGoal) "__class__" = some (some (.builtin "object.__class__")))
   (mb_BadGoal : W.mroIn K C_BadGoal (.type "BaseException") = some true)
   (mo_BadGoal : W.mroIn K C_BadGoal (.type "object") = some true)
   (is_BadGoal : (W.clsIn K C_BadGoal).isSome = true)
   (sj_BadGoal : L2.subIn K C_BadGoal C_JugError = true)
   (kv_BadGoal : W.kitOne K (.ref C_BadGoal) (.type "ValueError") = some true)
   (ss : L2.subIn K C_BadState C_BadState = true)
   (nm0 : W.kitAny K (.type "NoneType") [.ref C_Pour, .ref C_Fill, .ref C_Empty] = some false)
   (nm1 : W.kitAny K (.type "bool") [.ref C_Pour, .ref C_Fill, .ref C_Empty] = some false)
   (nm2 : W.kitAny K (.type "int") [.ref C_Pour, .ref C_Fill, .ref C_Empty] = some false)
   (nm3 : W.kitAny K (.type "str") [.ref C_Pour, .ref C_Fill, .ref C_Empty] = some false)
   (nm4 : W.kitAny K (.type "list") [.ref C_Pour, .ref C_Fill, .ref C_Empty] = some false)
   (nm5 : W.kitAny K (.type "tuple") [.ref C_Pour, .ref C_Fill, .ref C_Empty] = some false)
   (ng0 : W.kitAny K (.type "NoneType") [.ref C_Holds, .ref C_Some, .ref C_Sum, .ref C_Whole] = some false)
   (ng1 : W.kitAny K (.type "bool") [.ref C_Holds, .ref C_Some, .ref C_Sum, .ref C_Whole] = some false)
   (ng2 : W.kitAny K (.type "int") [.ref C_Holds, .ref C_Some, .ref C_Sum, .ref C_Whole] = some false)
   (ng3 : W.kitAny K (.type "str") [.ref C_Holds, .ref C_Some, .ref C_Sum, .ref C_Whole] = some false)
   (ng4 : W.kitAny K (.type "list") [.ref C_Holds, .ref C_Some, .ref C_Sum, .ref C_Whole] = some false)
   (ng5 : W.kitAny K (.type "tuple") [.ref C_Holds, .ref C_Some, .ref C_Sum, .ref C_Whole] = some false)
   (hn : W.specialIn K (.builtin "object.__class__") "__get__" = some (some (.builtin "getset_descriptor.__get__")))
   (htk : W.takesIn K (.builtin "object.__class__") = some true)
   (k_Fill_Pour : W.kitOne K (.ref C_Fill) (.ref C_Pour) = some false)
   (k_Empty_Pour : W.kitOne K (.ref C_Empty) (.ref C_Pour) = some false)
   (k_Empty_Fill : W.kitOne K (.ref C_Empty) (.ref C_Fill) = some false)
   (k_Holds_Some : W.kitOne K (.ref C_Holds) (.ref C_Some) = some false)
   (k_Holds_Sum : W.kitOne K (.ref C_Holds) (.ref C_Sum) = some false)
   (k_Holds_Whole : W.kitOne K (.ref C_Holds) (.ref C_Whole) = some false)
   (k_Some_Holds : W.kitOne K (.ref C_Some) (.ref C_Holds) = some false)
   (k_Some_Sum : W.kitOne K (.ref C_Some) (.ref C_Sum) = some false)
   (k_Some_Whole : W.kitOne K (.ref C_Some) (.ref C_Whole) = some false)
   (k_Sum_Holds : W.kitOne K (.ref C_Sum) (.ref C_Holds) = some false)
   (k_Sum_Some : W.kitOne K (.ref C_Sum) (.ref C_Some) = some false)
   (k_Sum_Whole : W.kitOne K (.ref C_Sum) (.ref C_Whole) = some false)
   (k_Whole_Holds : W.kitOne K (.ref C_Whole) (.ref C_Holds) = some false)
   (k_Whole_Some : W.kitOne K (.ref C_Whole) (.ref C_Some) = some false)
   (k_Whole_Sum : W.kitOne K (.ref C_Whole) (.ref C_Sum) = some false)
   (k_Holds_Goal : W.kitOne K (.ref C_Holds) (.ref C_Goal) = some true)
   (k_Some_Goal : W.kitOne K (.ref C_Some) (.ref C_Goal) = some true)
   (k_Sum_Goal : W.kitOne K (.ref C_Sum) (.ref C_Goal) = some true)
   (k_Whole_Goal : W.kitOne K (.ref C_Whole) (.ref C_Goal) = some true)
   (k_BadHouse_BadState : W.kitOne K (.ref C_BadHouse) (.ref C_BadState) = some false)
   (k_BadHouse_BadMove : W.kitOne K (.ref C_BadHouse) (.ref C_BadMove) = some false)
   (k_BadHouse_BadGoal : W.kitOne K (.ref C_BadHouse) (.ref C_BadGoal) = some false)
   (k_BadHouse_BadText : W.kitOne K (.ref C_BadHouse) (.ref C_BadText) = some false)
   (k_BadState_BadHouse : W.kitOne K (.ref C_BadState) (.ref C_BadHouse) = some false)
   (k_BadState_BadMove : W.kitOne K (.ref C_BadState) (.ref C_BadMove) = some false)
   (k_BadState_BadGoal : W.kitOne K (.ref C_BadState) (.ref C_BadGoal) = some false)
   (k_BadState_BadText : W.kitOne K (.ref C_BadState) (.ref C_BadText) = some false)
   (k_BadMove_BadHouse : W.kitOne K (.ref C_BadMove) (.ref C_BadHouse) = some false)
   (k_BadMove_BadState : W.kitOne K (.ref C_BadMove) (.ref C_BadState) = some false)
   (k_BadMove_BadGoal : W.kitOne K (.ref C_BadMove) (.ref C_BadGoal) = some false)
   (k_BadMove_BadText : W.kitOne K (.ref C_BadMove) (.ref C_BadText) = some false)
   (k_BadGoal_BadHouse : W.kitOne K (.ref C_BadGoal) (.ref C_BadHouse) = some false)
   (k_BadGoal_BadState : W.kitOne K (.ref C_BadGoal) (.ref C_BadState) = some false)
   (k_BadGoal_BadMove : W.kitOne K (.ref C_BadGoal) (.ref C_BadMove) = some false)
   (k_BadGoal_BadText : W.kitOne K (.ref C_BadGoal) (.ref C_BadText) = some false)
   (a0 : W.nsIn K mainGlobals "is_number" = some (some (.ref f0)))
   (l0 : K.lookup f0 = some ⟨oc0, od0, .func (W.fnOf "is_number" "is_number" (dA s_is_number) (dB s_is_number) (dZ s_is_number) .none kV0 dc0 pm0 an0 cd0 ct0), sl0⟩)
   (c0 : W.codeIn K cd0 "is_number" = true)
   (kp0 : W.keepIn K (.ref f0) = true)
   (a1 : W.nsIn K mainGlobals "is_jug" = some (some (.ref f1)))
   (l1 : K.lookup f1 = some ⟨oc1, od1, .func (W.fnOf "is_jug" "is_jug" (dA s_is_jug) (dB s_is_jug) (dZ s_is_jug) .none kV1 dc1 pm1 an1 cd1 ct1), sl1⟩)
   (c1 : W.codeIn K cd1 "is_jug" = true)
   (kp1 : W.keepIn K (.ref f1) = true)
   (a2_House : W.findIn K (.ref C_House) "sizes" = some (some (.ref f2)))
   (i2 : W.isFn K (.ref f2) = true)
   (l2 : K.lookup f2 = some ⟨oc2, od2, .func (W.fnOf "sizes" "House.sizes" (dA s_House_sizes) (dB s_House_sizes) (dZ s_House_sizes) .none kV2 dc2 pm2 an2 cd2 ct2), sl2⟩)
   (c2 : W.codeIn K cd2 "House.sizes" = true)
   (kp2 : W.keepIn K (.ref f2) = true)
   (a3 : W.nsIn K mainGlobals "held_in" = some (some (.ref f3)))
   (l3 : K.lookup f3 = some ⟨oc3, od3, .func (W.fnOf "held_in" "held_in" (dA s_held_in) (dB s_held_in) (dZ s_held_in) .none kV3 dc3 pm3 an3 cd3 ct3), sl3⟩)
   (c3 : W.codeIn K cd3 "held_in" = true)
   (kp3 : W.keepIn K (.ref f3) = true)
   (a4 : W.nsIn K mainGlobals "with_amount" = some (some (.ref f4)))
   (l4 : K.lookup f4 = some ⟨oc4, od4, .func (W.fnOf "with_amount" "with_amount" (dA s_with_amount) (dB s_with_amount) (dZ s_with_amount) .none kV4 dc4 pm4 an4 cd4 ct4), sl4⟩)
   (c4 : W.codeIn K cd4 "with_amount" = true)
   (kp4 : W.keepIn K (.ref f4) = true)
   (a5 : W.nsIn K mainGlobals "check_jug_moves" = some (some (.ref f5)))
   (l5 : K.lookup f5 = some ⟨oc5, od5, .func (W.fnOf "check_jug" "check_jug" (dA s_check_jug) (dB s_check_jug) (dZ s_check_jug) .none kV5 dc5 pm5 an5 cd5 ct5), sl5⟩)
   (c5 : W.codeIn K cd5 "check_jug" = true)
   (kp5 : W.keepIn K (.ref f5) = true)
   (a6 : W.nsIn K mainGlobals "check_house_has_moves" = some (some (.ref f6)))
   (l6 : K.lookup f6 = some ⟨oc6, od6, .func (W.fnOf "check_house_has" "check_house_has" (dA s_check_house_has) (dB s_check_house_has) (dZ s_check_house_has) .none kV6 dc6 pm6 an6 cd6 ct6), sl6⟩)
   (c6 : W.codeIn K cd6 "check_house_has" = true)
   (kp6 : W.keepIn K (.ref f6) = true)
   (a7 : W.nsIn K mainGlobals "check_house_can_tap" = some (some (.ref f7)))
   (l7 : K.lookup f7 = some ⟨oc7, od7, .func (W.fnOf "check_house_can_tap" "check_house_can_tap" (dA s_check_house_can_tap) (dB s_check_house_can_tap) (dZ s_check_house_can_tap) .none kV7 dc7 pm7 an7 cd7 ct7), sl7⟩)
   (c7 : W.codeIn K cd7 "check_house_can_tap" = true)
   (kp7 : W.keepIn K (.ref f7) = true)
   (a8_Pour : W.findIn K (.ref C_Pour) "__init__" = some (some (.ref f8)))
   (i8 : W.isFn K (.ref f8) = true)
   (l8 : K.lookup f8 = some ⟨oc8, od8, .func (W.fnOf "__init__" "Pour.__init__" (dA s_Pour_init) (dB s_Pour_init) (dZ s_Pour_init) .none kV8 dc8 pm8 an8 cd8 ct8), sl8⟩)
   (c8 : W.codeIn K cd8 "Pour.__init__" = true)
   (kp8 : W.keepIn K (.ref f8) = true)
   (a9_Fill : W.findIn K (.ref C_Fill) "__init__" = some (some (.ref f9)))
   (i9 : W.isFn K (.ref f9) = true)
   (l9 : K.lookup f9 = some ⟨oc9, od9, .func (W.fnOf "__init__" "Fill.__init__" (dA s_Fill_init) (dB s_Fill_init) (dZ s_Fill_init) .none kV9 dc9 pm9 an9 cd9 ct9), sl9⟩)
   (c9 : W.codeIn K cd9 "Fill.__init__" = true)
   (kp9 : W.keepIn K (.ref f9) = true)
   (a10_Empty : W.findIn K (.ref C_Empty) "__init__" = some (some (.ref f10)))
   (i10 : W.isFn K (.ref f10) = true)
   (l10 : K.lookup f10 = some ⟨oc10, od10, .func (W.fnOf "__init__" "Empty.__init__" (dA s_Empty_init) (dB s_Empty_init) (dZ s_Empty_init) .none kV10 dc10 pm10 an10 cd10 ct10), sl10⟩)
   (c10 : W.codeIn K cd10 "Empty.__init__" = true)
   (kp10 : W.keepIn K (.ref f10) = true)
   (a11_Pour : W.findIn K (.ref C_Pour) "held_behind" = some (some (.ref f11)))
   (i11 : W.isFn K (.ref f11) = true)
   (l11 : K.lookup f11 = some ⟨oc11, od11, .func (W.fnOf "held_behind" "Pour.held_behind" (dA s_Pour_held_behind) (dB s_Pour_held_behind) (dZ s_Pour_held_behind) .none kV11 dc11 pm11 an11 cd11 ct11), sl11⟩)
   (c11 : W.codeIn K cd11 "Pour.held_behind" = true)
   (kp11 : W.keepIn K (.ref f11) = true)
   (a12_Fill : W.findIn K (.ref C_Fill) "held_behind" = some (some (.ref f12)))
   (i12 : W.isFn K (.ref f12) = true)
   (l12 : K.lookup f12 = some ⟨oc12, od12, .func (W.fnOf "held_behind" "Fill.held_behind" (dA s_Fill_held_behind) (dB s_Fill_held_behind) (dZ s_Fill_held_behind) .none kV12 dc12 pm12 an12 cd12 ct12), sl12⟩)
   (c12 : W.codeIn K cd12 "Fill.held_behind" = true)
   (kp12 : W.keepIn K (.ref f12) = true)
   (a13_Empty : W.findIn K (.ref C_Empty) "held_behind" = some (some (.ref f13)))
   (i13 : W.isFn K (.ref f13) = true)
   (l13 : K.lookup f13 = some ⟨oc13, od13, .func (W.fnOf "held_behind" "Empty.held_behind" (dA s_Empty_held_behind) (dB s_Empty_held_behind) (dZ s_Empty_held_behind) .none kV13 dc13 pm13 an13 cd13 ct13), sl13⟩)
   (c13 : W.codeIn K cd13 "Empty.held_behind" = true)
   (kp13 : W.keepIn K (.ref f13) = true)
   (a14_Pour : W.findIn K (.ref C_Pour) "done" = some (some (.ref f14)))
   (a14_Fill : W.findIn K (.ref C_Fill) "done" = some (some (.ref f14)))
   (a14_Empty : W.findIn K (.ref C_Empty) "done" = some (some (.ref f14)))
   (i14 : W.isFn K (.ref f14) = true)
   (l14 : K.lookup f14 = some ⟨oc14, od14, .func (W.fnOf "done" "Move.done" (dA s_Move_done) (dB s_Move_done) (dZ s_Move_done) .none kV14 dc14 pm14 an14 cd14 ct14), sl14⟩)
   (c14 : W.codeIn K cd14 "Move.done" = true)
   (kp14 : W.keepIn K (.ref f14) = true)
   (a15 : W.nsIn K mainGlobals "moves_in" = some (some (.ref f15)))
   (l15 : K.lookup f15 = some ⟨oc15, od15, .func (W.fnOf "moves_in" "moves_in" (dA s_moves_in) (dB s_moves_in) (dZ s_moves_in) .none kV15 dc15 pm15 an15 cd15 ct15), sl15⟩)
   (c15 : W.codeIn K cd15 "moves_in" = true)
   (kp15 : W.keepIn K (.ref f15) = true)
   (a16 : W.nsIn K mainGlobals "done_all" = some (some (.ref f16)))
   (l16 : K.lookup f16 = some ⟨oc16, od16, .func (W.fnOf "done_all" "done_all" (dA s_done_all) (dB s_done_all) (dZ s_done_all) .none kV16 dc16 pm16 an16 cd16 ct16), sl16⟩)
   (c16 : W.codeIn K cd16 "done_all" = true)
   (kp16 : W.keepIn K (.ref f16) = true)
   (a17 : W.nsIn K mainGlobals "count_states" = some (some (.ref f17)))
   (l17 : K.lookup f17 = some ⟨oc17, od17, .func (W.fnOf "count_states" "count_states" (dA s_count_states) (dB s_count_states) (dZ s_count_states) .none kV17 dc17 pm17 an17 cd17 ct17), sl17⟩)
   (c17 : W.codeIn K cd17 "count_states" = true)
   (kp17 : W.keepIn K (.ref f17) = true)
   (a18 : W.nsIn K mainGlobals "sizes_in" = some (some (.ref f18)))
   (l18 : K.lookup f18 = some ⟨oc18, od18, .func (W.fnOf "sizes_in" "sizes_in" (dA s_sizes_in) (dB s_sizes_in) (dZ s_sizes_in) .none kV18 dc18 pm18 an18 cd18 ct18), sl18⟩)
   (c18 : W.codeIn K cd18 "sizes_in" = true)
   (kp18 : W.keepIn K (.ref f18) = true)
   (a19_House : W.findIn K (.ref C_House) "__init__" = some (some (.ref f19)))
   (i19 : W.isFn K (.ref f19) = true)
   (l19 : K.lookup f19 = some ⟨oc19, od19, .func (W.fnOf "__init__" "House.__init__" (dA s_House_init) (dB s_House_init) (dZ s_House_init) .none kV19 dc19 pm19 an19 cd19 ct19), sl19⟩)
   (c19 : W.codeIn K cd19 "House.__init__" = true)
   (kp19 : W.keepIn K (.ref f19) = true)
   (a20 : W.nsIn K mainGlobals "pours_among" = some (some (.ref f20)))
   (l20 : K.lookup f20 = some ⟨oc20, od20, .func (W.fnOf "pours_among" "pours_among" (dA s_pours_among) (dB s_pours_among) (dZ s_pours_among) .none kV20 dc20 pm20 an20 cd20 ct20), sl20⟩)
   (c20 : W.codeIn K cd20 "pours_among" = true)
   (kp20 : W.keepIn K (.ref f20) = true)
   (a21 : W.nsIn K mainGlobals "with_one_more" = some (some (.ref f21)))
   (l21 : K.lookup f21 = some ⟨oc21, od21, .func (W.fnOf "with_one_more" "with_one_more" (dA s_with_one_more) (dB s_with_one_more) (dZ s_with_one_more) .none kV21 dc21 pm21 an21 cd21 ct21), sl21⟩)
   (c21 : W.codeIn K cd21 "with_one_more" = true)
   (kp21 : W.keepIn K (.ref f21) = true)
   (a22_House : W.findIn K (.ref C_House) "states" = some (some (.ref f22)))
   (i22 : W.isFn K (.ref f22) = true)
   (l22 : K.lookup f22 = some ⟨oc22, od22, .func (W.fnOf "states" "House.states" (dA s_House_states) (dB s_House_states) (dZ s_House_states) .none kV22 dc22 pm22 an22 cd22 ct22), sl22⟩)
   (c22 : W.codeIn K cd22 "House.states" = true)
   (kp22 : W.keepIn K (.ref f22) = true)
   (a23_House : W.findIn K (.ref C_House) "moves" = some (some (.ref f23)))
   (i23 : W.isFn K (.ref f23) = true)
   (l23 : K.lookup f23 = some ⟨oc23, od23, .func (W.fnOf "moves" "House.moves" (dA s_House_moves) (dB s_House_moves) (dZ s_House_moves) .none kV23 dc23 pm23 an23 cd23 ct23), sl23⟩)
   (c23 : W.codeIn K cd23 "House.moves" = true)
   (kp23 : W.keepIn K (.ref f23) = true)
   (a24 : W.nsIn K mainGlobals "ways_from" = some (some (.ref f24)))
   (l24 : K.lookup f24 = some ⟨oc24, od24, .func (W.fnOf "ways_from" "ways_from" (dA s_ways_from) (dB s_ways_from) (dZ s_ways_from) .none kV24 dc24 pm24 an24 cd24 ct24), sl24⟩)
   (c24 : W.codeIn K cd24 "ways_from" = true)
   (kp24 : W.keepIn K (.ref f24) = true)
   (a25 : W.nsIn K mainGlobals "reached" = some (some (.ref f25)))
   (l25 : K.lookup f25 = some ⟨oc25, od25, .func (W.fnOf "reached" "reached" (dA s_reached) (dB s_reached) (dZ s_reached) .none kV25 dc25 pm25 an25 cd25 ct25), sl25⟩)
   (c25 : W.codeIn K cd25 "reached" = true)
   (kp25 : W.keepIn K (.ref f25) = true)
   (a26 : W.nsIn K mainGlobals "measured" = some (some (.ref f26)))
   (l26 : K.lookup f26 = some ⟨oc26, od26, .func (W.fnOf "measured" "measured" (dA s_measured) (dB s_measured) (dZ s_measured) .none kV26 dc26 pm26 an26 cd26 ct26), sl26⟩)
   (c26 : W.codeIn K cd26 "measured" = true)
   (kp26 : W.keepIn K (.ref f26) = true)
   (a27 : W.nsIn K mainGlobals "tied" = some (some (.ref f27)))
   (l27 : K.lookup f27 = some ⟨oc27, od27, .func (W.fnOf "tied" "tied" (dA s_tied) (dB s_tied) (dZ s_tied) .none kV27 dc27 pm27 an27 cd27 ct27), sl27⟩)
   (c27 : W.codeIn K cd27 "tied" = true)
   (kp27 : W.keepIn K (.ref f27) = true)
   (a28 : W.nsIn K mainGlobals "check_jug_goals" = some (some (.ref f28)))
   (l28 : K.lookup f28 = some ⟨oc28, od28, .func (W.fnOf "check_jug" "check_jug" (dA s_check_jug') (dB s_check_jug') (dZ s_check_jug') .none kV28 dc28 pm28 an28 cd28 ct28), sl28⟩)
   (c28 : W.codeIn K cd28 "check_jug" = true)
   (kp28 : W.keepIn K (.ref f28) = true)
   (a29 : W.nsIn K mainGlobals "check_house_has_goals" = some (some (.ref f29)))
   (l29 : K.lookup f29 = some ⟨oc29, od29, .func (W.fnOf "check_house_has" "check_house_has" (dA s_check_house_has') (dB s_check_house_has') (dZ s_check_house_has') .none kV29 dc29 pm29 an29 cd29 ct29), sl29⟩)
   (c29 : W.codeIn K cd29 "check_house_has" = true)
   (kp29 : W.keepIn K (.ref f29) = true)
   (a30 : W.nsIn K mainGlobals "check_amount" = some (some (.ref f30)))
   (l30 : K.lookup f30 = some ⟨oc30, od30, .func (W.fnOf "check_amount" "check_amount" (dA s_check_amount) (dB s_check_amount) (dZ s_check_amount) .none kV30 dc30 pm30 an30 cd30 ct30), sl30⟩)
   (c30 : W.codeIn K cd30 "check_amount" = true)
   (kp30 : W.keepIn K (.ref f30) = true)
   (a31 : W.nsIn K mainGlobals "jugs_in" = some (some (.ref f31)))
   (l31 : K.lookup f31 = some ⟨oc31, od31, .func (W.fnOf "jugs_in" "jugs_in" (dA s_jugs_in) (dB s_jugs_in) (dZ s_jugs_in) .none kV31 dc31 pm31 an31 cd31 ct31), sl31⟩)
   (c31 : W.codeIn K cd31 "jugs_in" = true)
   (kp31 : W.keepIn K (.ref f31) = true)
   (a32 : W.nsIn K mainGlobals "amounts_in" = some (some (.ref f32)))
   (l32 : K.lookup f32 = some ⟨oc32, od32, .func (W.fnOf "amounts_in" "amounts_in" (dA s_amounts_in) (dB s_amounts_in) (dZ s_amounts_in) .none kV32 dc32 pm32 an32 cd32 ct32), sl32⟩)
   (c32 : W.codeIn K cd32 "amounts_in" = true)
   (kp32 : W.keepIn K (.ref f32) = true)
   (a33 : W.nsIn K mainGlobals "check_state_of" = some (some (.ref f33)))
   (l33 : K.lookup f33 = some ⟨oc33, od33, .func (W.fnOf "check_state_of" "check_state_of" (dA s_check_state_of) (dB s_check_state_of) (dZ s_check_state_of) .none kV33 dc33 pm33 an33 cd33 ct33), sl33⟩)
   (c33 : W.codeIn K cd33 "check_state_of" = true)
   (kp33 : W.keepIn K (.ref f33) = true)
   (a34_Holds : W.findIn K (.ref C_Holds) "__init__" = some (some (.ref f34)))
   (i34 : W.isFn K (.ref f34) = true)
   (l34 : K.lookup f34 = some ⟨oc34, od34, .func (W.fnOf "__init__" "Holds.__init__" (dA s_Holds_init) (dB s_Holds_init) (dZ s_Holds_init) .none kV34 dc34 pm34 an34 cd34 ct34), sl34⟩)
   (c34 : W.codeIn K cd34 "Holds.__init__" = true)
   (kp34 : W.keepIn K (.ref f34) = true)
   (a35_Some : W.findIn K (.ref C_Some) "__init__" = some (some (.ref f35)))
   (i35 : W.isFn K (.ref f35) = true)
   (l35 : K.lookup f35 = some ⟨oc35, od35, .func (W.fnOf "__init__" "Some.__init__" (dA s_Some_init) (dB s_Some_init) (dZ s_Some_init) .none kV35 dc35 pm35 an35 cd35 ct35), sl35⟩)
   (c35 : W.codeIn K cd35 "Some.__init__" = true)
   (kp35 : W.keepIn K (.ref f35) = true)
   (a36_Sum : W.findIn K (.ref C_Sum) "__init__" = some (some (.ref f36)))
   (i36 : W.isFn K (.ref f36) = true)
   (l36 : K.lookup f36 = some ⟨oc36, od36, .func (W.fnOf "__init__" "Sum.__init__" (dA s_Sum_init) (dB s_Sum_init) (dZ s_Sum_init) .none kV36 dc36 pm36 an36 cd36 ct36), sl36⟩)
   (c36 : W.codeIn K cd36 "Sum.__init__" = true)
   (kp36 : W.keepIn K (.ref f36) = true)
   (a37_Whole : W.findIn K (.ref C_Whole) "__init__" = some (some (.ref f37)))
   (i37 : W.isFn K (.ref f37) = true)
   (l37 : K.lookup f37 = some ⟨oc37, od37, .func (W.fnOf "__init__" "Whole.__init__" (dA s_Whole_init) (dB s_Whole_init) (dZ s_Whole_init) .none kV37 dc37 pm37 an37 cd37 ct37), sl37⟩)
   (c37 : W.codeIn K cd37 "Whole.__init__" = true)
   (kp37 : W.keepIn K (.ref f37) = true)
   (a38_Holds : W.findIn K (.ref C_Holds) "met_by" = some (some (.ref f38)))
   (i38 : W.isFn K (.ref f38) = true)
   (l38 : K.lookup f38 = some ⟨oc38, od38, .func (W.fnOf "met_by" "Holds.met_by" (dA s_Holds_met_by) (dB s_Holds_met_by) (dZ s_Holds_met_by) .none kV38 dc38 pm38 an38 cd38 ct38), sl38⟩)
   (c38 : W.codeIn K cd38 "Holds.met_by" = true)
   (kp38 : W.keepIn K (.ref f38) = true)
   (a39_Some : W.findIn K (.ref C_Some) "met_by" = some (some (.ref f39)))
   (i39 : W.isFn K (.ref f39) = true)
   (l39 : K.lookup f39 = some ⟨oc39, od39, .func (W.fnOf "met_by" "Some.met_by" (dA s_Some_met_by) (dB s_Some_met_by) (dZ s_Some_met_by) .none kV39 dc39 pm39 an39 cd39 ct39), sl39⟩)
   (c39 : W.codeIn K cd39 "Some.met_by" = true)
   (kp39 : W.keepIn K (.ref f39) = true)
   (a40_Sum : W.findIn K (.ref C_Sum) "met_by" = some (some (.ref f40)))
   (i40 : W.isFn K (.ref f40) = true)
   (l40 : K.lookup f40 = some ⟨oc40, od40, .func (W.fnOf "met_by" "Sum.met_by" (dA s_Sum_met_by) (dB s_Sum_met_by) (dZ s_Sum_met_by) .none kV40 dc40 pm40 an40 cd40 ct40), sl40⟩)
   (c40 : W.codeIn K cd40 "Sum.met_by" = true)
   (kp40 : W.keepIn K (.ref f40) = true)
   (a41_Whole : W.findIn K (.ref C_Whole) "met_by" = some (some (.ref f41)))
   (i41 : W.isFn K (.ref f41) = true)
   (l41 : K.lookup f41 = some ⟨oc41, od41, .func (W.fnOf "met_by" "Whole.met_by" (dA s_Whole_met_by) (dB s_Whole_met_by) (dZ s_Whole_met_by) .none kV41 dc41 pm41 an41 cd41 ct41), sl41⟩)
   (c41 : W.codeIn K cd41 "Whole.met_by" = true)
   (kp41 : W.keepIn K (.ref f41) = true)
   (a42_Holds : W.findIn K (.ref C_Holds) "come" = some (some (.ref f42)))
   (a42_Some : W.findIn K (.ref C_Some) "come" = some (some (.ref f42)))
   (a42_Sum : W.findIn K (.ref C_Sum) "come" = some (some (.ref f42)))
   (a42_Whole : W.findIn K (.ref C_Whole) "come" = some (some (.ref f42)))
   (i42 : W.isFn K (.ref f42) = true)
   (l42 : K.lookup f42 = some ⟨oc42, od42, .func (W.fnOf "come" "Goal.come" (dA s_Goal_come) (dB s_Goal_come) (dZ s_Goal_come) .none kV42 dc42 pm42 an42 cd42 ct42), sl42⟩)
   (c42 : W.codeIn K cd42 "Goal.come" = true)
   (kp42 : W.keepIn K (.ref f42) = true)
   (a43 : W.nsIn K mainGlobals "check_goal" = some (some (.ref f43)))
   (l43 : K.lookup f43 = some ⟨oc43, od43, .func (W.fnOf "check_goal" "check_goal" (dA s_check_goal) (dB s_check_goal) (dZ s_check_goal) .none kV43 dc43 pm43 an43 cd43 ct43), sl43⟩)
   (c43 : W.codeIn K cd43 "check_goal" = true)
   (kp43 : W.keepIn K (.ref f43) = true)
   (a44 : W.nsIn K mainGlobals "nearest" = some (some (.ref f44)))
   (l44 : K.lookup f44 = some ⟨oc44, od44, .func (W.fnOf "nearest" "nearest" (dA s_nearest) (dB s_nearest) (dZ s_nearest) .none kV44 dc44 pm44 an44 cd44 ct44), sl44⟩)
   (c44 : W.codeIn K cd44 "nearest" = true)
   (kp44 : W.keepIn K (.ref f44) = true)
   (a45 : W.nsIn K mainGlobals "fewest" = some (some (.ref f45)))
   (l45 : K.lookup f45 = some ⟨oc45, od45, .func (W.fnOf "fewest" "fewest" (dA s_fewest) (dB s_fewest) (dZ s_fewest) .none kV45 dc45 pm45 an45 cd45 ct45), sl45⟩)
   (c45 : W.codeIn K cd45 "fewest" = true)
   (kp45 : W.keepIn K (.ref f45) = true)
   (a46 : W.nsIn K mainGlobals "routine_text" = some (some (.ref f46)))
   (l46 : K.lookup f46 = some ⟨oc46, od46, .func (W.fnOf "routine_text" "routine_text" (dA s_routine_text) (dB s_routine_text) (dZ s_routine_text) .none kV46 dc46 pm46 an46 cd46 ct46), sl46⟩)
   (c46 : W.codeIn K cd46 "routine_text" = true)
   (kp46 : W.keepIn K (.ref f46) = true)
   (a47 : W.nsIn K mainGlobals "_law_cell_at" = some (some (.ref f47)))
   (l47 : K.lookup f47 = some ⟨oc47, od47, .func (W.fnOf "_law_cell_at" "_law_cell_at" (dA s__law_cell_at) (dB s__law_cell_at) (dZ s__law_cell_at) .none kV47 dc47 pm47 an47 cd47 ct47), sl47⟩)
   (c47 : W.codeIn K cd47 "_law_cell_at" = true)
   (kp47 : W.keepIn K (.ref f47) = true)
   (a48 : W.nsIn K mainGlobals "_law_kinds" = some (some (.ref f48)))
   (l48 : K.lookup f48 = some ⟨oc48, od48, .func (W.fnOf "_law_kinds" "_law_kinds" (dA s__law_kinds) (dB s__law_kinds) (dZ s__law_kinds) .none kV48 dc48 pm48 an48 cd48 ct48), sl48⟩)
   (c48 : W.codeIn K cd48 "_law_kinds" = true)
   (kp48 : W.keepIn K (.ref f48) = true)
   (a49 : W.nsIn K mainGlobals "_law_told" = some (some (.ref f49)))
   (l49 : K.lookup f49 = some ⟨oc49, od49, .func (W.fnOf "_law_told" "_law_told" (dA s__law_told) (dB s__law_told) (dZ s__law_told) .none kV49 dc49 pm49 an49 cd49 ct49), sl49⟩)
   (c49 : W.codeIn K cd49 "_law_told" = true)
   (kp49 : W.keepIn K (.ref f49) = true)
   (a50 : W.nsIn K mainGlobals "_law_all" = some (some (.ref f50)))
   (l50 : K.lookup f50 = some ⟨oc50, od50, .func (W.fnOf "_law_all" "_law_all" (dA s__law_all) (dB s__law_all) (dZ s__law_all) .none kV50 dc50 pm50 an50 cd50 ct50), sl50⟩)
   (c50 : W.codeIn K cd50 "_law_all" = true)
   (kp50 : W.keepIn K (.ref f50) = true)
   (a51 : W.nsIn K mainGlobals "_law_house" = some (some (.ref f51)))
   (l51 : K.lookup f51 = some ⟨oc51, od51, .func (W.fnOf "_law_house" "_law_house" (dA s__law_house) (dB s__law_house) (dZ s__law_house) .none kV51 dc51 pm51 an51 cd51 ct51), sl51⟩)
   (c51 : W.codeIn K cd51 "_law_house" = true)
   (kp51 : W.keepIn K (.ref f51) = true)
   (a52 : W.nsIn K mainGlobals "_law_with_state" = some (some (.ref f52)))
   (l52 : K.lookup f52 = some ⟨oc52, od52, .func (W.fnOf "_law_with_state" "_law_with_state" (dA s__law_with_state) (dB s__law_with_state) (dZ s__law_with_state) .none kV52 dc52 pm52 an52 cd52 ct52), sl52⟩)
   (c52 : W.codeIn K cd52 "_law_with_state" = true)
   (kp52 : W.keepIn K (.ref f52) = true)
   (a53 : W.nsIn K mainGlobals "_law_with_move" = some (some (.ref f53)))
   (l53 : K.lookup f53 = some ⟨oc53, od53, .func (W.fnOf "_law_with_move" "_law_with_move" (dA s__law_with_move) (dB s__law_with_move) (dZ s__law_with_move) .none kV53 dc53 pm53 an53 cd53 ct53), sl53⟩)
   (c53 : W.codeIn K cd53 "_law_with_move" = true)
   (kp53 : W.keepIn K (.ref f53) = true)
   (a54 : W.nsIn K mainGlobals "_law_unfit" = some (some (.ref f54)))
   (l54 : K.lookup f54 = some ⟨oc54, od54, .func (W.fnOf "_law_unfit" "_law_unfit" (dA s__law_unfit) (dB s__law_unfit) (dZ s__law_unfit) .none kV54 dc54 pm54 an54 cd54 ct54), sl54⟩)
   (c54 : W.codeIn K cd54 "_law_unfit" = true)
   (kp54 : W.keepIn K (.ref f54) = true)
   (a55 : W.nsIn K mainGlobals "_law_with_goal" = some (some (.ref f55)))
   (l55 : K.lookup f55 = some ⟨oc55, od55, .func (W.fnOf "_law_with_goal" "_law_with_goal" (dA s__law_with_goal) (dB s__law_with_goal) (dZ s__law_with_goal) .none kV55 dc55 pm55 an55 cd55 ct55), sl55⟩)
   (c55 : W.codeIn K cd55 "_law_with_goal" = true)
   (kp55 : W.keepIn K (.ref f55) = true)
   (a56 : W.nsIn K mainGlobals "_law_goal_unfit" = some (some (.ref f56)))
   (l56 : K.lookup f56 = some ⟨oc56, od56, .func (W.fnOf "_law_goal_unfit" "_law_goal_unfit" (dA s__law_goal_unfit) (dB s__law_goal_unfit) (dZ s__law_goal_unfit) .none kV56 dc56 pm56 an56 cd56 ct56), sl56⟩)
   (c56 : W.codeIn K cd56 "_law_goal_unfit" = true)
   (kp56 : W.keepIn K (.ref f56) = true)
   (a57 : W.nsIn K mainGlobals "_law_good" = some (some (.ref f57)))
   (l57 : K.lookup f57 = some ⟨oc57, od57, .func (W.fnOf "_law_good" "_law_good" (dA s__law_good) (dB s__law_good) (dZ s__law_good) .none kV57 dc57 pm57 an57 cd57 ct57), sl57⟩)
   (c57 : W.codeIn K cd57 "_law_good" = true)
   (kp57 : W.keepIn K (.ref f57) = true)
   (a58 : W.nsIn K mainGlobals "_law_goals_right" = some (some (.ref f58)))
   (l58 : K.lookup f58 = some ⟨oc58, od58, .func (W.fnOf "_law_goals_right" "_law_goals_right" (dA s__law_goals_right) (dB s__law_goals_right) (dZ s__law_goals_right) .none kV58 dc58 pm58 an58 (.ref 702) ct58), sl58⟩)
   (c58 : W.codeIn K (.ref 702) "_law_goals_right" = true)
   (kp58 : W.keepIn K (.ref f58) = true)
   (ch58 : W.codeHdIn K 702 698 = true)
   (a59 : W.nsIn K mainGlobals "law" = some (some (.ref f59)))
   (l59 : K.lookup f59 = some ⟨oc59, od59, .func (W.fnOf "law" "law" (dA s_law) (dB s_law) (dZ s_law) .none kV59 dc59 pm59 an59 (.ref 716) ct59), sl59⟩)
   (c59 : W.codeIn K (.ref 716) "law" = true)
   (kp59 : W.keepIn K (.ref f59) = true)
   (ch59 : W.codeHdIn K 716 712 = true)
   : ∃ fd : FuncData, (∀ (s : Shared) (v : Value), BindsTo s fd ⟨[v], []⟩ [("_law_script", v)]) ∧ ∀ base : Heap, K.In base → base.Ns mainGlobals mg → BMain mg base → FnOk l.prog w K mg base CX0 14 fa fd ["_law_script"] (spLaw K) := by
 have e := hfa.symm.trans (W.mg_of X G a59)
 cases e
 have F0 := fMk (st := s_is_number) l0 c0 kp0
 have b0 := F0.binds (ps := ["value", "least", "most"]) n3%
 have F1 := fMk (st := s_is_jug) l1 c1 kp1
 have b1 := F1.binds (ps := ["value"]) n1%
 have F2 := fMk (st := s_House_sizes) l2 c2 kp2
 have b2 := F2.binds (ps := ["self"]) n1%
 have F3 := fMk (st := s_held_in) l3 c3 kp3
 have b3 := F3.binds (ps := ["house", "state"]) n2%
 have F4 := fMk (st := s_with_amount) l4 c4 kp4
 have b4 := F4.binds (ps := ["held", "jug", "many"]) n3%
 have F5 := fMk (st := s_check_jug) l5 c5 kp5
 have b5 := F5.binds (ps := ["jug"]) n1%
 have F6 := fMk (st := s_check_house_has) l6 c6 kp6
 have b6 := F6.binds (ps := ["house", "jug"]) n2%
 have F7 := fMk (st := s_check_house_can_tap) l7 c7 kp7
 have b7 := F7.binds (ps := ["house", "jug"]) n2%
 have F8 := fMk (st := s_Pour_init) l8 c8 kp8
 have b8 := F8.binds (ps := ["self", "one", "other"]) n3%
 have F9 := fMk (st := s_Fill_init) l9 c9 kp9
 have b9 := F9.binds (ps := ["self", "jug"]) n2%
 have F10 := fMk (st := s_Empty_init) l10 c10 kp10
 have b10 := F10.binds (ps := ["self", "jug"]) n2%
 have F11 := fMk (st := s_Pour_held_behind) l11 c11 kp11
 have b11 := F11.binds (ps := ["self", "house", "held"]) n3%
 have F12 := fMk (st := s_Fill_held_behind) l12 c12 kp12
 have b12 := F12.binds (ps := ["self", "house", "held"]) n3%
 have F13 := fMk (st := s_Empty_held_behind) l13 c13 kp13
 have b13 := F13.binds (ps := ["self", "house", "held"]) n3%
 have F14 := fMk (st := s_Move_done) l14 c14 kp14
 have b14 := F14.binds (ps := ["self", "house", "state"]) n3%
 have F15 := fMk (st := s_moves_in) l15 c15 kp15
 have b15 := F15.binds (ps := ["moves"]) n1%
 have F16 := fMk (st := s_done_all) l16 c16 kp16
 have b16 := F16.binds (ps := ["moves", "house", "state"]) n3%
 have F17 := fMk (st := s_count_states) l17 c17 kp17
 have b17 := F17.binds (ps := ["sizes"]) n1%
 have F18 := fMk (st := s_sizes_in) l18 c18 kp18
 have b18 := F18.binds (ps := ["sizes"]) n1%
 have F19 := fMk (st := s_House_init) l19 c19 kp19
 have b19 := F19.binds (ps := ["self", "sizes", "tap"]) n3%
 have F20 := fMk (st := s_pours_among) l20 c20 kp20
 have b20 := F20.binds (ps := ["many"]) n1%
 have F21 := fMk (st := s_with_one_more) l21 c21 kp21
 have b21 := F21.binds (ps := ["states", "size"]) n2%
 have F22 := fMk (st := s_House_states) l22 c22 kp22
 have b22 := F22.binds (ps := ["self"]) n1%
 have F23 := fMk (st := s_House_moves) l23 c23 kp23
 have b23 := F23.binds (ps := ["self"]) n1%
 have F24 := fMk (st := s_ways_from) l24 c24 kp24
 have b24 := F24.binds (ps := ["house", "state"]) n2%
 have F25 := fMk (st := s_reached) l25 c25 kp25
 have b25 := F25.binds (ps := ["house", "state"]) n2%
 have F26 := fMk (st := s_measured) l26 c26 kp26
 have b26 := F26.binds (ps := ["house", "state"]) n2%
 have F27 := fMk (st := s_tied) l27 c27 kp27
 have b27 := F27.binds (ps := ["house", "one", "other"]) n3%
 have F28 := fMk (st := s_check_jug') l28 c28 kp28
 have b28 := F28.binds (ps := ["jug"]) n1%
 have F29 := fMk (st := s_check_house_has') l29 c29 kp29
 have b29 := F29.binds (ps := ["house", "jug"]) n2%
 have F30 := fMk (st := s_check_amount) l30 c30 kp30
 have b30 := F30.binds (ps := ["many"]) n1%
 have F31 := fMk (st := s_jugs_in) l31 c31 kp31
 have b31 := F31.binds (ps := ["jugs"]) n1%
 have F32 := fMk (st := s_amounts_in) l32 c32 kp32
 have b32 := F32.binds (ps := ["state"]) n1%
 have F33 := fMk (st := s_check_state_of) l33 c33 kp33
 have b33 := F33.binds (ps := ["house", "state"]) n2%
 have F34 := fMk (st := s_Holds_init) l34 c34 kp34
 have b34 := F34.binds (ps := ["self", "jug", "many"]) n3%
 have F35 := fMk (st := s_Some_init) l35 c35 kp35
 have b35 := F35.binds (ps := ["self", "many"]) n2%
 have F36 := fMk (st := s_Sum_init) l36 c36 kp36
 have b36 := F36.binds (ps := ["self", "jugs", "many"]) n3%
 have F37 := fMk (st := s_Whole_init) l37 c37 kp37
 have b37 := F37.binds (ps := ["self", "state"]) n2%
 have F38 := fMk (st := s_Holds_met_by) l38 c38 kp38
 have b38 := F38.binds (ps := ["self", "house", "held"]) n3%
 have F39 := fMk (st := s_Some_met_by) l39 c39 kp39
 have b39 := F39.binds (ps := ["self", "house", "held"]) n3%
 have F40 := fMk (st := s_Sum_met_by) l40 c40 kp40
 have b40 := F40.binds (ps := ["self", "house", "held"]) n3%
 have F41 := fMk (st := s_Whole_met_by) l41 c41 kp41
 have b41 := F41.binds (ps := ["self", "house", "held"]) n3%
 have F42 := fMk (st := s_Goal_come) l42 c42 kp42
 have b42 := F42.binds (ps := ["self", "house", "state"]) n3%
 have F43 := fMk (st := s_check_goal) l43 c43 kp43
 have b43 := F43.binds (ps := ["goal"]) n1%
 have F44 := fMk (st := s_nearest) l44 c44 kp44
 have b44 := F44.binds (ps := ["house", "ways", "goal"]) n3%
 have F45 := fMk (st := s_fewest) l45 c45 kp45
 have b45 := F45.binds (ps := ["house", "state", "goal"]) n3%
 have F46 := fMk (st := s_routine_text) l46 c46 kp46
 have b46 := F46.binds (ps := ["moves"]) n1%
 have F47 := fMk (st := s__law_cell_at) l47 c47 kp47
 have b47 := F47.binds (ps := ["_law_script", "_law_k"]) n2%
 have F48 := fMk (st := s__law_kinds) l48 c48 kp48
 have b48 := F48.binds (ps := ["_law_error"]) n1%
 have F49 := fMk (st := s__law_told) l49 c49 kp49
 have b49 := F49.binds (ps := ["_law_ask", "_law_one", "_law_other"]) n3%
 have F50 := fMk (st := s__law_all) l50 c50 kp50
 have b50 := F50.binds (ps := ["_law_ask", "_law_doors", "_law_things", "_law_due"]) fun _ _ _ _ _ _ us hl => by obtain ⟨_, _, _, _, rfl⟩ := len4 hl; rfl
 have F51 := fMk (st := s__law_house) l51 c51 kp51
 have b51 := F51.binds (ps := ["_law_door", "_law_bad"]) n2%
 have F52 := fMk (st := s__law_with_state) l52 c52 kp52
 have b52 := F52.binds (ps := ["_law_door", "_law_bad"]) n2%
 have F53 := fMk (st := s__law_with_move) l53 c53 kp53
 have b53 := F53.binds (ps := ["_law_door", "_law_bad"]) n2%
 have F54 := fMk (st := s__law_unfit) l54 c54 kp54
 have b54 := F54.binds (ps := ["_law_door", "_law_way"]) n2%
 have F55 := fMk (st := s__law_with_goal) l55 c55 kp55
 have b55 := F55.binds (ps := ["_law_door", "_law_bad"]) n2%
 have F56 := fMk (st := s__law_goal_unfit) l56 c56 kp56
 have b56 := F56.binds (ps := ["_law_door", "_law_way"]) n2%
 have F57 := fMk (st := s__law_good) l57 c57 kp57
 have b57 := F57.binds (ps := []) fun _ _ _ _ _ _ us hl => by obtain rfl := List.length_eq_zero_iff.mp hl; rfl
 have F58 := fMk (st := s__law_goals_right) l58 c58 kp58
 have FC58 : FunC K "_law_goals_right" "_law_goals_right" s__law_goals_right _ _ 702 := ⟨⟨_, _, _, _, _, _, _, _, rfl, l58, c58⟩, kp58⟩
 have b58 := F58.binds (ps := ["_law_far", "_law_due"]) n2%
 have F59 := fMk (st := s_law) l59 c59 kp59
 have FC59 : FunC K "law" "law" s_law _ _ 716 := ⟨⟨_, _, _, _, _, _, _, _, rfl, l59, c59⟩, kp59⟩
 have b59 := F59.binds (ps := ["_law_script"]) n1%
 have g := fun {x : Str} {v : Value} (q : W.nsIn K mainGlobals x = some (some v)) => W.mg_of X G q
 have g0 := fun {x : Str} (q : W.nsIn K mainGlobals x = some none) => W.mg_none_of X G q
 have B : Bt mg := ⟨g0 z_isinstance, g0 z_int, g0 z_bool, g0 z_tuple, g0 z_list, g0 z_len, g0 z_zip, g0 z_range, g0 z_min, g0 z_str, ⟨_, g z_MOST_JUGS⟩, ⟨_, g z_MOST_SIZE⟩⟩
 have cl_Pour : Cls K C_Pour := ⟨pg_Pour, hd_Pour, po_Pour, sa_Pour⟩
 have cl_Fill : Cls K C_Fill := ⟨pg_Fill, hd_Fill, po_Fill, sa_Fill⟩
 have cl_Empty : Cls K C_Empty := ⟨pg_Empty, hd_Empty, po_Empty, sa_Empty⟩
 have cl_House : Cls K C_House := ⟨pg_House, hd_House, po_House, sa_House⟩
 have cl_Holds : Cls K C_Holds := ⟨pg_Holds, hd_Holds, po_Holds, sa_Holds⟩
 have cl_Some : Cls K C_Some := ⟨pg_Some, hd_Some, po_Some, sa_Some⟩
 have cl_Sum : Cls K C_Sum := ⟨pg_Sum, hd_Sum, po_Sum, sa_Sum⟩
 have cl_Whole : Cls K C_Whole := ⟨pg_Whole, hd_Whole, po_Whole, sa_Whole⟩
 have cl_Goal : Cls K C_Goal := ⟨pg_Goal, hd_Goal, po_Goal, sa_Goal⟩
 have CHo : CHs K C_House := ⟨cl_House, n_House_jug_sizes, n_House_tap⟩
 let Zz : Cz := ⟨C_Pour, C_Fill, C_Empty⟩
 have M : MvC K mg Zz := ⟨⟨cl_Pour, n_Pour_one, n_Pour_other⟩, ⟨cl_Fill, n_Fill_jug⟩, ⟨cl_Empty, n_Empty_jug⟩, ⟨ha_Pour, hn, htk, hm_Pour⟩, ⟨ha_Fill, hn, htk, hm_Fill⟩, ⟨ha_Empty, hn, htk, hm_Empty⟩, g a_Pour, g a_Fill, g a_Empty, k_Fill_Pour, k_Empty_Pour, k_Empty_Fill⟩
 let Gg : Gz := ⟨C_Holds, C_Some, C_Sum, C_Whole⟩
 have GM : GoC K mg Gg C_Goal := ⟨⟨cl_Holds, n_Holds_jug, n_Holds_many⟩, ⟨cl_Some, n_Some_many⟩, ⟨cl_Sum, n_Sum_jugs, n_Sum_many⟩, ⟨cl_Whole, n_Whole_state⟩, ⟨ha_Holds, hn, htk, hm_Holds⟩, ⟨ha_Some, hn, htk, hm_Some⟩, ⟨ha_Sum, hn, htk, hm_Sum⟩, ⟨ha_Whole, hn, htk, hm_Whole⟩, g a_Goal, g a_Holds, g a_Some, g a_Sum, g a_Whole, k_Holds_Some, k_Holds_Sum, k_Holds_Whole, k_Some_Holds, k_Some_Sum, k_Some_Whole, k_Sum_Holds, k_Sum_Some, k_Sum_Whole, k_Whole_Holds, k_Whole_Some, k_Whole_Sum, k_Holds_Goal, k_Some_Goal, k_Sum_Goal, k_Whole_Goal⟩
 have NM : NoMv K Zz := ⟨nm0, nm1, nm2, nm3, nm4, nm5⟩
 have NG : NoGo K Gg := ⟨ng0, ng1, ng2, ng3, ng4, ng5⟩
 let zz : Ez := ⟨C_BadHouse, C_BadState, C_BadMove, C_BadGoal, C_BadText, C_JugError⟩
 have E : EzC K mg zz := ⟨⟨g a_BadHouse, ex_BadHouse⟩, ⟨g a_BadState, ex_BadState⟩, ⟨g a_BadMove, ex_BadMove⟩, ⟨g a_BadGoal, ex_BadGoal⟩, ⟨g a_JugError, ex_JugError⟩, g a_BadText, g0 z_ValueError, (fun n hn => match n, hn with | 0, _ => ex_BadHouse | 1, _ => ex_BadState | 2, _ => ex_BadMove | 3, _ => ex_BadGoal), (fun n hn => match n, hn with | 0, _ => ⟨ga_BadHouse, gt_BadHouse, gc_BadHouse, mb_BadHouse, mo_BadHouse, is_BadHouse⟩ | 1, _ => ⟨ga_BadState, gt_BadState, gc_BadState, mb_BadState, mo_BadState, is_BadState⟩ | 2, _ => ⟨ga_BadMove, gt_BadMove, gc_BadMove, mb_BadMove, mo_BadMove, is_BadMove⟩ | 3, _ => ⟨ga_BadGoal, gt_BadGoal, gc_BadGoal, mb_BadGoal, mo_BadGoal, is_BadGoal⟩), (fun n hn => match n, hn with | 0, _ => sj_BadHouse | 1, _ => sj_BadState | 2, _ => sj_BadMove | 3, _ => sj_BadGoal), (fun n hn => match n, hn with | 0, _ => kit_self _ | 1, _ => k_BadState_BadHouse | 2, _ => k_BadMove_BadHouse | 3, _ => k_BadGoal_BadHouse), (fun n hn => match n, hn with | 0, _ => k_BadHouse_BadState | 1, _ => kit_self _ | 2, _ => k_BadMove_BadState | 3, _ => k_BadGoal_BadState), (fun n hn => match n, hn with | 0, _ => k_BadHouse_BadMove | 1, _ => k_BadState_BadMove | 2, _ => kit_self _ | 3, _ => k_BadGoal_BadMove), (fun n hn => match n, hn with | 0, _ => k_BadHouse_BadGoal | 1, _ => k_BadState_BadGoal | 2, _ => k_BadMove_BadGoal | 3, _ => kit_self _), (fun n hn => match n, hn with | 0, _ => k_BadHouse_BadText | 1, _ => k_BadState_BadText | 2, _ => k_BadMove_BadText | 3, _ => k_BadGoal_BadText), (fun n hn => match n, hn with | 0, _ => kv_BadHouse | 1, _ => kv_BadState | 2, _ => kv_BadMove | 3, _ => kv_BadGoal)⟩
 refine ⟨W.fnOf "law" "law" (dA s_law) (dB s_law) (dZ s_law) .none kV59 dc59 pm59 an59 (.ref 716) ct59, fun s v => .of_eq rfl, fun base KB _ bm => ?_⟩
 have o0 := ok_is_number (P := l.prog) (w := w) (base := base) F0 B
 have q0 : FnB l.prog w K mg base 1 "is_number" ["value", "least", "most"] _ := ⟨_, _, o0, g a0, kp0, b0⟩
 have oG0 := ok_is_numG (P := l.prog) (w := w) (base := base) F0 B
 have n0 : FnB l.prog w K mg base 1 "is_number" ["value", "least", "most"] _ := ⟨_, _, oG0, g a0, kp0, b0⟩
 have o1 := ok_is_jug F1 B q0
 have q1 : FnB l.prog w K mg base 2 "is_jug" ["value"] _ := ⟨_, _, o1, g a1, kp1, b1⟩
 have oG1 := ok_is_jugG F1 B n0
 have n1 : FnB l.prog w K mg base 2 "is_jug" ["value"] _ := ⟨_, _, oG1, g a1, kp1, b1⟩
 have o2 := ok_sizes (P := l.prog) (w := w) (base := base) F2 B CHo
 have q2 : MeB l.prog w K mg base 1 C_House "sizes" ["self"] _ := ⟨_, _, o2, ⟨a2_House, i2, kp2⟩, b2, cl_House⟩
 have o3 := ok_held_in F3 B q0 q2
 have q3 : FnB l.prog w K mg base 2 "held_in" ["house", "state"] _ := ⟨_, _, o3, g a3, kp3, b3⟩
 have y3 := ok_held_inX F3 B E.xS n0 q2
 have x3 : FnX l.prog w K mg base 2 "held_in" ["house", "state"] _ := ⟨_, _, y3, g a3, kp3, b3⟩
 have o4 := ok_with_amount (P := l.prog) (w := w) (base := base) F4 B
 have q4 : FnB l.prog w K mg base 1 "with_amount" ["held", "jug", "many"] _ := ⟨_, _, o4, g a4, kp4, b4⟩
 have o5 := ok_check_jug F5 q1
 have q5 : FnB l.prog w K mg base 3 "check_jug_moves" ["jug"] _ := ⟨_, _, o5, g a5, kp5, b5⟩
 have y5 := ok_check_jugX F5 E.xM n1
 have x5 : FnX l.prog w K mg base 3 "check_jug_moves" ["jug"] _ := ⟨_, _, y5, g a5, kp5, b5⟩
 have o6 := ok_check_house_has F6 B q2
 have q6 : FnB l.prog w K mg base 2 "check_house_has_moves" ["house", "jug"] _ := ⟨_, _, o6, g a6, kp6, b6⟩
 have y6 := ok_check_house_hasX F6 B E.xM q2
 have x6 : FnX l.prog w K mg base 2 "check_house_has_moves" ["house", "jug"] _ := ⟨_, _, y6, g a6, kp6, b6⟩
 have o7 := ok_check_house_can_tap F7 CHo q6
 have q7 : FnB l.prog w K mg base 3 "check_house_can_tap" ["house", "jug"] _ := ⟨_, _, o7, g a7, kp7, b7⟩
 have y7 := ok_can_tapX F7 CHo E.xM q6 x6
 have x7 : FnX l.prog w K mg base 3 "check_house_can_tap" ["house", "jug"] _ := ⟨_, _, y7, g a7, kp7, b7⟩
 have o8 := ok_Pour_init (Z := Zz) F8 M.po q5
 have q8 : MkB l.prog w K mg base 4 "Pour" C_Pour ["self", "one", "other"] _ := ⟨_, _, o8, g a_Pour, ⟨mk_Pour, a8_Pour, i8, kc_Pour⟩, b8⟩
 have y8 := ok_Pour_initX F8 E.xM q5 x5
 have x8 : MkX l.prog w K mg base 4 "Pour" C_Pour ["self", "one", "other"] _ := ⟨_, _, y8, g a_Pour, ⟨mk_Pour, a8_Pour, i8, kc_Pour⟩, b8⟩
 have o9 := ok_Fill_init (Z := Zz) F9 M.fi q5
 have q9 : MkB l.prog w K mg base 4 "Fill" C_Fill ["self", "jug"] _ := ⟨_, _, o9, g a_Fill, ⟨mk_Fill, a9_Fill, i9, kc_Fill⟩, b9⟩
 have y9 := ok_Fill_initX F9 x5
 have x9 : MkX l.prog w K mg base 4 "Fill" C_Fill ["self", "jug"] _ := ⟨_, _, y9, g a_Fill, ⟨mk_Fill, a9_Fill, i9, kc_Fill⟩, b9⟩
 have o10 := ok_Empty_init (Z := Zz) F10 M.em q5
 have q10 : MkB l.prog w K mg base 4 "Empty" C_Empty ["self", "jug"] _ := ⟨_, _, o10, g a_Empty, ⟨mk_Empty, a10_Empty, i10, kc_Empty⟩, b10⟩
 have y10 := ok_Empty_initX F10 x5
 have x10 : MkX l.prog w K mg base 4 "Empty" C_Empty ["self", "jug"] _ := ⟨_, _, y10, g a_Empty, ⟨mk_Empty, a10_Empty, i10, kc_Empty⟩, b10⟩
 have o11 := (ok_Pour_hb (Z := Zz) F11 B M.po q6 q2 q4).mono (k := 4) (by decide)
 have q11 : MeB l.prog w K mg base 4 C_Pour "held_behind" ["self", "house", "held"] _ := ⟨_, _, o11, ⟨a11_Pour, i11, kp11⟩, b11, cl_Pour⟩
 have y11 := (ok_Pour_hbX (Z := Zz) F11 M.po q6 x6).mono (k := 4) (by decide)
 have x11 : MeX l.prog w K mg base 4 C_Pour "held_behind" ["self", "house", "held"] _ := ⟨_, _, y11, ⟨a11_Pour, i11, kp11⟩, b11, cl_Pour⟩
 have o12 := ok_Fill_hb (Z := Zz) F12 B M.fi q7 q2 q4
 have q12 : MeB l.prog w K mg base 4 C_Fill "held_behind" ["self", "house", "held"] _ := ⟨_, _, o12, ⟨a12_Fill, i12, kp12⟩, b12, cl_Fill⟩
 have y12 := ok_Fill_hbX (Z := Zz) F12 M.fi x7
 have x12 : MeX l.prog w K mg base 4 C_Fill "held_behind" ["self", "house", "held"] _ := ⟨_, _, y12, ⟨a12_Fill, i12, kp12⟩, b12, cl_Fill⟩
 have o13 := ok_Empty_hb (Z := Zz) F13 B M.em q7 q4
 have q13 : MeB l.prog w K mg base 4 C_Empty "held_behind" ["self", "house", "held"] _ := ⟨_, _, o13, ⟨a13_Empty, i13, kp13⟩, b13, cl_Empty⟩
 have y13 := ok_Empty_hbX (Z := Zz) F13 M.em x7
 have x13 : MeX l.prog w K mg base 4 C_Empty "held_behind" ["self", "house", "held"] _ := ⟨_, _, y13, ⟨a13_Empty, i13, kp13⟩, b13, cl_Empty⟩
 have o14 := ok_done (Z := Zz) F14 B q3 q11 q12 q13
 have q14_Pour : MeB l.prog w K mg base 5 C_Pour "done" ["self", "house", "state"] _ := ⟨_, _, o14, ⟨a14_Pour, i14, kp14⟩, b14, cl_Pour⟩
 have q14_Fill : MeB l.prog w K mg base 5 C_Fill "done" ["self", "house", "state"] _ := ⟨_, _, o14, ⟨a14_Fill, i14, kp14⟩, b14, cl_Fill⟩
 have q14_Empty : MeB l.prog w K mg base 5 C_Empty "done" ["self", "house", "state"] _ := ⟨_, _, o14, ⟨a14_Empty, i14, kp14⟩, b14, cl_Empty⟩
 have y14 := ok_doneX (Z := Zz) F14 B q3 x3 x11 x12 x13
 have x14_Pour : MeX l.prog w K mg base 5 C_Pour "done" ["self", "house", "state"] _ := ⟨_, _, y14, ⟨a14_Pour, i14, kp14⟩, b14, cl_Pour⟩
 have x14_Fill : MeX l.prog w K mg base 5 C_Fill "done" ["self", "house", "state"] _ := ⟨_, _, y14, ⟨a14_Fill, i14, kp14⟩, b14, cl_Fill⟩
 have x14_Empty : MeX l.prog w K mg base 5 C_Empty "done" ["self", "house", "state"] _ := ⟨_, _, y14, ⟨a14_Empty, i14, kp14⟩, b14, cl_Empty⟩
 have d14_Pour : MeX l.prog w K mg base 5 C_Pour "done" ["self", "house", "state"] _ := ⟨_, _, (Jug.FnOk.or (FnOk.up o14) y14), ⟨a14_Pour, i14, kp14⟩, b14, cl_Pour⟩
 have d14_Fill : MeX l.prog w K mg base 5 C_Fill "done" ["self", "house", "state"] _ := ⟨_, _, (Jug.FnOk.or (FnOk.up o14) y14), ⟨a14_Fill, i14, kp14⟩, b14, cl_Fill⟩
 have d14_Empty : MeX l.prog w K mg base 5 C_Empty "done" ["self", "house", "state"] _ := ⟨_, _, (Jug.FnOk.or (FnOk.up o14) y14), ⟨a14_Empty, i14, kp14⟩, b14, cl_Empty⟩
 have o15 := ok_moves_in (P := l.prog) (w := w) (base := base) (Z := Zz) F15 B M
 have q15 : FnB l.prog w K mg base 1 "moves_in" ["moves"] _ := ⟨_, _, o15, g a15, kp15, b15⟩
 have y15 := ok_moves_inX (P := l.prog) (w := w) (base := base) (Z := Zz) F15 B M NM E.xM
 have x15 : FnX l.prog w K mg base 1 "moves_in" ["moves"] _ := ⟨_, _, y15, g a15, kp15, b15⟩
 have y16 := ok_done_allX (Z := Zz) F16 B q15 x15 q3 x3 (anyX d14_Pour d14_Fill d14_Empty)
 have x16 : FnX l.prog w K mg base 6 "done_all" ["moves", "house", "state"] _ := ⟨_, _, y16, g a16, kp16, b16⟩
 have o17 := ok_count_states (P := l.prog) (w := w) (mg := mg) (base := base) F17
 have q17 : FnB l.prog w K mg base 1 "count_states" ["sizes"] _ := ⟨_, _, o17, g a17, kp17, b17⟩
 have o18 := ok_sizes_in F18 B ⟨_, g z_MOST_STATES⟩ q0 q17
 have q18 : FnB l.prog w K mg base 2 "sizes_in" ["sizes"] _ := ⟨_, _, o18, g a18, kp18, b18⟩
 have y18 := ok_sizes_inX F18 B ⟨_, g z_MOST_STATES⟩ E.xB n0 q17
 have x18 : FnX l.prog w K mg base 2 "sizes_in" ["sizes"] _ := ⟨_, _, y18, g a18, kp18, b18⟩
 have o19 := ok_House_init F19 B CHo q18
 have q19 : MkB l.prog w K mg base 3 "House" C_House ["self", "sizes", "tap"] _ := ⟨_, _, o19, g a_House, ⟨mk_House, a19_House, i19, kc_House⟩, b19⟩
 have y19 := ok_House_initX F19 B CHo E.xB q18 x18
 have x19 : MkX l.prog w K mg base 3 "House" C_House ["self", "sizes", "tap"] _ := ⟨_, _, y19, g a_House, ⟨mk_House, a19_House, i19, kc_House⟩, b19⟩
 have o20 := ok_pours_among (Z := Zz) F20 B q8
 have q20 : FnB l.prog w K mg base 6 "pours_among" ["many"] _ := ⟨_, _, o20, g a20, kp20, b20⟩
 have o21 := ok_with_one_more (P := l.prog) (w := w) (base := base) F21 B
 have q21 : FnB l.prog w K mg base 1 "with_one_more" ["states", "size"] _ := ⟨_, _, o21, g a21, kp21, b21⟩
 have o22 := ok_states F22 CHo q21
 have q22 : MeB l.prog w K mg base 2 C_House "states" ["self"] _ := ⟨_, _, o22, ⟨a22_House, i22, kp22⟩, b22, cl_House⟩
 have o23 := ok_moves (Z := Zz) F23 B CHo q20 q9 q10
 have q23 : MeB l.prog w K mg base 7 C_House "moves" ["self"] _ := ⟨_, _, o23, ⟨a23_House, i23, kp23⟩, b23, cl_House⟩
 have o24 := ok_ways (Z := Zz) F24 B q3 q23 (anyC q14_Pour q14_Fill q14_Empty)
 have q24 : FnB l.prog w K mg base 8 "ways_from" ["house", "state"] _ := ⟨_, _, o24, g a24, kp24, b24⟩
 have y24 := ok_waysX F24 B x3
 have x24 : FnX l.prog w K mg base 8 "ways_from" ["house", "state"] _ := ⟨_, _, y24, g a24, kp24, b24⟩
 have o25 := ok_reached (Z := Zz) F25 (g0 z_sorted) q24
 have q25 : FnB l.prog w K mg base 9 "reached" ["house", "state"] _ := ⟨_, _, o25, g a25, kp25, b25⟩
 have y25 := ok_reachedX F25 (g0 z_sorted) x24
 have x25 : FnX l.prog w K mg base 9 "reached" ["house", "state"] _ := ⟨_, _, y25, g a25, kp25, b25⟩
 have y26 := ok_measuredX F26 x24
 have x26 : FnX l.prog w K mg base 9 "measured" ["house", "state"] _ := ⟨_, _, y26, g a26, kp26, b26⟩
 have y27 := ok_tiedX F27 B q3 x3
 have x27 : FnX l.prog w K mg base 9 "tied" ["house", "one", "other"] _ := ⟨_, _, y27, g a27, kp27, b27⟩
 have o28 := ok_check_jug_g F28 q1
 have q28 : FnB l.prog w K mg base 3 "check_jug_goals" ["jug"] _ := ⟨_, _, o28, g a28, kp28, b28⟩
 have y28 := ok_check_jug_gX F28 E.xG n1
 have x28 : FnX l.prog w K mg base 3 "check_jug_goals" ["jug"] _ := ⟨_, _, y28, g a28, kp28, b28⟩
 have d28 : FnX l.prog w K mg base 3 "check_jug_goals" ["jug"] _ := ⟨_, _, (Jug.FnOk.or (FnOk.up o28) y28), g a28, kp28, b28⟩
 have o29 := ok_check_house_has_g F29 B q2
 have q29 : FnB l.prog w K mg base 2 "check_house_has_goals" ["house", "jug"] _ := ⟨_, _, o29, g a29, kp29, b29⟩
 have y29 := ok_check_house_has_gX F29 B E.xG q2
 have x29 : FnX l.prog w K mg base 2 "check_house_has_goals" ["house", "jug"] _ := ⟨_, _, y29, g a29, kp29, b29⟩
 have d29 : FnX l.prog w K mg base 2 "check_house_has_goals" ["house", "jug"] _ := ⟨_, _, (Jug.FnOk.or (FnOk.up o29) y29), g a29, kp29, b29⟩
 have o30 := ok_check_amount F30 ⟨_, g z_MOST_AMOUNT⟩ q0
 have q30 : FnB l.prog w K mg base 2 "check_amount" ["many"] _ := ⟨_, _, o30, g a30, kp30, b30⟩
 have y30 := ok_check_amountX F30 ⟨_, g z_MOST_AMOUNT⟩ E.xG n0
 have x30 : FnX l.prog w K mg base 2 "check_amount" ["many"] _ := ⟨_, _, y30, g a30, kp30, b30⟩
 have o31 := ok_jugs_in F31 B (g0 z_set) q28
 have q31 : FnB l.prog w K mg base 4 "jugs_in" ["jugs"] _ := ⟨_, _, o31, g a31, kp31, b31⟩
 have y31 := ok_jugs_inX F31 B (g0 z_set) E.xG d28
 have x31 : FnX l.prog w K mg base 4 "jugs_in" ["jugs"] _ := ⟨_, _, y31, g a31, kp31, b31⟩
 have o32 := ok_amounts_in F32 B q0
 have q32 : FnB l.prog w K mg base 2 "amounts_in" ["state"] _ := ⟨_, _, o32, g a32, kp32, b32⟩
 have y32 := ok_amounts_inX F32 B E.xG n0
 have x32 : FnX l.prog w K mg base 2 "amounts_in" ["state"] _ := ⟨_, _, y32, g a32, kp32, b32⟩
 have o33 := ok_check_state_of F33 q3
 have q33 : FnB l.prog w K mg base 3 "check_state_of" ["house", "state"] _ := ⟨_, _, o33, g a33, kp33, b33⟩
 have y33 := ok_check_state_ofX F33 E.xS E.xG ss x3
 have x33 : FnX l.prog w K mg base 3 "check_state_of" ["house", "state"] _ := ⟨_, _, y33, g a33, kp33, b33⟩
 have o34 := ok_Holds_init (Z := Gg) F34 GM.ho q28 q30
 have q34 : MkB l.prog w K mg base 4 "Holds" C_Holds ["self", "jug", "many"] _ := ⟨_, _, o34, g a_Holds, ⟨mk_Holds, a34_Holds, i34, kc_Holds⟩, b34⟩
 have y34 := ok_Holds_initX F34 q28 x28 x30
 have x34 : MkX l.prog w K mg base 4 "Holds" C_Holds ["self", "jug", "many"] _ := ⟨_, _, y34, g a_Holds, ⟨mk_Holds, a34_Holds, i34, kc_Holds⟩, b34⟩
 have o35 := ok_Some_init (Z := Gg) F35 GM.so q30
 have q35 : MkB l.prog w K mg base 3 "Some" C_Some ["self", "many"] _ := ⟨_, _, o35, g a_Some, ⟨mk_Some, a35_Some, i35, kc_Some⟩, b35⟩
 have y35 := ok_Some_initX F35 x30
 have x35 : MkX l.prog w K mg base 3 "Some" C_Some ["self", "many"] _ := ⟨_, _, y35, g a_Some, ⟨mk_Some, a35_Some, i35, kc_Some⟩, b35⟩
 have o36 := ok_Sum_init (Z := Gg) F36 B GM.su q31 q30
 have q36 : MkB l.prog w K mg base 5 "Sum" C_Sum ["self", "jugs", "many"] _ := ⟨_, _, o36, g a_Sum, ⟨mk_Sum, a36_Sum, i36, kc_Sum⟩, b36⟩
 have y36 := ok_Sum_initX (G := Gg) F36 B GM.su q31 x31 x30
 have x36 : MkX l.prog w K mg base 5 "Sum" C_Sum ["self", "jugs", "many"] _ := ⟨_, _, y36, g a_Sum, ⟨mk_Sum, a36_Sum, i36, kc_Sum⟩, b36⟩
 have o37 := ok_Whole_init (Z := Gg) F37 B GM.wh q32
 have q37 : MkB l.prog w K mg base 3 "Whole" C_Whole ["self", "state"] _ := ⟨_, _, o37, g a_Whole, ⟨mk_Whole, a37_Whole, i37, kc_Whole⟩, b37⟩
 have y37 := ok_Whole_initX F37 B x32
 have x37 : MkX l.prog w K mg base 3 "Whole" C_Whole ["self", "state"] _ := ⟨_, _, y37, g a_Whole, ⟨mk_Whole, a37_Whole, i37, kc_Whole⟩, b37⟩
 have o38 := (ok_Holds_met (Z := Gg) F38 GM.ho q29).mono (k := 4) (by decide)
 have q38 : MeB l.prog w K mg base 4 C_Holds "met_by" ["self", "house", "held"] _ := ⟨_, _, o38, ⟨a38_Holds, i38, kp38⟩, b38, cl_Holds⟩
 have y38 := (ok_Holds_metX (G := Gg) F38 GM.ho x29).mono (k := 4) (by decide)
 have x38 : MeX l.prog w K mg base 4 C_Holds "met_by" ["self", "house", "held"] _ := ⟨_, _, y38, ⟨a38_Holds, i38, kp38⟩, b38, cl_Holds⟩
 have o39 := (ok_Some_met (P := l.prog) (w := w) (mg := mg) (base := base) (CH := C_House) (Z := Gg) F39 GM.so).mono (k := 4) (by decide)
 have q39 : MeB l.prog w K mg base 4 C_Some "met_by" ["self", "house", "held"] _ := ⟨_, _, o39, ⟨a39_Some, i39, kp39⟩, b39, cl_Some⟩
 have o40 := (ok_Sum_met (Z := Gg) F40 GM.su (g0 z_sum) q29).mono (k := 4) (by decide)
 have q40 : MeB l.prog w K mg base 4 C_Sum "met_by" ["self", "house", "held"] _ := ⟨_, _, o40, ⟨a40_Sum, i40, kp40⟩, b40, cl_Sum⟩
 have y40 := (ok_Sum_metX (G := Gg) F40 GM.su d29).mono (k := 4) (by decide)
 have x40 : MeX l.prog w K mg base 4 C_Sum "met_by" ["self", "house", "held"] _ := ⟨_, _, y40, ⟨a40_Sum, i40, kp40⟩, b40, cl_Sum⟩
 have o41 := ok_Whole_met (Z := Gg) F41 B GM.wh q33
 have q41 : MeB l.prog w K mg base 4 C_Whole "met_by" ["self", "house", "held"] _ := ⟨_, _, o41, ⟨a41_Whole, i41, kp41⟩, b41, cl_Whole⟩
 have y41 := ok_Whole_metX (G := Gg) F41 GM.wh x33
 have x41 : MeX l.prog w K mg base 4 C_Whole "met_by" ["self", "house", "held"] _ := ⟨_, _, y41, ⟨a41_Whole, i41, kp41⟩, b41, cl_Whole⟩
 have o42 := ok_come (Z := Gg) F42 q3 q38 q39 q40 q41
 have q42_Holds : MeB l.prog w K mg base 5 C_Holds "come" ["self", "house", "state"] _ := ⟨_, _, o42, ⟨a42_Holds, i42, kp42⟩, b42, cl_Holds⟩
 have q42_Some : MeB l.prog w K mg base 5 C_Some "come" ["self", "house", "state"] _ := ⟨_, _, o42, ⟨a42_Some, i42, kp42⟩, b42, cl_Some⟩
 have q42_Sum : MeB l.prog w K mg base 5 C_Sum "come" ["self", "house", "state"] _ := ⟨_, _, o42, ⟨a42_Sum, i42, kp42⟩, b42, cl_Sum⟩
 have q42_Whole : MeB l.prog w K mg base 5 C_Whole "come" ["self", "house", "state"] _ := ⟨_, _, o42, ⟨a42_Whole, i42, kp42⟩, b42, cl_Whole⟩
 have y42 := ok_comeX (G := Gg) F42 q3 x3 x38 x40 x41
 have x42_Holds : MeX l.prog w K mg base 5 C_Holds "come" ["self", "house", "state"] _ := ⟨_, _, y42, ⟨a42_Holds, i42, kp42⟩, b42, cl_Holds⟩
 have x42_Some : MeX l.prog w K mg base 5 C_Some "come" ["self", "house", "state"] _ := ⟨_, _, y42, ⟨a42_Some, i42, kp42⟩, b42, cl_Some⟩
 have x42_Sum : MeX l.prog w K mg base 5 C_Sum "come" ["self", "house", "state"] _ := ⟨_, _, y42, ⟨a42_Sum, i42, kp42⟩, b42, cl_Sum⟩
 have x42_Whole : MeX l.prog w K mg base 5 C_Whole "come" ["self", "house", "state"] _ := ⟨_, _, y42, ⟨a42_Whole, i42, kp42⟩, b42, cl_Whole⟩
 have o43 := ok_check_goal (P := l.prog) (w := w) (base := base) (G := Gg) F43 B GM
 have q43 : FnB l.prog w K mg base 1 "check_goal" ["goal"] _ := ⟨_, _, o43, g a43, kp43, b43⟩
 have y43 := ok_check_goalX (P := l.prog) (w := w) (base := base) (G := Gg) F43 B GM NG E.xG
 have x43 : FnX l.prog w K mg base 1 "check_goal" ["goal"] _ := ⟨_, _, y43, g a43, kp43, b43⟩
 have y44 := ok_nearestX (Z := Zz) (G := Gg) F44 (anyY x42_Holds x42_Some x42_Sum x42_Whole)
 have x44 : FnX l.prog w K mg base 6 "nearest" ["house", "ways", "goal"] _ := ⟨_, _, y44, g a44, kp44, b44⟩
 have y45 := ok_fewestX (Z := Zz) (G := Gg) F45 q3 x3 q43 x43 q24 x44
 have x45 : FnX l.prog w K mg base 9 "fewest" ["house", "state", "goal"] _ := ⟨_, _, y45, g a45, kp45, b45⟩
 have y46 := ok_routine_textX (Z := Zz) F46 x15
 have x46 : FnX l.prog w K mg base 2 "routine_text" ["moves"] _ := ⟨_, _, y46, g a46, kp46, b46⟩
 have o47 := ok_cell_at (P := l.prog) (w := w) (base := base) F47 B
 have q47 : FnB l.prog w K mg base 1 "_law_cell_at" ["_law_script", "_law_k"] _ := ⟨_, _, o47, g a47, kp47, b47⟩
 have o48 := ok_kinds (P := l.prog) (w := w) (base := base) F48 B E
 have h48 : FnH l.prog w K mg base 1 "_law_kinds" ["_law_error"] _ := ⟨_, _, o48, g a48, kp48, b48⟩
 have o49 := ok_told (k := 9) F49 E h48
 have q49 : FnB l.prog w K mg base 11 "_law_told" ["_law_ask", "_law_one", "_law_other"] _ := ⟨_, _, o49, g a49, kp49, b49⟩
 have o50 := ok_all (k := 9) F50 q49
 have q50 : FnB l.prog w K mg base 12 "_law_all" ["_law_ask", "_law_doors", "_law_things", "_law_due"] _ := ⟨_, _, o50, g a50, kp50, b50⟩
 have y51 := ok_lhouse F51 x19
 have x51 : FnX l.prog w K mg base 10 "_law_house" ["_law_door", "_law_bad"] _ := ⟨_, _, y51, g a51, kp51, b51⟩
 have y52 := ok_lstate (Z := Zz) (G := Gg) F52 q19 q8 q9 q34 (anyX x14_Pour x14_Fill x14_Empty) x16 (anyY x42_Holds x42_Some x42_Sum x42_Whole) x45 x25 x26 x27
 have x52 : FnX l.prog w K mg base 10 "_law_with_state" ["_law_door", "_law_bad"] _ := ⟨_, _, y52, g a52, kp52, b52⟩
 have y53 := ok_lmove (Z := Zz) F53 q19 q8 x8 x9 x10 x16 x46
 have x53 : FnX l.prog w K mg base 10 "_law_with_move" ["_law_door", "_law_bad"] _ := ⟨_, _, y53, g a53, kp53, b53⟩
 have y54 := ok_lunfit (Z := Zz) F54 q19 q8 q9 q10 (anyX x14_Pour x14_Fill x14_Empty) x16
 have x54 : FnX l.prog w K mg base 10 "_law_unfit" ["_law_door", "_law_way"] _ := ⟨_, _, y54, g a54, kp54, b54⟩
 have y55 := ok_lgoal (G := Gg) F55 q19 x34 x35 x36 x37 x45
 have x55 : FnX l.prog w K mg base 10 "_law_with_goal" ["_law_door", "_law_bad"] _ := ⟨_, _, y55, g a55, kp55, b55⟩
 have y56 := ok_lgunfit (G := Gg) F56 q19 q34 q36 q37 (anyY x42_Holds x42_Some x42_Sum x42_Whole) x45
 have x56 : FnX l.prog w K mg base 10 "_law_goal_unfit" ["_law_door", "_law_way"] _ := ⟨_, _, y56, g a56, kp56, b56⟩
 have o57 := ok_lgood (Z := Zz) (G := Gg) F57 B q19 q23 q22 q35 q34 q37 (anyD q42_Holds q42_Some q42_Sum q42_Whole) q25
 have q57 : FnB l.prog w K mg base 10 "_law_good" [] _ := ⟨_, _, o57, g a57, kp57, b57⟩
 have o58 := ok_gright (G := Gg) FC58 B (W.codeHd_of_K KB ch58) bm q50 q49 x55 x56 x36 x37
 have q58 : FnB l.prog w K mg base 13 "_law_goals_right" ["_law_far", "_law_due"] _ := ⟨_, _, o58, g a58, kp58, b58⟩
 exact ok_law8 (Z := Zz) (z := zz) FC59 B (by decide) (W.codeHd_of_K KB ch59) bm q47 q50 q49 x51 x52 x53 x54 x46 q9 q58 q57
theorem walk {l : W.OpenLaw} {q : Program} {loose : List Str} {XP : (Str → Option Value) → Heap → Prop} {YP : World → Heap → Prop} {d : DefRec} {K : Params → W.Frag} (hn : l.most = some 63) (hdf : d.params.defaults = [])
   (hY : ∀ (w : World) (h : Heap), YP w h → (K w.params).In h ∧ h.get? 712 = some (W.tabObj #[]) ∧ h.get? 698 = some (W.tabObj #[]) ∧ W.CodeHd h 716 712 ∧ W.CodeHd h 702 698 ∧ (K w.params).lookup 712 = none ∧ (K w.params).lookup 698 = none)
   (F : ∀ (w : World) (mg : Str → Option Value) (fa : Addr) (h : Heap), (K w.params).In h → h.Ns mainGlobals mg → mg d.name = some (.ref fa) →
     ∃ fd : FuncData, (∀ (s : Shared) (u : Value), BindsTo s fd ⟨[u], []⟩ [("_law_script", u)]) ∧ ∀ base : Heap, (K w.params).In base → base.Ns mainGlobals mg → BMain mg base → FnOk l.prog w (K w.params) mg base CX0 14 fa fd ["_law_script"] (spLaw (K w.params))) :
   W.WalkO q loose XP YP l.row.toRowW d [] (fun f vs => PySem.call f vs) :=
 L2.walk_ofT (n := 63) (k := 14) (x := "_law_script") (CX := fun _ => CX0) (sp := fun w => spLaw (K w.params)) (P1 := 712) (P2 := 698) hn (by decide) hdf ⟨rfl, by decide, by decide⟩ (by decide) hY F (fun _ _ a ns hl h1 h2 hS => ⟨a, ns, rfl, hS, h1, h2, fun _ => rfl⟩) fun _ _ _ _ _ z => z
end Jug
noncomputable section
namespace Hd
open PySem PySem.W PySem.Calls PyProof.Rows
set_option maxHeartbeats 0
abbrev pg : Program := PySem.Challenge.pw_jughouse_k08_refused
def st (i : Nat) : Stmt := pg.main.body.getD i (.Pass ⟨0, 0, 0, 0⟩)
def me (i j : Nat) : Stmt := L2.inClass (st i) j
def de (P : Params) (k : Str) (t : Nat) (v : Value) : DictEntry := ⟨PyData.keyHash P k, .str k t, v⟩
def fu (s : Stmt) (n q : Str) (g : Addr) (cl : List (Str × Addr)) (a b c d : Value) (an : Option Addr) (e f : Value) (bu : Addr) : FuncData := ⟨n, q, L2.dA s, .stmts (L2.dB s), L2.dZ s, g, cl, a, b, c, d, an, e, f, bu⟩
def cO (n : Str) (a : Nat) (m : Str) (b c : Nat) (L x y z u : Int) (v1 v2 v3 v4 v5 v6 v7 v8 : Value) (p l : Int) (q : Nat) : Obj := (.mk (.type "code") none (.fields #[(.str n a), (.str m b), (.str "/claim/cut.py" c), (.int L 0), (.int x 0), (.int y 0), (.int z 0), (.int u 0), v1, v2, v3, v4, v5, v6, v7, v8, (.int p 0), (.int l 0), (.str "/claim/cut.py" q)]) #[])
def fo (s : Stmt) (n q m : Str) (t k : Nat) : Obj := .mk (.type "function") none (.func (fu s n q 3 [] .none .none .none (.str m t) none (.ref k) .none 0)) #[]
def fp (s : Stmt) (n q : Str) : Obj := .mk .none none (.func (fu s n q 0 [] .none .none .none .none none .none .none 0)) #[]
def tu (a : Array Value) : Obj := .mk (.type "tuple") none (.seq a 0) #[]
def di (a : Array DictEntry) (n : Nat) : Obj := .mk (.type "dict") none (.dict a n) #[]
def fr (a b c : Value) : Obj := .mk (.type "frame") none .plain #[some a, some (.ref 3), some b, none, some c, none, some (.ref 0)]
def ft (s : String) (a : Array Value) : Obj := .mk (.type s) none (.fields a) #[]
def fl (a : Array Value) : Obj := .mk .none none (.fields a) #[]
def ty (n : Str) (b m : List Value) (d : Nat) (q : Str) (k : List Value) (v x y z : Value) : Obj := .mk (.type "type") none (.cls (.mk n b m d q true [] k false none false)) #[some v, none, some x, some y, some z, some (.bool true)]
local notation:max "~" n:max => Value.ref n
local notation:max "~~" n:max => Value.int n 0
open Lean in
def oN (n : Nat) : TSyntax `term := let p := mkIdent `P; ⟨Syntax.mkApp (mkIdent (.mkSimple (if n < 11 then s!"boot_o_{n}" else s!"o{n}"))) #[p]⟩
open Lean in
local macro "co" n:str m:str a:num L:num x:num u:num v:term:max v':term:max v1:term:max v2:term:max v3:term:max v4:term:max p:num : term =>
 let k (i : Nat) := Syntax.mkNumLit (toString i)
 `(cO $n $a $m $(k (a.getNat + 1)) $(k (a.getNat + 2)) $L $x 0 0 $u $v $v' (.int 181 0) $v1 .none $v2 $v3 $v4 $p $L $(k (p.getNat + 1)))
open Lean in
local macro "@@" n:num t:term : command => `(def $(mkIdent (.mkSimple s!"o{n.getNat}")) ($(mkIdent `P) : Params) : Obj := $t)
open Lean in
local macro "d%" s:str n:num v:term:max : term => `(de $(mkIdent `P) $s $n $v)
open Lean in
local macro "oo%" xs:num* : term => do xs.foldrM (fun x r => `($(oN x.getNat) :: $r)) (← `([]))
open Lean in
local macro "ss%" xs:str* : term => do xs.foldrM (fun x r => `(Str.ofString $x :: $r)) (← `([]))
open Lean in
local macro "nn%" xs:num* : term => do xs.foldrM (fun x r => `($x :: $r)) (← `([]))
open Lean in
local macro "kk%" xs:num* : term => do
 let mut r ← `([])
 for j in [0:xs.size / 2] do
   let i := xs.size - 2 - 2 * j
   r ← `((nat_lit $(xs[i]!), $(oN xs[i+1]!.getNat)) :: $r)
 return r
open Lean in
partial def bN (xs : Array Nat) : MacroM (TSyntax `term) := do
 if xs.size = 0 then `(BT.nil) else
 let a := (Array.range (xs.size / 2)).map fun i => xs[2 * i + 1]!
 let b := (Array.range ((xs.size - 1) / 2)).map fun i => xs[2 * i + 2]!
 `(BT.node $(oN xs[0]!) $(← bN a) $(← bN b))
open Lean in
local macro "bt%" xs:num* : term => bN (xs.map (·.getNat))
@@11 co "<module>" "<module>" 182 1 0 0 ~11 (.bool false) ~12 .none .none .none 185
@@12 fr ~13 ~3 (.str "__main__" 164)
@@13 di #[(d% "__name__" 165 (.str "law_jughouse_k08_refused" 1039)), (d% "__doc__" 166 .none), (d% "__package__" 167 .none), (d% "__loader__" 168 (.builtin "__main__.__loader__#opaque")), (d% "__spec__" 169 .none), (d% "__annotations__" 170 ~6), (d% "__builtins__" 171 ~4), (d% "__file__" 173 (.str "/claim/cut.py" 172)), (d% "__cached__" 174 .none), (d% "JugError" 206 ~24), (d% "BadHouse" 222 ~37), (d% "BadState" 238 ~49), (d% "BadMove" 254 ~61), (d% "BadGoal" 270 ~73), (d% "BadText" 286 ~85), (d% "MOST_JUGS" 290 (.int 4 289)), (d% "MOST_SIZE" 292 (.int 60 291)), (d% "is_number" 301 ~94), (d% "is_jug" 308 ~101), (d% "held_in" 320 ~108), (d% "check_jug" 329 ~263), (d% "check_jug_moves" 330 ~115), (d% "check_house_has" 338 ~291), (d% "check_house_has_moves" 339 ~122), (d% "check_house_can_tap" 347 ~129), (d% "with_amount" 357 ~136), (d% "Move" 396 ~160), (d% "Pour" 435 ~188), (d% "Fill" 469 ~214), (d% "Empty" 503 ~240), (d% "moves_in" 512 ~249), (d% "done_all" 524 ~256), (d% "MOST_AMOUNT" 528 (.int 240 527)), (d% "check_jug_goals" 536 ~263), (d% "check_amount" 543 ~270), (d% "jugs_in" 552 ~277), (d% "amounts_in" 561 ~284), (d% "check_house_has_goals" 570 ~291), (d% "check_state_of" 578 ~298), (d% "Goal" 617 ~322), (d% "Holds" 653 ~350), (d% "Some" 687 ~376), (d% "Sum" 720 ~400), (d% "Whole" 754 ~426), (d% "check_goal" 761 ~435), (d% "ways_from" 779 ~442), (d% "reached" 787 ~449), (d% "measured" 798 ~456), (d% "tied" 809 ~463), (d% "Answer" 831 ~473), (d% "Poured" 855 ~492), (d% "Barred" 880 ~511), (d% "nearest" 890 ~520), (d% "moves_to" 900 ~527), (d% "heights_in" 910 ~534), (d% "fewest" 921 ~541), (d% "MOST_STATES" 925 (.int 2000 924)), (d% "sizes_in" 934 ~548), (d% "count_states" 943 ~555), (d% "pours_among" 953 ~562), (d% "with_one_more" 964 ~569), (d% "House" 1023 ~610), (d% "move_text" 1032 ~621), (d% "routine_text" 1038 ~626), (d% "_law_cell_at" 1048 ~633), (d% "_law_kinds" 1056 ~640), (d% "_law_told" 1066 ~647), (d% "_law_house" 1074 ~654), (d% "_law_with_state" 1083 ~661), (d% "_law_with_move" 1092 ~668), (d% "_law_unfit" 1102 ~675), (d% "_law_with_goal" 1110 ~682), (d% "_law_goal_unfit" 1119 ~689), (d% "_law_all" 1131 ~696), (d% "_law_goals_right" 1141 ~703), (d% "_law_good" 1147 ~710), (d% "law" 1161 ~717)] 77
@@14 fl #[~~2, ~~0, ~20, ~~4, ~~0, ~33, ~~6, ~~0, ~45, ~~8, ~~0, ~57, ~~10, ~~0, ~69, ~~12, ~~0, ~81, ~~17, ~~0, ~93, ~~19, ~~0, ~100, ~~21, ~~0, ~107, ~~33, ~~0, ~114, ~~37, ~~0, ~121, ~~41, ~~0, ~128, ~~45, ~~0, ~135, ~~49, ~~0, ~142, ~~57, ~~0, ~170, ~~74, ~~0, ~196, ~~83, ~~0, ~222, ~~92, ~~0, ~248, ~~100, ~~0, ~255, ~~108, ~~0, ~262, ~~112, ~~0, ~269, ~~115, ~~0, ~276, ~~126, ~~0, ~283, ~~136, ~~0, ~290, ~~140, ~~0, ~297, ~~145, ~~0, ~304, ~~153, ~~0, ~332, ~~164, ~~0, ~358, ~~172, ~~0, ~384, ~~183, ~~0, ~408, ~~191, ~~0, ~434, ~~195, ~~0, ~441, ~~210, ~~0, ~448, ~~212, ~~0, ~455, ~~218, ~~0, ~462, ~~223, ~~0, ~469, ~~225, ~~0, ~483, ~~230, ~~0, ~500, ~~234, ~~0, ~519, ~~239, ~~0, ~526, ~~246, ~~0, ~533, ~~252, ~~0, ~540, ~~262, ~~0, ~547, ~~274, ~~0, ~554, ~~279, ~~0, ~561, ~~286, ~~0, ~568, ~~292, ~~0, ~575, ~~320, ~~0, ~620, ~~326, ~~0, ~625, ~~329, ~~0, ~632, ~~333, ~~0, ~639, ~~336, ~~0, ~646, ~~342, ~~0, ~653, ~~344, ~~0, ~660, ~~363, ~~0, ~667, ~~378, ~~0, ~674, ~~384, ~~0, ~681, ~~398, ~~0, ~688, ~~403, ~~0, ~695, ~~409, ~~0, ~702, ~~425, ~~0, ~709, ~~431, ~~0, ~716]
@@15 tu #[(.type "ValueError")]
@@16 ft "builtin_function_or_method" #[(.builtin "type.__prepare__"), (.type "type")]
@@17 di #[(d% "__module__" 196 (.str "jughouse.errors" 187)), (d% "__qualname__" 198 (.str "JugError" 197)), (d% "__firstlineno__" 200 (.int 2 199)), (d% "__static_attributes__" 201 ~22)] 4
@@18 co "JugError" "JugError" 191 2 0 0 ~18 (.bool false) ~19 .none .none .none 194
@@19 fr ~20 ~17 (.str "jughouse.errors" 187)
@@20 di #[(d% "__module__" 196 (.str "jughouse.errors" 187)), (d% "__firstlineno__" 200 (.int 2 199)), (d% "__static_attributes__" 201 ~22), (d% "__weakref__" 203 ~25), (d% "__doc__" 204 .none)] 3
@@21 ty "JugError" [(.type "ValueError")] [~24, (.type "ValueError"), (.type "Exception"), (.type "BaseException"), (.type "object")] 23 "JugError" [~37, ~49, ~61, ~73, ~85] ~15 (.str "JugError" 189) (.str "JugError" 197) (.builtin "ValueError.__new__")
@@22 ft "getset_descriptor" #[(.str "__weakref__" 202), ~24, (.builtin "ExceptionGroup.__weakref__"), .none]
@@23 ft "super" #[~24, ~24, ~24]
@@24 ft "builtin_function_or_method" #[(.builtin "object.__init_subclass__"), ~24]
@@25 tu #[~24]
@@26 di #[(d% "__module__" 214 (.str "jughouse.errors" 187)), (d% "__qualname__" 216 (.str "BadHouse" 215)), (d% "__firstlineno__" 218 (.int 4 217)), (d% "__static_attributes__" 219 ~35)] 4
@@27 co "BadHouse" "BadHouse" 209 4 0 0 ~31 (.bool false) ~32 .none .none .none 212
@@28 fr ~33 ~30 (.str "jughouse.errors" 187)
@@29 di #[(d% "__module__" 214 (.str "jughouse.errors" 187)), (d% "__firstlineno__" 218 (.int 4 217)), (d% "__static_attributes__" 219 ~35), (d% "__doc__" 220 .none)] 2
@@30 ty "BadHouse" [~24] [~37, ~24, (.type "ValueError"), (.type "Exception"), (.type "BaseException"), (.type "object")] 36 "BadHouse" [] ~28 (.str "BadHouse" 207) (.str "BadHouse" 215) (.builtin "ValueError.__new__")
@@31 ft "super" #[~37, ~37, ~37]
@@32 ft "builtin_function_or_method" #[(.builtin "object.__init_subclass__"), ~37]
@@33 di #[(d% "__module__" 230 (.str "jughouse.errors" 187)), (d% "__qualname__" 232 (.str "BadState" 231)), (d% "__firstlineno__" 234 (.int 6 233)), (d% "__static_attributes__" 235 ~47)] 4
@@34 co "BadState" "BadState" 225 6 0 0 ~43 (.bool false) ~44 .none .none .none 228
@@35 fr ~45 ~42 (.str "jughouse.errors" 187)
@@36 di #[(d% "__module__" 230 (.str "jughouse.errors" 187)), (d% "__firstlineno__" 234 (.int 6 233)), (d% "__static_attributes__" 235 ~47), (d% "__doc__" 236 .none)] 2
@@37 ty "BadState" [~24] [~49, ~24, (.type "ValueError"), (.type "Exception"), (.type "BaseException"), (.type "object")] 48 "BadState" [] ~40 (.str "BadState" 223) (.str "BadState" 231) (.builtin "ValueError.__new__")
@@38 ft "super" #[~49, ~49, ~49]
@@39 ft "builtin_function_or_method" #[(.builtin "object.__init_subclass__"), ~49]
@@40 di #[(d% "__module__" 246 (.str "jughouse.errors" 187)), (d% "__qualname__" 248 (.str "BadMove" 247)), (d% "__firstlineno__" 250 (.int 8 249)), (d% "__static_attributes__" 251 ~59)] 4
@@41 co "BadMove" "BadMove" 241 8 0 0 ~55 (.bool false) ~56 .none .none .none 244
@@42 fr ~57 ~54 (.str "jughouse.errors" 187)
@@43 di #[(d% "__module__" 246 (.str "jughouse.errors" 187)), (d% "__firstlineno__" 250 (.int 8 249)), (d% "__static_attributes__" 251 ~59), (d% "__doc__" 252 .none)] 2
@@44 ty "BadMove" [~24] [~61, ~24, (.type "ValueError"), (.type "Exception"), (.type "BaseException"), (.type "object")] 60 "BadMove" [] ~52 (.str "BadMove" 239) (.str "BadMove" 247) (.builtin "ValueError.__new__")
@@45 ft "super" #[~61, ~61, ~61]
@@46 ft "builtin_function_or_method" #[(.builtin "object.__init_subclass__"), ~61]
@@47 di #[(d% "__module__" 262 (.str "jughouse.errors" 187)), (d% "__qualname__" 264 (.str "BadGoal" 263)), (d% "__firstlineno__" 266 (.int 10 265)), (d% "__static_attributes__" 267 ~71)] 4
@@48 co "BadGoal" "BadGoal" 257 10 0 0 ~67 (.bool false) ~68 .none .none .none 260
@@49 fr ~69 ~66 (.str "jughouse.errors" 187)
@@50 di #[(d% "__module__" 262 (.str "jughouse.errors" 187)), (d% "__firstlineno__" 266 (.int 10 265)), (d% "__static_attributes__" 267 ~71), (d% "__doc__" 268 .none)] 2
@@51 ty "BadGoal" [~24] [~73, ~24, (.type "ValueError"), (.type "Exception"), (.type "BaseException"), (.type "object")] 72 "BadGoal" [] ~64 (.str "BadGoal" 255) (.str "BadGoal" 263) (.builtin "ValueError.__new__")
@@52 ft "super" #[~73, ~73, ~73]
@@53 ft "builtin_function_or_method" #[(.builtin "object.__init_subclass__"), ~73]
@@54 di #[(d% "__module__" 278 (.str "jughouse.errors" 187)), (d% "__qualname__" 280 (.str "BadText" 279)), (d% "__firstlineno__" 282 (.int 12 281)), (d% "__static_attributes__" 283 ~83)] 4
@@55 co "BadText" "BadText" 273 12 0 0 ~79 (.bool false) ~80 .none .none .none 276
@@56 fr ~81 ~78 (.str "jughouse.errors" 187)
@@57 di #[(d% "__module__" 278 (.str "jughouse.errors" 187)), (d% "__firstlineno__" 282 (.int 12 281)), (d% "__static_attributes__" 283 ~83), (d% "__doc__" 284 .none)] 2
@@58 ty "BadText" [~24] [~85, ~24, (.type "ValueError"), (.type "Exception"), (.type "BaseException"), (.type "object")] 84 "BadText" [] ~76 (.str "BadText" 271) (.str "BadText" 279) (.builtin "ValueError.__new__")
@@59 ft "super" #[~85, ~85, ~85]
@@60 ft "builtin_function_or_method" #[(.builtin "object.__init_subclass__"), ~85]
@@61 tu #[(.str "value" 296), (.str "least" 297), (.str "most" 298)]
@@62 fp (st 10) "is_number" "is_number"
@@63 co "is_number" "is_number" 293 17 3 3 ~88 (.bool true) ~89 ~90 ~91 ~92 299
@@64 fo (st 10) "is_number" "is_number" "jughouse.checks" 287 93
@@65 tu #[(.str "value" 305)]
@@66 fp (st 11) "is_jug" "is_jug"
@@67 co "is_jug" "is_jug" 302 19 1 3 ~95 (.bool true) ~96 ~97 ~98 ~99 306
@@68 fo (st 11) "is_jug" "is_jug" "jughouse.checks" 287 100
@@69 tu #[(.str "house" 312), (.str "state" 313), (.str "held" 314), (.str "sizes" 315), (.str "many" 316), (.str "size" 317)]
@@70 fp (st 12) "held_in" "held_in"
@@71 co "held_in" "held_in" 309 21 2 3 ~102 (.bool true) ~103 ~104 ~105 ~106 318
@@72 fo (st 12) "held_in" "held_in" "jughouse.checks" 287 107
@@73 tu #[(.str "jug" 326)]
@@74 fp (st 14) "check_jug" "check_jug"
@@75 co "check_jug" "check_jug" 323 33 1 3 ~109 (.bool true) ~110 ~111 ~112 ~113 327
@@76 fo (st 14) "check_jug" "check_jug" "jughouse.moves" 321 114
@@77 tu #[(.str "house" 334), (.str "jug" 335)]
@@78 fp (st 16) "check_house_has" "check_house_has"
@@79 co "check_house_has" "check_house_has" 331 37 2 3 ~116 (.bool true) ~117 ~118 ~119 ~120 336
@@80 fo (st 16) "check_house_has" "check_house_has" "jughouse.moves" 321 121
@@81 tu #[(.str "house" 343), (.str "jug" 344)]
@@82 fp (st 18) "check_house_can_tap" "check_house_can_tap"
@@83 co "check_house_can_tap" "check_house_can_tap" 340 41 2 3 ~123 (.bool true) ~124 ~125 ~126 ~127 345
@@84 fo (st 18) "check_house_can_tap" "check_house_can_tap" "jughouse.moves" 321 128
@@85 tu #[(.str "held" 351), (.str "jug" 352), (.str "many" 353), (.str "behind" 354)]
@@86 fp (st 19) "with_amount" "with_amount"
@@87 co "with_amount" "with_amount" 348 45 3 3 ~130 (.bool true) ~131 ~132 ~133 ~134 355
@@88 fo (st 19) "with_amount" "with_amount" "jughouse.moves" 321 135
@@89 di #[(d% "__module__" 365 (.str "jughouse.moves" 321)), (d% "__qualname__" 367 (.str "Move" 366)), (d% "__firstlineno__" 369 (.int 49 368)), (d% "done" 379 ~150), (d% "held_behind" 388 ~157), (d% "__static_attributes__" 389 ~158)] 6
@@90 fl #[~~51, ~~4, ~149, ~~55, ~~4, ~156]
@@91 co "Move" "Move" 360 49 0 0 ~140 (.bool false) ~141 .none .none .none 363
@@92 fr ~142 ~139 (.str "jughouse.moves" 321)
@@93 tu #[(.str "self" 373), (.str "house" 374), (.str "state" 375), (.str "held" 376)]
@@94 fp (me 20 0) "done" "Move.done"
@@95 co "done" "Move.done" 370 51 3 3 ~144 (.bool true) ~145 ~146 ~147 ~148 377
@@96 fo (me 20 0) "done" "Move.done" "jughouse.moves" 321 149
@@97 tu #[(.str "self" 383), (.str "house" 384), (.str "held" 385)]
@@98 fp (me 20 1) "held_behind" "Move.held_behind"
@@99 co "held_behind" "Move.held_behind" 380 55 3 3 ~151 (.bool true) ~152 ~153 ~154 ~155 386
@@100 fo (me 20 1) "held_behind" "Move.held_behind" "jughouse.moves" 321 156
@@101 di #[(d% "__module__" 365 (.str "jughouse.moves" 321)), (d% "__firstlineno__" 369 (.int 49 368)), (d% "done" 379 ~150), (d% "held_behind" 388 ~157), (d% "__static_attributes__" 389 ~158), (d% "__dict__" 391 ~161), (d% "__weakref__" 393 ~162), (d% "__doc__" 394 .none)] 4
@@102 .mk (.type "type") none (.cls (.mk "Move" [(.type "object")] [~160, (.type "object")] 159 "Move" true [] [~188, ~214, ~240] false none false)) #[none, none, (some (.str "Move" 358)), (some (.str "Move" 366)), (some (.builtin "object.__new__")), (some (.bool true))]
@@103 ft "getset_descriptor" #[(.str "__dict__" 390), ~160, (.builtin "function.__dict__"), (.builtin "function.__dict__#set")]
@@104 ft "getset_descriptor" #[(.str "__weakref__" 392), ~160, (.builtin "ExceptionGroup.__weakref__"), .none]
@@105 ft "super" #[~160, ~160, ~160]
@@106 ft "builtin_function_or_method" #[(.builtin "object.__init_subclass__"), ~160]
@@107 tu #[~160]
@@108 di #[(d% "__module__" 404 (.str "jughouse.moves" 321)), (d% "__qualname__" 406 (.str "Pour" 405)), (d% "__firstlineno__" 408 (.int 57 407)), (d% "__init__" 417 ~178), (d% "held_behind" 429 ~185), (d% "__static_attributes__" 432 ~186)] 6
@@109 fl #[~~59, ~~4, ~177, ~~67, ~~4, ~184]
@@110 co "Pour" "Pour" 399 57 0 0 ~168 (.bool false) ~169 .none .none .none 402
@@111 fr ~170 ~167 (.str "jughouse.moves" 321)
@@112 tu #[(.str "self" 412), (.str "one" 413), (.str "other" 414)]
@@113 fp (me 21 0) "__init__" "Pour.__init__"
@@114 co "__init__" "Pour.__init__" 409 59 3 3 ~172 (.bool true) ~173 ~174 ~175 ~176 415
@@115 fo (me 21 0) "__init__" "Pour.__init__" "jughouse.moves" 321 177
@@116 tu #[(.str "self" 421), (.str "house" 422), (.str "held" 423), (.str "room" 424), (.str "many" 425), (.str "less" 426)]
@@117 fp (me 21 1) "held_behind" "Pour.held_behind"
@@118 co "held_behind" "Pour.held_behind" 418 67 3 3 ~179 (.bool true) ~180 ~181 ~182 ~183 427
@@119 fo (me 21 1) "held_behind" "Pour.held_behind" "jughouse.moves" 321 184
@@120 tu #[(.str "one" 430), (.str "other" 431)]
@@121 di #[(d% "__module__" 404 (.str "jughouse.moves" 321)), (d% "__firstlineno__" 408 (.int 57 407)), (d% "__init__" 417 ~178), (d% "held_behind" 429 ~185), (d% "__static_attributes__" 432 ~186), (d% "__doc__" 433 .none)] 2
@@122 ty "Pour" [~160] [~188, ~160, (.type "object")] 187 "Pour" [] ~165 (.str "Pour" 397) (.str "Pour" 405) (.builtin "object.__new__")
@@123 ft "super" #[~188, ~188, ~188]
@@124 ft "builtin_function_or_method" #[(.builtin "object.__init_subclass__"), ~188]
@@125 di #[(d% "__module__" 443 (.str "jughouse.moves" 321)), (d% "__qualname__" 445 (.str "Fill" 444)), (d% "__firstlineno__" 447 (.int 74 446)), (d% "__init__" 455 ~204), (d% "held_behind" 464 ~211), (d% "__static_attributes__" 466 ~212)] 6
@@126 fl #[~~76, ~~4, ~203, ~~80, ~~4, ~210]
@@127 co "Fill" "Fill" 438 74 0 0 ~194 (.bool false) ~195 .none .none .none 441
@@128 fr ~196 ~193 (.str "jughouse.moves" 321)
@@129 tu #[(.str "self" 451), (.str "jug" 452)]
@@130 fp (me 22 0) "__init__" "Fill.__init__"
@@131 co "__init__" "Fill.__init__" 448 76 2 3 ~198 (.bool true) ~199 ~200 ~201 ~202 453
@@132 fo (me 22 0) "__init__" "Fill.__init__" "jughouse.moves" 321 203
@@133 tu #[(.str "self" 459), (.str "house" 460), (.str "held" 461)]
@@134 fp (me 22 1) "held_behind" "Fill.held_behind"
@@135 co "held_behind" "Fill.held_behind" 456 80 3 3 ~205 (.bool true) ~206 ~207 ~208 ~209 462
@@136 fo (me 22 1) "held_behind" "Fill.held_behind" "jughouse.moves" 321 210
@@137 tu #[(.str "jug" 465)]
@@138 di #[(d% "__module__" 443 (.str "jughouse.moves" 321)), (d% "__firstlineno__" 447 (.int 74 446)), (d% "__init__" 455 ~204), (d% "held_behind" 464 ~211), (d% "__static_attributes__" 466 ~212), (d% "__doc__" 467 .none)] 2
@@139 ty "Fill" [~160] [~214, ~160, (.type "object")] 213 "Fill" [] ~191 (.str "Fill" 436) (.str "Fill" 444) (.builtin "object.__new__")
@@140 ft "super" #[~214, ~214, ~214]
@@141 ft "builtin_function_or_method" #[(.builtin "object.__init_subclass__"), ~214]
@@142 di #[(d% "__module__" 477 (.str "jughouse.moves" 321)), (d% "__qualname__" 479 (.str "Empty" 478)), (d% "__firstlineno__" 481 (.int 83 480)), (d% "__init__" 489 ~230), (d% "held_behind" 498 ~237), (d% "__static_attributes__" 500 ~238)] 6
@@143 fl #[~~85, ~~4, ~229, ~~89, ~~4, ~236]
@@144 co "Empty" "Empty" 472 83 0 0 ~220 (.bool false) ~221 .none .none .none 475
@@145 fr ~222 ~219 (.str "jughouse.moves" 321)
@@146 tu #[(.str "self" 485), (.str "jug" 486)]
@@147 fp (me 23 0) "__init__" "Empty.__init__"
@@148 co "__init__" "Empty.__init__" 482 85 2 3 ~224 (.bool true) ~225 ~226 ~227 ~228 487
@@149 fo (me 23 0) "__init__" "Empty.__init__" "jughouse.moves" 321 229
@@150 tu #[(.str "self" 493), (.str "house" 494), (.str "held" 495)]
@@151 fp (me 23 1) "held_behind" "Empty.held_behind"
@@152 co "held_behind" "Empty.held_behind" 490 89 3 3 ~231 (.bool true) ~232 ~233 ~234 ~235 496
@@153 fo (me 23 1) "held_behind" "Empty.held_behind" "jughouse.moves" 321 236
@@154 tu #[(.str "jug" 499)]
@@155 di #[(d% "__module__" 477 (.str "jughouse.moves" 321)), (d% "__firstlineno__" 481 (.int 83 480)), (d% "__init__" 489 ~230), (d% "held_behind" 498 ~237), (d% "__static_attributes__" 500 ~238), (d% "__doc__" 501 .none)] 2
@@156 ty "Empty" [~160] [~240, ~160, (.type "object")] 239 "Empty" [] ~217 (.str "Empty" 470) (.str "Empty" 478) (.builtin "object.__new__")
@@157 ft "super" #[~240, ~240, ~240]
@@158 ft "builtin_function_or_method" #[(.builtin "object.__init_subclass__"), ~240]
@@159 tu #[(.str "moves" 507), (.str "told" 508), (.str "move" 509)]
@@160 fp (st 24) "moves_in" "moves_in"
@@161 co "moves_in" "moves_in" 504 92 1 3 ~243 (.bool true) ~244 ~245 ~246 ~247 510
@@162 fo (st 24) "moves_in" "moves_in" "jughouse.moves" 321 248
@@163 tu #[(.str "moves" 516), (.str "house" 517), (.str "state" 518), (.str "told" 519), (.str "behind" 520), (.str "move" 521)]
@@164 fp (st 25) "done_all" "done_all"
@@165 co "done_all" "done_all" 513 100 3 3 ~250 (.bool true) ~251 ~252 ~253 ~254 522
@@166 fo (st 25) "done_all" "done_all" "jughouse.moves" 321 255
@@167 tu #[(.str "jug" 532)]
@@168 fp (st 28) "check_jug" "check_jug"
@@169 co "check_jug" "check_jug" 529 108 1 3 ~257 (.bool true) ~258 ~259 ~260 ~261 533
@@170 fo (st 28) "check_jug" "check_jug" "jughouse.goals" 525 262
@@171 tu #[(.str "many" 540)]
@@172 fp (st 30) "check_amount" "check_amount"
@@173 co "check_amount" "check_amount" 537 112 1 3 ~264 (.bool true) ~265 ~266 ~267 ~268 541
@@174 fo (st 30) "check_amount" "check_amount" "jughouse.goals" 525 269
@@175 tu #[(.str "jugs" 547), (.str "told" 548), (.str "jug" 549)]
@@176 fp (st 31) "jugs_in" "jugs_in"
@@177 co "jugs_in" "jugs_in" 544 115 1 3 ~271 (.bool true) ~272 ~273 ~274 ~275 550
@@178 fo (st 31) "jugs_in" "jugs_in" "jughouse.goals" 525 276
@@179 tu #[(.str "state" 556), (.str "told" 557), (.str "many" 558)]
@@180 fp (st 32) "amounts_in" "amounts_in"
@@181 co "amounts_in" "amounts_in" 553 126 1 3 ~278 (.bool true) ~279 ~280 ~281 ~282 559
@@182 fo (st 32) "amounts_in" "amounts_in" "jughouse.goals" 525 283
@@183 tu #[(.str "house" 565), (.str "jug" 566)]
@@184 fp (st 33) "check_house_has" "check_house_has"
@@185 co "check_house_has" "check_house_has" 562 136 2 3 ~285 (.bool true) ~286 ~287 ~288 ~289 567
@@186 fo (st 33) "check_house_has" "check_house_has" "jughouse.goals" 525 290
@@187 tu #[(.str "house" 574), (.str "state" 575)]
@@188 fp (st 35) "check_state_of" "check_state_of"
@@189 co "check_state_of" "check_state_of" 571 140 2 3 ~292 (.bool true) ~293 ~294 ~295 ~296 576
@@190 fo (st 35) "check_state_of" "check_state_of" "jughouse.goals" 525 297
@@191 di #[(d% "__module__" 586 (.str "jughouse.goals" 525)), (d% "__qualname__" 588 (.str "Goal" 587)), (d% "__firstlineno__" 590 (.int 145 589)), (d% "come" 600 ~312), (d% "met_by" 609 ~319), (d% "__static_attributes__" 610 ~320)] 6
@@192 fl #[~~147, ~~4, ~311, ~~151, ~~4, ~318]
@@193 co "Goal" "Goal" 581 145 0 0 ~302 (.bool false) ~303 .none .none .none 584
@@194 fr ~304 ~301 (.str "jughouse.goals" 525)
@@195 tu #[(.str "self" 594), (.str "house" 595), (.str "state" 596), (.str "held" 597)]
@@196 fp (me 36 0) "come" "Goal.come"
@@197 co "come" "Goal.come" 591 147 3 3 ~306 (.bool true) ~307 ~308 ~309 ~310 598
@@198 fo (me 36 0) "come" "Goal.come" "jughouse.goals" 525 311
@@199 tu #[(.str "self" 604), (.str "house" 605), (.str "held" 606)]
@@200 fp (me 36 1) "met_by" "Goal.met_by"
@@201 co "met_by" "Goal.met_by" 601 151 3 3 ~313 (.bool true) ~314 ~315 ~316 ~317 607
@@202 fo (me 36 1) "met_by" "Goal.met_by" "jughouse.goals" 525 318
@@203 di #[(d% "__module__" 586 (.str "jughouse.goals" 525)), (d% "__firstlineno__" 590 (.int 145 589)), (d% "come" 600 ~312), (d% "met_by" 609 ~319), (d% "__static_attributes__" 610 ~320), (d% "__dict__" 612 ~323), (d% "__weakref__" 614 ~324), (d% "__doc__" 615 .none)] 4
@@204 .mk (.type "type") none (.cls (.mk "Goal" [(.type "object")] [~322, (.type "object")] 321 "Goal" true [] [~350, ~376, ~400, ~426] false none false)) #[none, none, (some (.str "Goal" 579)), (some (.str "Goal" 587)), (some (.builtin "object.__new__")), (some (.bool true))]
@@205 ft "getset_descriptor" #[(.str "__dict__" 611), ~322, (.builtin "function.__dict__"), (.builtin "function.__dict__#set")]
@@206 ft "getset_descriptor" #[(.str "__weakref__" 613), ~322, (.builtin "ExceptionGroup.__weakref__"), .none]
@@207 ft "super" #[~322, ~322, ~322]
@@208 ft "builtin_function_or_method" #[(.builtin "object.__init_subclass__"), ~322]
@@209 tu #[~322]
@@210 di #[(d% "__module__" 625 (.str "jughouse.goals" 525)), (d% "__qualname__" 627 (.str "Holds" 626)), (d% "__firstlineno__" 629 (.int 153 628)), (d% "__init__" 638 ~340), (d% "met_by" 647 ~347), (d% "__static_attributes__" 650 ~348)] 6
@@211 fl #[~~155, ~~4, ~339, ~~161, ~~4, ~346]
@@212 co "Holds" "Holds" 620 153 0 0 ~330 (.bool false) ~331 .none .none .none 623
@@213 fr ~332 ~329 (.str "jughouse.goals" 525)
@@214 tu #[(.str "self" 633), (.str "jug" 634), (.str "many" 635)]
@@215 fp (me 37 0) "__init__" "Holds.__init__"
@@216 co "__init__" "Holds.__init__" 630 155 3 3 ~334 (.bool true) ~335 ~336 ~337 ~338 636
@@217 fo (me 37 0) "__init__" "Holds.__init__" "jughouse.goals" 525 339
@@218 tu #[(.str "self" 642), (.str "house" 643), (.str "held" 644)]
@@219 fp (me 37 1) "met_by" "Holds.met_by"
@@220 co "met_by" "Holds.met_by" 639 161 3 3 ~341 (.bool true) ~342 ~343 ~344 ~345 645
@@221 fo (me 37 1) "met_by" "Holds.met_by" "jughouse.goals" 525 346
@@222 tu #[(.str "jug" 648), (.str "many" 649)]
@@223 di #[(d% "__module__" 625 (.str "jughouse.goals" 525)), (d% "__firstlineno__" 629 (.int 153 628)), (d% "__init__" 638 ~340), (d% "met_by" 647 ~347), (d% "__static_attributes__" 650 ~348), (d% "__doc__" 651 .none)] 2
@@224 ty "Holds" [~322] [~350, ~322, (.type "object")] 349 "Holds" [] ~327 (.str "Holds" 618) (.str "Holds" 626) (.builtin "object.__new__")
@@225 ft "super" #[~350, ~350, ~350]
@@226 ft "builtin_function_or_method" #[(.builtin "object.__init_subclass__"), ~350]
@@227 di #[(d% "__module__" 661 (.str "jughouse.goals" 525)), (d% "__qualname__" 663 (.str "Some" 662)), (d% "__firstlineno__" 665 (.int 164 664)), (d% "__init__" 673 ~366), (d% "met_by" 682 ~373), (d% "__static_attributes__" 684 ~374)] 6
@@228 fl #[~~166, ~~4, ~365, ~~170, ~~4, ~372]
@@229 co "Some" "Some" 656 164 0 0 ~356 (.bool false) ~357 .none .none .none 659
@@230 fr ~358 ~355 (.str "jughouse.goals" 525)
@@231 tu #[(.str "self" 669), (.str "many" 670)]
@@232 fp (me 38 0) "__init__" "Some.__init__"
@@233 co "__init__" "Some.__init__" 666 166 2 3 ~360 (.bool true) ~361 ~362 ~363 ~364 671
@@234 fo (me 38 0) "__init__" "Some.__init__" "jughouse.goals" 525 365
@@235 tu #[(.str "self" 677), (.str "house" 678), (.str "held" 679)]
@@236 fp (me 38 1) "met_by" "Some.met_by"
@@237 co "met_by" "Some.met_by" 674 170 3 3 ~367 (.bool true) ~368 ~369 ~370 ~371 680
@@238 fo (me 38 1) "met_by" "Some.met_by" "jughouse.goals" 525 372
@@239 tu #[(.str "many" 683)]
@@240 di #[(d% "__module__" 661 (.str "jughouse.goals" 525)), (d% "__firstlineno__" 665 (.int 164 664)), (d% "__init__" 673 ~366), (d% "met_by" 682 ~373), (d% "__static_attributes__" 684 ~374), (d% "__doc__" 685 .none)] 2
@@241 ty "Some" [~322] [~376, ~322, (.type "object")] 375 "Some" [] ~353 (.str "Some" 654) (.str "Some" 662) (.builtin "object.__new__")
@@242 ft "super" #[~376, ~376, ~376]
@@243 ft "builtin_function_or_method" #[(.builtin "object.__init_subclass__"), ~376]
@@244 di #[(d% "__module__" 695 (.str "jughouse.goals" 525)), (d% "__qualname__" 697 (.str "Sum" 696)), (d% "__firstlineno__" 699 (.int 172 698)), (d% "__init__" 708 ~392), (d% "met_by" 714 ~397), (d% "__static_attributes__" 717 ~398)] 6
@@245 fl #[~~174, ~~4, ~391, ~~179, ~~4, ~396]
@@246 co "Sum" "Sum" 690 172 0 0 ~382 (.bool false) ~383 .none .none .none 693
@@247 fr ~384 ~381 (.str "jughouse.goals" 525)
@@248 tu #[(.str "self" 703), (.str "jugs" 704), (.str "many" 705)]
@@249 fp (me 39 0) "__init__" "Sum.__init__"
@@250 co "__init__" "Sum.__init__" 700 174 3 3 ~386 (.bool true) ~387 ~388 ~389 ~390 706
@@251 fo (me 39 0) "__init__" "Sum.__init__" "jughouse.goals" 525 391
@@252 fp (me 39 1) "met_by" "Sum.met_by"
@@253 co "met_by" "Sum.met_by" 709 179 3 3 ~393 (.bool true) ~394 .none .none ~395 712
@@254 fo (me 39 1) "met_by" "Sum.met_by" "jughouse.goals" 525 396
@@255 tu #[(.str "jugs" 715), (.str "many" 716)]
@@256 di #[(d% "__module__" 695 (.str "jughouse.goals" 525)), (d% "__firstlineno__" 699 (.int 172 698)), (d% "__init__" 708 ~392), (d% "met_by" 714 ~397), (d% "__static_attributes__" 717 ~398), (d% "__doc__" 718 .none)] 2
@@257 ty "Sum" [~322] [~400, ~322, (.type "object")] 399 "Sum" [] ~379 (.str "Sum" 688) (.str "Sum" 696) (.builtin "object.__new__")
@@258 ft "super" #[~400, ~400, ~400]
@@259 ft "builtin_function_or_method" #[(.builtin "object.__init_subclass__"), ~400]
@@260 di #[(d% "__module__" 728 (.str "jughouse.goals" 525)), (d% "__qualname__" 730 (.str "Whole" 729)), (d% "__firstlineno__" 732 (.int 183 731)), (d% "__init__" 740 ~416), (d% "met_by" 749 ~423), (d% "__static_attributes__" 751 ~424)] 6
@@261 fl #[~~185, ~~4, ~415, ~~188, ~~4, ~422]
@@262 co "Whole" "Whole" 723 183 0 0 ~406 (.bool false) ~407 .none .none .none 726
@@263 fr ~408 ~405 (.str "jughouse.goals" 525)
@@264 tu #[(.str "self" 736), (.str "state" 737)]
@@265 fp (me 40 0) "__init__" "Whole.__init__"
@@266 co "__init__" "Whole.__init__" 733 185 2 3 ~410 (.bool true) ~411 ~412 ~413 ~414 738
@@267 fo (me 40 0) "__init__" "Whole.__init__" "jughouse.goals" 525 415
@@268 tu #[(.str "self" 744), (.str "house" 745), (.str "held" 746)]
@@269 fp (me 40 1) "met_by" "Whole.met_by"
@@270 co "met_by" "Whole.met_by" 741 188 3 3 ~417 (.bool true) ~418 ~419 ~420 ~421 747
@@271 fo (me 40 1) "met_by" "Whole.met_by" "jughouse.goals" 525 422
@@272 tu #[(.str "state" 750)]
@@273 di #[(d% "__module__" 728 (.str "jughouse.goals" 525)), (d% "__firstlineno__" 732 (.int 183 731)), (d% "__init__" 740 ~416), (d% "met_by" 749 ~423), (d% "__static_attributes__" 751 ~424), (d% "__doc__" 752 .none)] 2
@@274 ty "Whole" [~322] [~426, ~322, (.type "object")] 425 "Whole" [] ~403 (.str "Whole" 721) (.str "Whole" 729) (.builtin "object.__new__")
@@275 ft "super" #[~426, ~426, ~426]
@@276 ft "builtin_function_or_method" #[(.builtin "object.__init_subclass__"), ~426]
@@277 tu #[(.str "goal" 758)]
@@278 fp (st 41) "check_goal" "check_goal"
@@279 co "check_goal" "check_goal" 755 191 1 3 ~429 (.bool true) ~430 ~431 ~432 ~433 759
@@280 fo (st 41) "check_goal" "check_goal" "jughouse.goals" 525 434
@@281 tu #[(.str "house" 767), (.str "state" 768), (.str "start" 769), (.str "moves" 770), (.str "ways" 771), (.str "row" 772), (.str "place" 773), (.str "here" 774), (.str "move" 775), (.str "behind" 776)]
@@282 fp (st 43) "ways_from" "ways_from"
@@283 co "ways_from" "ways_from" 764 195 2 3 ~436 (.bool true) ~437 ~438 ~439 ~440 777
@@284 fo (st 43) "ways_from" "ways_from" "jughouse.reach" 762 441
@@285 tu #[(.str "house" 783), (.str "state" 784)]
@@286 fp (st 44) "reached" "reached"
@@287 co "reached" "reached" 780 210 2 3 ~443 (.bool true) ~444 ~445 ~446 ~447 785
@@288 fo (st 44) "reached" "reached" "jughouse.reach" 762 448
@@289 tu #[(.str "house" 791), (.str "state" 792), (.str "amounts" 793), (.str "held" 794), (.str "many" 795)]
@@290 fp (st 45) "measured" "measured"
@@291 co "measured" "measured" 788 212 2 3 ~450 (.bool true) ~451 ~452 ~453 ~454 796
@@292 fo (st 45) "measured" "measured" "jughouse.reach" 762 455
@@293 tu #[(.str "house" 802), (.str "one" 803), (.str "other" 804), (.str "ahead" 805), (.str "behind" 806)]
@@294 fp (st 46) "tied" "tied"
@@295 co "tied" "tied" 799 218 3 3 ~457 (.bool true) ~458 ~459 ~460 ~461 807
@@296 fo (st 46) "tied" "tied" "jughouse.reach" 762 462
@@297 di #[(d% "__module__" 819 (.str "jughouse.fewest" 810)), (d% "__qualname__" 821 (.str "Answer" 820)), (d% "__firstlineno__" 823 (.int 223 822)), (d% "__static_attributes__" 824 ~471)] 4
@@298 co "Answer" "Answer" 814 223 0 0 ~467 (.bool false) ~468 .none .none .none 817
@@299 fr ~469 ~466 (.str "jughouse.fewest" 810)
@@300 di #[(d% "__module__" 819 (.str "jughouse.fewest" 810)), (d% "__firstlineno__" 823 (.int 223 822)), (d% "__static_attributes__" 824 ~471), (d% "__dict__" 826 ~474), (d% "__weakref__" 828 ~475), (d% "__doc__" 829 .none)] 4
@@301 .mk (.type "type") none (.cls (.mk "Answer" [(.type "object")] [~473, (.type "object")] 472 "Answer" true [] [~492, ~511] false none false)) #[none, none, (some (.str "Answer" 812)), (some (.str "Answer" 820)), (some (.builtin "object.__new__")), (some (.bool true))]
@@302 ft "getset_descriptor" #[(.str "__dict__" 825), ~473, (.builtin "function.__dict__"), (.builtin "function.__dict__#set")]
@@303 ft "getset_descriptor" #[(.str "__weakref__" 827), ~473, (.builtin "ExceptionGroup.__weakref__"), .none]
@@304 ft "super" #[~473, ~473, ~473]
@@305 ft "builtin_function_or_method" #[(.builtin "object.__init_subclass__"), ~473]
@@306 tu #[~473]
@@307 di #[(d% "__module__" 839 (.str "jughouse.fewest" 810)), (d% "__qualname__" 841 (.str "Poured" 840)), (d% "__firstlineno__" 843 (.int 225 842)), (d% "__init__" 849 ~489), (d% "__static_attributes__" 852 ~490)] 5
@@308 fl #[~~227, ~~4, ~488]
@@309 co "Poured" "Poured" 834 225 0 0 ~481 (.bool false) ~482 .none .none .none 837
@@310 fr ~483 ~480 (.str "jughouse.fewest" 810)
@@311 fp (me 49 0) "__init__" "Poured.__init__"
@@312 co "__init__" "Poured.__init__" 844 227 3 3 ~485 (.bool true) ~486 .none .none ~487 847
@@313 fo (me 49 0) "__init__" "Poured.__init__" "jughouse.fewest" 810 488
@@314 tu #[(.str "heights" 850), (.str "pours" 851)]
@@315 di #[(d% "__module__" 839 (.str "jughouse.fewest" 810)), (d% "__firstlineno__" 843 (.int 225 842)), (d% "__init__" 849 ~489), (d% "__static_attributes__" 852 ~490), (d% "__doc__" 853 .none)] 2
@@316 ty "Poured" [~473] [~492, ~473, (.type "object")] 491 "Poured" [] ~478 (.str "Poured" 832) (.str "Poured" 840) (.builtin "object.__new__")
@@317 ft "super" #[~492, ~492, ~492]
@@318 ft "builtin_function_or_method" #[(.builtin "object.__init_subclass__"), ~492]
@@319 di #[(d% "__module__" 863 (.str "jughouse.fewest" 810)), (d% "__qualname__" 865 (.str "Barred" 864)), (d% "__firstlineno__" 867 (.int 230 866)), (d% "__init__" 875 ~508), (d% "__static_attributes__" 877 ~509)] 5
@@320 fl #[~~232, ~~4, ~507]
@@321 co "Barred" "Barred" 858 230 0 0 ~498 (.bool false) ~499 .none .none .none 861
@@322 fr ~500 ~497 (.str "jughouse.fewest" 810)
@@323 tu #[(.str "self" 871), (.str "among" 872)]
@@324 fp (me 50 0) "__init__" "Barred.__init__"
@@325 co "__init__" "Barred.__init__" 868 232 2 3 ~502 (.bool true) ~503 ~504 ~505 ~506 873
@@326 fo (me 50 0) "__init__" "Barred.__init__" "jughouse.fewest" 810 507
@@327 tu #[(.str "among" 876)]
@@328 di #[(d% "__module__" 863 (.str "jughouse.fewest" 810)), (d% "__firstlineno__" 867 (.int 230 866)), (d% "__init__" 875 ~508), (d% "__static_attributes__" 877 ~509), (d% "__doc__" 878 .none)] 2
@@329 ty "Barred" [~473] [~511, ~473, (.type "object")] 510 "Barred" [] ~495 (.str "Barred" 856) (.str "Barred" 864) (.builtin "object.__new__")
@@330 ft "super" #[~511, ~511, ~511]
@@331 ft "builtin_function_or_method" #[(.builtin "object.__init_subclass__"), ~511]
@@332 tu #[(.str "house" 884), (.str "ways" 885), (.str "goal" 886), (.str "state" 887)]
@@333 fp (st 51) "nearest" "nearest"
@@334 co "nearest" "nearest" 881 234 3 3 ~514 (.bool true) ~515 ~516 ~517 ~518 888
@@335 fo (st 51) "nearest" "nearest" "jughouse.fewest" 810 519
@@336 tu #[(.str "ways" 894), (.str "state" 895), (.str "back" 896), (.str "way" 897)]
@@337 fp (st 52) "moves_to" "moves_to"
@@338 co "moves_to" "moves_to" 891 239 2 3 ~521 (.bool true) ~522 ~523 ~524 ~525 898
@@339 fo (st 52) "moves_to" "moves_to" "jughouse.fewest" 810 526
@@340 tu #[(.str "ways" 904), (.str "heights" 905), (.str "state" 906), (.str "way" 907)]
@@341 fp (st 53) "heights_in" "heights_in"
@@342 co "heights_in" "heights_in" 901 246 1 3 ~528 (.bool true) ~529 ~530 ~531 ~532 908
@@343 fo (st 53) "heights_in" "heights_in" "jughouse.fewest" 810 533
@@344 tu #[(.str "house" 914), (.str "state" 915), (.str "goal" 916), (.str "ways" 917), (.str "last" 918)]
@@345 fp (st 54) "fewest" "fewest"
@@346 co "fewest" "fewest" 911 252 3 3 ~535 (.bool true) ~536 ~537 ~538 ~539 919
@@347 fo (st 54) "fewest" "fewest" "jughouse.fewest" 810 540
@@348 tu #[(.str "sizes" 929), (.str "told" 930), (.str "size" 931)]
@@349 fp (st 57) "sizes_in" "sizes_in"
@@350 co "sizes_in" "sizes_in" 926 262 1 3 ~542 (.bool true) ~543 ~544 ~545 ~546 932
@@351 fo (st 57) "sizes_in" "sizes_in" "jughouse.houses" 922 547
@@352 tu #[(.str "sizes" 938), (.str "many" 939), (.str "size" 940)]
@@353 fp (st 58) "count_states" "count_states"
@@354 co "count_states" "count_states" 935 274 1 3 ~549 (.bool true) ~550 ~551 ~552 ~553 941
@@355 fo (st 58) "count_states" "count_states" "jughouse.houses" 922 554
@@356 tu #[(.str "many" 947), (.str "pours" 948), (.str "one" 949), (.str "other" 950)]
@@357 fp (st 59) "pours_among" "pours_among"
@@358 co "pours_among" "pours_among" 944 279 1 3 ~556 (.bool true) ~557 ~558 ~559 ~560 951
@@359 fo (st 59) "pours_among" "pours_among" "jughouse.houses" 922 561
@@360 tu #[(.str "states" 957), (.str "size" 958), (.str "longer" 959), (.str "state" 960), (.str "many" 961)]
@@361 fp (st 60) "with_one_more" "with_one_more"
@@362 co "with_one_more" "with_one_more" 954 286 2 3 ~563 (.bool true) ~564 ~565 ~566 ~567 962
@@363 fo (st 60) "with_one_more" "with_one_more" "jughouse.houses" 922 568
@@364 di #[(d% "__module__" 972 (.str "jughouse.houses" 922)), (d% "__qualname__" 974 (.str "House" 973)), (d% "__firstlineno__" 976 (.int 292 975)), (d% "__init__" 985 ~583), (d% "sizes" 992 ~590), (d% "moves" 998 ~595), (d% "states" 1007 ~602), (d% "empty" 1013 ~607), (d% "__static_attributes__" 1016 ~608)] 9
@@365 fl #[~~294, ~~4, ~582, ~~300, ~~4, ~589, ~~303, ~~4, ~594, ~~311, ~~4, ~601, ~~317, ~~4, ~606]
@@366 co "House" "House" 967 292 0 0 ~573 (.bool false) ~574 .none .none .none 970
@@367 fr ~575 ~572 (.str "jughouse.houses" 922)
@@368 tu #[(.str "self" 980), (.str "sizes" 981), (.str "tap" 982)]
@@369 fp (me 61 0) "__init__" "House.__init__"
@@370 co "__init__" "House.__init__" 977 294 3 3 ~577 (.bool true) ~578 ~579 ~580 ~581 983
@@371 fo (me 61 0) "__init__" "House.__init__" "jughouse.houses" 922 582
@@372 tu #[(.str "self" 989)]
@@373 fp (me 61 1) "sizes" "House.sizes"
@@374 co "sizes" "House.sizes" 986 300 1 3 ~584 (.bool true) ~585 ~586 ~587 ~588 990
@@375 fo (me 61 1) "sizes" "House.sizes" "jughouse.houses" 922 589
@@376 fp (me 61 2) "moves" "House.moves"
@@377 co "moves" "House.moves" 993 303 1 3 ~591 (.bool true) ~592 .none .none ~593 996
@@378 fo (me 61 2) "moves" "House.moves" "jughouse.houses" 922 594
@@379 tu #[(.str "self" 1002), (.str "told" 1003), (.str "size" 1004)]
@@380 fp (me 61 3) "states" "House.states"
@@381 co "states" "House.states" 999 311 1 3 ~596 (.bool true) ~597 ~598 ~599 ~600 1005
@@382 fo (me 61 3) "states" "House.states" "jughouse.houses" 922 601
@@383 fp (me 61 4) "empty" "House.empty"
@@384 co "empty" "House.empty" 1008 317 1 3 ~603 (.bool true) ~604 .none .none ~605 1011
@@385 fo (me 61 4) "empty" "House.empty" "jughouse.houses" 922 606
@@386 tu #[(.str "jug_sizes" 1014), (.str "tap" 1015)]
@@387 di #[(d% "__module__" 972 (.str "jughouse.houses" 922)), (d% "__firstlineno__" 976 (.int 292 975)), (d% "__init__" 985 ~583), (d% "sizes" 992 ~590), (d% "moves" 998 ~595), (d% "states" 1007 ~602), (d% "empty" 1013 ~607), (d% "__static_attributes__" 1016 ~608), (d% "__dict__" 1018 ~611), (d% "__weakref__" 1020 ~612), (d% "__doc__" 1021 .none)] 4
@@388 .mk (.type "type") none (.cls (.mk "House" [(.type "object")] [~610, (.type "object")] 609 "House" true [] [] false none false)) #[none, none, (some (.str "House" 965)), (some (.str "House" 973)), (some (.builtin "object.__new__")), (some (.bool true))]
@@389 ft "getset_descriptor" #[(.str "__dict__" 1017), ~610, (.builtin "function.__dict__"), (.builtin "function.__dict__#set")]
@@390 ft "getset_descriptor" #[(.str "__weakref__" 1019), ~610, (.builtin "ExceptionGroup.__weakref__"), .none]
@@391 ft "super" #[~610, ~610, ~610]
@@392 ft "builtin_function_or_method" #[(.builtin "object.__init_subclass__"), ~610]
@@393 tu #[(.str "move" 1029)]
@@394 fp (st 63) "move_text" "move_text"
@@395 co "move_text" "move_text" 1026 320 1 3 ~615 (.bool true) ~616 ~617 ~618 ~619 1030
@@396 fo (st 63) "move_text" "move_text" "jughouse.texts" 1024 620
@@397 fp (st 64) "routine_text" "routine_text"
@@398 co "routine_text" "routine_text" 1033 326 1 3 ~622 (.bool true) ~623 .none .none ~624 1036
@@399 fo (st 64) "routine_text" "routine_text" "jughouse.texts" 1024 625
@@400 tu #[(.str "_law_script" 1044), (.str "_law_k" 1045)]
@@401 fp (st 66) "_law_cell_at" "_law_cell_at"
@@402 co "_law_cell_at" "_law_cell_at" 1041 329 2 3 ~627 (.bool true) ~628 ~629 ~630 ~631 1046
@@403 fo (st 66) "_law_cell_at" "_law_cell_at" "law_jughouse_k08_refused" 1039 632
@@404 tu #[(.str "_law_error" 1052), (.str "_law_found" 1053)]
@@405 fp (st 67) "_law_kinds" "_law_kinds"
@@406 co "_law_kinds" "_law_kinds" 1049 333 1 3 ~634 (.bool true) ~635 ~636 ~637 ~638 1054
@@407 fo (st 67) "_law_kinds" "_law_kinds" "law_jughouse_k08_refused" 1039 639
@@408 tu #[(.str "_law_ask" 1060), (.str "_law_one" 1061), (.str "_law_other" 1062), (.str "_law_error" 1063)]
@@409 fp (st 68) "_law_told" "_law_told"
@@410 co "_law_told" "_law_told" 1057 336 3 3 ~641 (.bool true) ~642 ~643 ~644 ~645 1064
@@411 fo (st 68) "_law_told" "_law_told" "law_jughouse_k08_refused" 1039 646
@@412 tu #[(.str "_law_door" 1070), (.str "_law_bad" 1071)]
@@413 fp (st 69) "_law_house" "_law_house"
@@414 co "_law_house" "_law_house" 1067 342 2 3 ~648 (.bool true) ~649 ~650 ~651 ~652 1072
@@415 fo (st 69) "_law_house" "_law_house" "law_jughouse_k08_refused" 1039 653
@@416 tu #[(.str "_law_door" 1078), (.str "_law_bad" 1079), (.str "_law_house_here" 1080)]
@@417 fp (st 70) "_law_with_state" "_law_with_state"
@@418 co "_law_with_state" "_law_with_state" 1075 344 2 3 ~655 (.bool true) ~656 ~657 ~658 ~659 1081
@@419 fo (st 70) "_law_with_state" "_law_with_state" "law_jughouse_k08_refused" 1039 660
@@420 tu #[(.str "_law_door" 1087), (.str "_law_bad" 1088), (.str "_law_house_here" 1089)]
@@421 fp (st 71) "_law_with_move" "_law_with_move"
@@422 co "_law_with_move" "_law_with_move" 1084 363 2 3 ~662 (.bool true) ~663 ~664 ~665 ~666 1090
@@423 fo (st 71) "_law_with_move" "_law_with_move" "law_jughouse_k08_refused" 1039 667
@@424 tu #[(.str "_law_door" 1096), (.str "_law_way" 1097), (.str "_law_house_here" 1098), (.str "_law_move" 1099)]
@@425 fp (st 72) "_law_unfit" "_law_unfit"
@@426 co "_law_unfit" "_law_unfit" 1093 378 2 3 ~669 (.bool true) ~670 ~671 ~672 ~673 1100
@@427 fo (st 72) "_law_unfit" "_law_unfit" "law_jughouse_k08_refused" 1039 674
@@428 tu #[(.str "_law_door" 1106), (.str "_law_bad" 1107)]
@@429 fp (st 73) "_law_with_goal" "_law_with_goal"
@@430 co "_law_with_goal" "_law_with_goal" 1103 384 2 3 ~676 (.bool true) ~677 ~678 ~679 ~680 1108
@@431 fo (st 73) "_law_with_goal" "_law_with_goal" "law_jughouse_k08_refused" 1039 681
@@432 tu #[(.str "_law_door" 1114), (.str "_law_way" 1115), (.str "_law_goal" 1116)]
@@433 fp (st 74) "_law_goal_unfit" "_law_goal_unfit"
@@434 co "_law_goal_unfit" "_law_goal_unfit" 1111 398 2 3 ~683 (.bool true) ~684 ~685 ~686 ~687 1117
@@435 fo (st 74) "_law_goal_unfit" "_law_goal_unfit" "law_jughouse_k08_refused" 1039 688
@@436 tu #[(.str "_law_ask" 1123), (.str "_law_doors" 1124), (.str "_law_things" 1125), (.str "_law_due" 1126), (.str "_law_door" 1127), (.str "_law_thing" 1128)]
@@437 fp (st 75) "_law_all" "_law_all"
@@438 co "_law_all" "_law_all" 1120 403 4 3 ~690 (.bool true) ~691 ~692 ~693 ~694 1129
@@439 fo (st 75) "_law_all" "_law_all" "law_jughouse_k08_refused" 1039 695
@@440 tu #[(.str "_law_far" 1135), (.str "_law_due" 1136), (.str "_law_jugs" 1137), (.str "_law_thing" 1138)]
@@441 fp (st 76) "_law_goals_right" "_law_goals_right"
@@442 co "_law_goals_right" "_law_goals_right" 1132 409 2 3 ~697 (.bool true) ~698 ~699 ~700 ~701 1139
@@443 fo (st 76) "_law_goals_right" "_law_goals_right" "law_jughouse_k08_refused" 1039 702
@@444 fp (st 77) "_law_good" "_law_good"
@@445 co "_law_good" "_law_good" 1142 425 0 3 ~704 (.bool true) ~705 ~706 ~707 ~708 1145
@@446 fo (st 77) "_law_good" "_law_good" "law_jughouse_k08_refused" 1039 709
@@447 tu #[(.str "_law_script" 1151), (.str "_law_far" 1152), (.str "_law_due" 1153), (.str "_law_k" 1154), (.str "_law_sizes" 1155), (.str "_law_states" 1156), (.str "_law_bad" 1157), (.str "_law_thing" 1158)]
@@448 fp (st 78) "law" "law"
@@449 co "law" "law" 1148 431 1 3 ~711 (.bool true) ~712 ~713 ~714 ~715 1159
@@450 fo (st 78) "law" "law" "law_jughouse_k08_refused" 1039 716
abbrev N := BT.node
abbrev L := BT.nil
def lifeF : Life := (.mk [] [] [] 0 [] [] false #[] [] 0 false false false 0 [2000, 10, 10] false 0 true [] [] 0 false)
def drawnF : Drawn := (.mk 0 0 0 0)
def hA (P : Params) : Heap := ⟨Array.mk (oo% 0 1 2 3 4 5 6 7 8 9 10 7 8 11 12), lifeF⟩
def sA (w : World) (os : OsState) : Shared := ⟨hA w.params, Array.mk [], drawnF, 187, os⟩
def tB (P : Params) : BT := bt% 0 1 2 3 4 5 6 7 8 9 10 7 8 11 12
def sB (w : World) (os : OsState) : SharedT := ⟨tB w.params, 15, lifeF, Array.mk [], drawnF, 187, os⟩
def tC0 (P : Params) : BT := bt% 0 1 2 13 4 5 6 7 8 9 10 7 14 11 12 15 16 17 7 8 18 19 7 20 21 22 23 24 25 16 26 7 8 27 28 7 29 30 31 32 25 16 33 7 8 34 35 7 36 37 38 39 25 16 40 7 8 41 42 7 43 44 45 46 25 16 47 7 8 48 49 7 50 51 52 53 25 16 54 7 8 55 56 7 57 58 59 60 7 8 61 7 62 63 64 7 8 65 7 66 67 68 7 8 69 7 70 71 72 7 8 73 7 74 75 76 7 8 77 7 78 79 80 7 8 81 7 82 83 84 7 8 85 7 86 87 88 7 16 89 7 90 91 92 7 8 93 7 94 95 96 7 8 97 7 98 99 100 7 101 102 103 104 105 106 107 16 108 7 109 110 111 7 8 112 7 113 114 115 7 8 116 7 117 118 119 120 121 122 123 124 107 16 125 7 126 127 128 7 8 129 7 130 131 132 7 8 133 7 134 135 136 137 138 139 140 141 107 16 142 7 143 144 145 7 8 146 7 147 148 149 7 8 150 7 151 152 153 154 155 156 157 158 7 8 159 7 160 161 162 7 8 163 7 164 165 166 7 8 167 7 168 169 170 7 8 171 7 172 173 174 7 8 175 7 176 177 178 7 8 179 7 180 181 182 7 8 183 7 184 185 186 7 8 187 7 188 189 190 7 16 191 7 192 193 194 7 8 195 7 196 197 198 7 8 199 7 200 201 202 7 203 204 205 206 207 208 209 16 210 7 211 212 213 7 8 214 7 215 216 217 7 8 218 7 219 220 221 222 223 224 225 226 209 16 227 7 228 229 230 7 8 231 7 232 233 234 7 8 235 7 236 237 238 239 240 241 242 243 209 16 244 7 245 246 247 7 8 248 7 249 250 251 7 8 252 253 254 255 256 257 258 259 209 16 260 7 261 262 263 7 8 264 7 265 266 267 7 8 268 7 269 270 271 272 273 274 275 276 7 8 277 7 278 279 280 7 8 281 7 282 283 284 7 8 285 7 286 287 288 7 8 289 7 290 291 292 7 8 293 7 294 295 296 7 16 297 7 8 298 299 7 300 301 302 303 304 305 306 16 307 7 308 309 310 7 8 311 312 313 314 315 316 317 318 306 16 319 7 320 321 322 7 8 323 7 324 325 326 327 328 329 330 331 7 8 332 7 333 334 335 7 8 336 7 337 338 339 7 8 340 7 341 342 343 7 8 344 7 345 346 347 7 8 348 7 349 350 351 7 8 352 7 353 354 355 7 8 356 7 357 358 359 7 8 360 7 361 362 363 7 16 364 7 365 366 367 7 8 368 7 369 370 371 7 8 372 7 373 374 375 7 8 376 377 378 7 8 379 7 380 381 382 7 8 383 384 385 386 387 388 389 390 391 392 7 8 393 7 394 395 396 7 8 397 398 399 7 8 400 7 401 402 403 7 8 404 7 405 406 407 7 8 408 7 409 410 411 7 8 412 7 413 414 415 7 8 416 7 417 418 419 7 8 420 7 421 422 423 7 8 424 7 425 426 427 7 8 428 7 429 430 431 7 8 432 7 433 434 435 7 8 436 7 437 438 439 7 8 440 7 441 442 443 7 8 7 7 444 445 446 7 8 447 7 448 449 450
def sC0 (w : World) (os : OsState) : SharedT := ⟨tC0 w.params, 718, lifeF, Array.mk [], drawnF, 1162, os⟩
def hF (P : Params) : Heap := ⟨Array.mk (oo% 0 1 2 13 4 5 6 7 8 9 10 7 14 11 12 15 16 17 7 8 18 19 7 20 21 22 23 24 25 16 26 7 8 27 28 7 29 30 31 32 25 16 33 7 8 34 35 7 36 37 38 39 25 16 40 7 8 41 42 7 43 44 45 46 25 16 47 7 8 48 49 7 50 51 52 53 25 16 54 7 8 55 56 7 57 58 59 60 7 8 61 7 62 63 64 7 8 65 7 66 67 68 7 8 69 7 70 71 72 7 8 73 7 74 75 76 7 8 77 7 78 79 80 7 8 81 7 82 83 84 7 8 85 7 86 87 88 7 16 89 7 90 91 92 7 8 93 7 94 95 96 7 8 97 7 98 99 100 7 101 102 103 104 105 106 107 16 108 7 109 110 111 7 8 112 7 113 114 115 7 8 116 7 117 118 119 120 121 122 123 124 107 16 125 7 126 127 128 7 8 129 7 130 131 132 7 8 133 7 134 135 136 137 138 139 140 141 107 16 142 7 143 144 145 7 8 146 7 147 148 149 7 8 150 7 151 152 153 154 155 156 157 158 7 8 159 7 160 161 162 7 8 163 7 164 165 166 7 8 167 7 168 169 170 7 8 171 7 172 173 174 7 8 175 7 176 177 178 7 8 179 7 180 181 182 7 8 183 7 184 185 186 7 8 187 7 188 189 190 7 16 191 7 192 193 194 7 8 195 7 196 197 198 7 8 199 7 200 201 202 7 203 204 205 206 207 208 209 16 210 7 211 212 213 7 8 214 7 215 216 217 7 8 218 7 219 220 221 222 223 224 225 226 209 16 227 7 228 229 230 7 8 231 7 232 233 234 7 8 235 7 236 237 238 239 240 241 242 243 209 16 244 7 245 246 247 7 8 248 7 249 250 251 7 8 252 253 254 255 256 257 258 259 209 16 260 7 261 262 263 7 8 264 7 265 266 267 7 8 268 7 269 270 271 272 273 274 275 276 7 8 277 7 278 279 280 7 8 281 7 282 283 284 7 8 285 7 286 287 288 7 8 289 7 290 291 292 7 8 293 7 294 295 296 7 16 297 7 8 298 299 7 300 301 302 303 304 305 306 16 307 7 308 309 310 7 8 311 312 313 314 315 316 317 318 306 16 319 7 320 321 322 7 8 323 7 324 325 326 327 328 329 330 331 7 8 332 7 333 334 335 7 8 336 7 337 338 339 7 8 340 7 341 342 343 7 8 344 7 345 346 347 7 8 348 7 349 350 351 7 8 352 7 353 354 355 7 8 356 7 357 358 359 7 8 360 7 361 362 363 7 16 364 7 365 366 367 7 8 368 7 369 370 371 7 8 372 7 373 374 375 7 8 376 377 378 7 8 379 7 380 381 382 7 8 383 384 385 386 387 388 389 390 391 392 7 8 393 7 394 395 396 7 8 397 398 399 7 8 400 7 401 402 403 7 8 404 7 405 406 407 7 8 408 7 409 410 411 7 8 412 7 413 414 415 7 8 416 7 417 418 419 7 8 420 7 421 422 423 7 8 424 7 425 426 427 7 8 428 7 429 430 431 7 8 432 7 433 434 435 7 8 436 7 437 438 439 7 8 440 7 441 442 443 7 8 7 7 444 445 446 7 8 447 7 448 449 450), lifeF⟩
def sF (w : World) (os : OsState) : Shared := ⟨hF w.params, Array.mk [], drawnF, 1162, os⟩
def KK (P : Params) : Frag := kk% 2 2 3 13 15 15 22 7 23 20 24 21 25 22 28 25 35 7 36 29 37 30 40 25 47 7 48 36 49 37 52 25 59 7 60 43 61 44 64 25 71 7 72 50 73 51 76 25 83 7 84 57 85 58 88 7 90 61 91 7 93 63 94 64 95 7 97 65 98 7 100 67 101 68 102 7 104 69 105 7 107 71 108 72 109 7 111 73 112 7 114 75 115 76 116 7 118 77 119 7 121 79 122 80 123 7 125 81 126 7 128 83 129 84 130 7 132 85 133 7 135 87 136 88 144 7 146 93 147 7 149 95 150 96 151 7 153 97 154 7 156 99 157 100 158 7 159 101 160 102 161 103 162 104 165 107 172 7 174 112 175 7 177 114 178 115 179 7 181 116 182 7 184 118 185 119 186 120 187 121 188 122 191 107 198 7 200 129 201 7 203 131 204 132 205 7 207 133 208 7 210 135 211 136 212 137 213 138 214 139 217 107 224 7 226 146 227 7 229 148 230 149 231 7 233 150 234 7 236 152 237 153 238 154 239 155 240 156 243 7 245 159 246 7 248 161 249 162 250 7 252 163 253 7 255 165 256 166 257 7 259 167 260 7 262 169 263 170 264 7 266 171 267 7 269 173 270 174 271 7 273 175 274 7 276 177 277 178 278 7 280 179 281 7 283 181 284 182 285 7 287 183 288 7 290 185 291 186 292 7 294 187 295 7 297 189 298 190 306 7 308 195 309 7 311 197 312 198 313 7 315 199 316 7 318 201 319 202 320 7 321 203 322 204 323 205 324 206 327 209 334 7 336 214 337 7 339 216 340 217 341 7 343 218 344 7 346 220 347 221 348 222 349 223 350 224 353 209 360 7 362 231 363 7 365 233 366 234 367 7 369 235 370 7 372 237 373 238 374 239 375 240 376 241 379 209 386 7 388 248 389 7 391 250 392 251 393 7 396 253 397 254 398 255 399 256 400 257 403 209 410 7 412 264 413 7 415 266 416 267 417 7 419 268 420 7 422 270 423 271 424 272 425 273 426 274 429 7 431 277 432 7 434 279 435 280 436 7 438 281 439 7 441 283 442 284 443 7 445 285 446 7 448 287 449 288 450 7 452 289 453 7 455 291 456 292 457 7 459 293 460 7 462 295 463 296 471 7 472 300 473 301 474 302 475 303 478 306 485 7 488 312 489 313 490 314 491 315 492 316 495 306 502 7 504 323 505 7 507 325 508 326 509 327 510 328 511 329 514 7 516 332 517 7 519 334 520 335 521 7 523 336 524 7 526 338 527 339 528 7 530 340 531 7 533 342 534 343 535 7 537 344 538 7 540 346 541 347 542 7 544 348 545 7 547 350 548 351 549 7 551 352 552 7 554 354 555 355 556 7 558 356 559 7 561 358 562 359 563 7 565 360 566 7 568 362 569 363 577 7 579 368 580 7 582 370 583 371 584 7 586 372 587 7 589 374 590 375 591 7 594 377 595 378 596 7 598 379 599 7 601 381 602 382 603 7 606 384 607 385 608 386 609 387 610 388 611 389 612 390 615 7 617 393 618 7 620 395 621 396 622 7 625 398 626 399 627 7 629 400 630 7 632 402 633 403 634 7 636 404 637 7 639 406 640 407 641 7 643 408 644 7 646 410 647 411 648 7 650 412 651 7 653 414 654 415 655 7 657 416 658 7 660 418 661 419 662 7 664 420 665 7 667 422 668 423 669 7 671 424 672 7 674 426 675 427 676 7 678 428 679 7 681 430 682 431 683 7 685 432 686 7 688 434 689 435 690 7 692 436 693 7 695 438 696 439 697 7 699 440 700 7 702 442 703 443 704 7 706 7 707 7 709 445 710 446 711 7 713 447 714 7 716 449 717 450
def keysK : List Addr := nn% 2 3 15 22 23 24 25 28 35 36 37 40 47 48 49 52 59 60 61 64 71 72 73 76 83 84 85 88 90 91 93 94 95 97 98 100 101 102 104 105 107 108 109 111 112 114 115 116 118 119 121 122 123 125 126 128 129 130 132 133 135 136 144 146 147 149 150 151 153 154 156 157 158 159 160 161 162 165 172 174 175 177 178 179 181 182 184 185 186 187 188 191 198 200 201 203 204 205 207 208 210 211 212 213 214 217 224 226 227 229 230 231 233 234 236 237 238 239 240 243 245 246 248 249 250 252 253 255 256 257 259 260 262 263 264 266 267 269 270 271 273 274 276 277 278 280 281 283 284 285 287 288 290 291 292 294 295 297 298 306 308 309 311 312 313 315 316 318 319 320 321 322 323 324 327 334 336 337 339 340 341 343 344 346 347 348 349 350 353 360 362 363 365 366 367 369 370 372 373 374 375 376 379 386 388 389 391 392 393 396 397 398 399 400 403 410 412 413 415 416 417 419 420 422 423 424 425 426 429 431 432 434 435 436 438 439 441 442 443 445 446 448 449 450 452 453 455 456 457 459 460 462 463 471 472 473 474 475 478 485 488 489 490 491 492 495 502 504 505 507 508 509 510 511 514 516 517 519 520 521 523 524 526 527 528 530 531 533 534 535 537 538 540 541 542 544 545 547 548 549 551 552 554 555 556 558 559 561 562 563 565 566 568 569 577 579 580 582 583 584 586 587 589 590 591 594 595 596 598 599 601 602 603 606 607 608 609 610 611 612 615 617 618 620 621 622 625 626 627 629 630 632 633 634 636 637 639 640 641 643 644 646 647 648 650 651 653 654 655 657 658 660 661 662 664 665 667 668 669 671 672 674 675 676 678 679 681 682 683 685 686 688 689 690 692 693 695 696 697 699 700 702 703 704 706 707 709 710 711 713 714 716 717
def loose : List Str := ss% "JugError" "BadHouse" "BadState" "BadMove" "BadGoal" "BadText" "MOST_JUGS" "MOST_SIZE" "is_number" "is_jug" "held_in" "check_jug" "check_jug_moves" "check_house_has" "check_house_has_moves" "check_house_can_tap" "with_amount" "Move" "Pour" "Fill" "Empty" "moves_in" "done_all" "MOST_AMOUNT" "check_jug_goals" "check_amount" "jugs_in" "amounts_in" "check_house_has_goals" "check_state_of" "Goal" "Holds" "Some" "Sum" "Whole" "check_goal" "ways_from" "reached" "measured" "tied" "Answer" "Poured" "Barred" "nearest" "moves_to" "heights_in" "fewest" "MOST_STATES" "sizes_in" "count_states" "pours_among" "with_one_more" "House" "move_text" "routine_text" "_law_cell_at" "_law_kinds" "_law_told" "_law_house" "_law_with_state" "_law_with_move" "_law_unfit" "_law_with_goal" "_law_goal_unfit" "_law_all" "_law_goals_right" "_law_good"
def env : Env := { scope := pg.main.scope, locals := mainNs, globals := mainNs, cells := [], code := ~13, frame := some 14 }
abbrev cE : Code := .body (behindTheImports pg) env
abbrev pos0 : Pos := (.mk 0 0 0 0)
abbrev posB : Pos := (.mk 0 0 0 0)
abbrev posQ : Pos := (.mk 0 0 0 0)
abbrev ann : Option Value := (some ~6)
abbrev s0 (w : World) (os : OsState) : Shared := ⟨boot_heap w.params, Array.mk [], boot_drawn, boot_toks, os⟩
theorem pre_ (w : World) (os : OsState) : topGo treeTable pg w 11 ann 12 (s0 w os) (topStub pg) = some (sA w os, ⟨denote treeTable cE, cE, pos0, [topFrame posQ]⟩) := by
 rewrite [Fast.te15667345088766844465, Fast.te14364793385576792824, Fast.te11892475500146522536]
 kernel_rfl
theorem block_ (w : World) (os : OsState) : segRun treeTable pg w 11 ann 1 1 (sA w os) (blockOf (behindTheImports pg) env cE pos0 [topFrame posQ]) = some (.next, (sB w os).abs, cE, posB) := by
 rewrite [Fast.te14374325043358763698, Fast.te14364793385576792824]
 kernel_rfl
abbrev pos_0 : Pos := (.mk 431 0 454 66)
theorem run_0 (w : World) (os : OsState) : segRunT treeTable pg w 11 ann 1 6233 (sB w os) (piecesOf (behindTheImports pg) env cE posB [topFrame posQ]) = some (.next, sC0 w os, cE, pos_0) := by
 rewrite [Fast.te10110043849684766642, Fast.te14364793385576792824]
 kernel_rfl
theorem fin_ (w : World) (os : OsState) : topRun treeTable pg w 11 ann 2 (sC0 w os).abs ⟨doneF .next, cE, pos_0, [topFrame posQ]⟩ = some (sF w os) := by
 rewrite [Fast.te14082659384304107361, Fast.te14364793385576792824]
 kernel_rfl
theorem top_ (w : World) (os : OsState) : topRun treeTable pg w 11 ann (12 + (1 + (6233 + 2))) (s0 w os) (topStub pg) = some (sF w os) := by
 refine go_top (pre_ w os) (piece_block (block_ w os) ?_)
 have h := piece_app (segRun_of (run_0 w os)) (piece_nil (fin_ w os))
 rwa [List.append_nil] at h
def qq : Program := { pg with main := { pg.main with body := [st 78] } }
theorem keys_ (P : Params) : keysK = (KK P).map (·.1) := by kernel_rfl
theorem open_ : ∀ w : World, (fencedOpening treeTable pg w 12590).map (fun s => (s.heap, s.gens, s.drawn, s.toks)) = some (boot_heap w.params, Array.mk [], boot_drawn, boot_toks) :=
 boot_open (by kernel_rfl) (by decide) (fun s => by kernel_rfl)
theorem size_ (w : World) : ((boot_heap w.params).isNs mainGlobals && (Array.mk [] : Array GenState).size == 0, (boot_heap w.params).objs.size, (boot_heap w.params).nsMap mainGlobals "__annotations__") = (true, 11, ann) := by kernel_rfl
abbrev rr : RowW := OpenRow.toRowW (OpenLaw.row PySem.Challenge.rw_jughouse_k08_refused)
def Xt (s : Shared) : Bool := xlAt qq [] s && recOk (RowW.records rr) s
theorem look1 (w : World) (os : OsState) : (staticsOk (importedModules pg.main.body) (boot_heap w.params) (hF w.params) && namesBound pg (hF w.params) && gensDone (sF w os) && laidKept (boot_heap w.params) (hF w.params)) = true := by kernel_rfl
theorem look2 (w : World) (os : OsState) : openSeen qq loose (importedModules pg.main.body) Xt true (sF w os) = openGood qq loose := by
 rewrite [Fast.te4187177175401517315]
 kernel_rfl
theorem look3 (w : World) (os : OsState) : Hook.obs (kmHook KK keysK keys_ [712, 698]) (sF w os) = Hook.val (kmHook KK keysK keys_ [712, 698]) w := by kernel_rfl
theorem left_ : LeftO pg qq loose Xt (Hook.obs (kmHook KK keysK keys_ [712, 698])) (Hook.val (kmHook KK keysK keys_ [712, 698])) 12590 :=
 LeftO.of_pieces open_ size_ top_ (by decide) (fun w => funext fun os => looks_pair (look1 w os) (looks_pair (look2 w os) (look3 w os)))
end Hd
end
open PySem PySem.W PyProof.Rows
set_option maxRecDepth 100000 in
set_option maxHeartbeats 0 in
theorem PySem.Challenge.cw_jughouse_k08_refused_holds : PySem.Challenge.rw_jughouse_k08_refused.Holds := by
 w_on; o_law
 refine holds_open (N := 12590)
   (q := Hd.qq) (loose := Hd.loose) (Xt := Hd.Xt)
   (XP := XL Hd.qq []) (YP := Hook.says (kmHook Hd.KK Hd.keysK Hd.keys_ [712, 698]))
   Hd.left_ (Hook.of (kmHook Hd.KK Hd.keysK Hd.keys_ [712, 698])) (Hook.keeps (kmHook Hd.KK Hd.keysK Hd.keys_ [712, 698]))
   (fun s e => xl_of s (Bool.and_eq_true_iff.mp e).1)
   XL.keeps (by rfl) (by rfl) (by rfl)
   (fun s e => recFacts_of (Bool.and_eq_true_iff.mp e).2)
   (by rfl) (by assumption) (by decide +kernel)
   ⟨rfl, rfl, rfl, rfl, rfl, by decide +kernel⟩ ?hw ?hc
 (case hw => w_witness2)
 k_fill
 refine Jug.walk (l := PySem.Challenge.rw_jughouse_k08_refused) rfl rfl (fun w h Y => ⟨km_in_of Y, km_tabs_of Y 712 (by simp), km_tabs_of Y 698 (by simp), codeHd_of_K (km_in_of Y) (by kernel_rfl), codeHd_of_K (km_in_of Y) (by kernel_rfl), by kernel_rfl, by kernel_rfl⟩) ?F
 case F =>
   intro w mg fa h KX G hmg
   refine' Jug.all_mk KX G hmg ?_ ?_ ?_ ?_ ?_ ?_ ?_ ?_ ?_ ?_ ?_ ?_ ?_ ?_ ?_ ?_ ?_ ?_ ?_ ?_ ?_ ?_ ?_ ?_ ?_ ?_ ?_ ?_ ?_ ?_ ?_ ?_ ?_ ?_ ?_ ?_ ?_ ?_ ?_ ?_ ?_ ?_ ?_ ?_ ?_ ?_ ?_ ?_ ?_ ?_ ?_ ?_ ?_ ?_ ?_ ?_ ?_ ?_ ?_ ?_ ?_ ?_ ?_ ?_ ?_ ?_ ?_ ?_ ?_ ?_ ?_ ?_ ?_ ?_ ?_ ?_ ?_ ?_ ?_ ?_ ?_ ?_ ?_ ?_ ?_ ?_ ?_ ?_ ?_ ?_ ?_ ?_ ?_ ?_ ?_ ?_ ?_ ?_ ?_ ?_ ?_ ?_ ?_ ?_ ?_ ?_ ?_ ?_ ?_ ?_ ?_ ?_ ?_ ?_ ?_ ?_ ?_ ?_ ?_ ?_ ?_ ?_ ?_ ?_ ?_ ?_ ?_ ?_ ?_ ?_ ?_ ?_ ?_ ?_ ?_ ?_ ?_ ?_ ?_ ?_ ?_ ?_ ?_ ?_ ?_ ?_ ?_ ?_ ?_ ?_ ?_ ?_ ?_ ?_ ?_ ?_ ?_ ?_ ?_ ?_ ?_ ?_ ?_ ?_ ?_ ?_ ?_ ?_ ?_ ?_ ?_ ?_ ?_ ?_ ?_ ?_ ?_ ?_ ?_ ?_ ?_ ?_ ?_ ?_ ?_ ?_ ?_ ?_ ?_ ?_ ?_ ?_ ?_ ?_ ?_ ?_ ?_ ?_ ?_ ?_ ?_ ?_ ?_ ?_ ?_ ?_ ?_ ?_ ?_ ?_ ?_ ?_ ?_ ?_ ?_ ?_ ?_ ?_ ?_ ?_ ?_ ?_ ?_ ?_ ?_ ?_ ?_ ?_ ?_ ?_ ?_ ?_ ?_ ?_ ?_ ?_ ?_ ?_ ?_ ?_ ?_ ?_ ?_ ?_ ?_ ?_ ?_ ?_ ?_ ?_ ?_ ?_ ?_ ?_ ?_ ?_ ?_ ?_ ?_ ?_ ?_ ?_ ?_ ?_ ?_ ?_ ?_ ?_ ?_ ?_ ?_ ?_ ?_ ?_ ?_ ?_ ?_ ?_ ?_ ?_ ?_ ?_ ?_ ?_ ?_ ?_ ?_ ?_ ?_ ?_ ?_ ?_ ?_ ?_ ?_ ?_ ?_ ?_ ?_ ?_ ?_ ?_ ?_ ?_ ?_ ?_ ?_ ?_ ?_ ?_ ?_ ?_ ?_ ?_ ?_ ?_ ?_ ?_ ?_ ?_ ?_ ?_ ?_ ?_ ?_ ?_ ?_ ?_ ?_ ?_ ?_ ?_ ?_ ?_ ?_ ?_ ?_ ?_ ?_ ?_ ?_ ?_ ?_ ?_ ?_ ?_ ?_ ?_ ?_ ?_ ?_ ?_ ?_ ?_ ?_ ?_ ?_ ?_ ?_ ?_ ?_ ?_ ?_ ?_ ?_ ?_ ?_ ?_ ?_ ?_ ?_ ?_ ?_ ?_ ?_ ?_ ?_ ?_ ?_ ?_ ?_ ?_ ?_ ?_ ?_ ?_ ?_ ?_ ?_ ?_ ?_ ?_ ?_ ?_ ?_ ?_ ?_ ?_ ?_ ?_ ?_ ?_ ?_ ?_ ?_ ?_ ?_ ?_ ?_ ?_ ?_ ?_ ?_ ?_ ?_ ?_ ?_ ?_ ?_ ?_ ?_ ?_ ?_ ?_ ?_ ?_ ?_ ?_ ?_ ?_ ?_ ?_ ?_ ?_ ?_ ?_ ?_ ?_ ?_ ?_ ?_ ?_ ?_ ?_ ?_ ?_ ?_ ?_ ?_ ?_ ?_ ?_ ?_ ?_ ?_ ?_ ?_ ?_ ?_ ?_ ?_ ?_ ?_ ?_ ?_
   all_goals (try first | k_is | kit_is | kernel_rfl)
