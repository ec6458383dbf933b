import PyProof.Rows.All
import Wide.All
import OpenK.AllK
import Wide.FinOn
import PyProof.EqAt
import PyProof.EqKinds
import PyProof.TupleCall
import PyProof.P3In
import PyProof.ZipIter
import PyProof.ListRange
import PyProof.SetRoads
import PyProof.Rows.SetFrom
import PyProof.Rows.SeqMore2
import KE.RegKIsAll
import PySem.Challenge.RW_farcuts_k27_ring_sums
set_option Elab.async false
set_option linter.all false
set_option maxRecDepth 100000
/-! THE HAND LAYER, for ints, bools, texts, own classes, LISTS and tuples (index, slices, in, append, pop ..), calls, loops. Paste it whole ahead of your own text; what your proof does not reach may be deleted. -/
namespace L2
open PySem PySem.Spec PyProof.Rows
noncomputable abbrev Key := Sum Int Str
noncomputable def Zm9 : Key → Value → Bool
  | .inl k, v => Value.isInt k v
  | .inr x, v => Value.isStrOf x v
noncomputable def Z8a (w : World) : Key → Int
  | .inl k => hashInt k
  | .inr x => hashStr w x
theorem Wj : ∀ {k : Key} {v : Value}, Zm9 k v = true → (∃ i t, k = Sum.inl i ∧ v = Value.int i t) ∨ (∃ x t, k = Sum.inr x ∧ v = Value.str x t)
  | .inl i, v, h => by
    obtain ⟨t, e⟩ := Value.isInt_shape (k := i) (v := v) h
    exact .inl ⟨i, t, rfl, e⟩
  | .inr x, v, h => by
    obtain ⟨t, e⟩ := Value.isStrOf_shape (x := x) (v := v) h
    exact .inr ⟨x, t, rfl, e⟩
theorem Zoq (i : Int) (t : Tok) : Zm9 (.inl i) (.int i t) = true := by simp [Zm9, Value.isInt]
theorem Zov (x : Str) (t : Tok) : Zm9 (.inr x) (.str x t) = true := by simp [Zm9, Value.isStrOf]
theorem Z1d (a b : Int) : decide ((Sum.inl a : Key) = Sum.inl b) = (a == b) := by
  by_cases e : a = b
  · subst e; simp
  · have h : ¬ (Sum.inl a : Key) = Sum.inl b := fun q => e (Sum.inl.inj q)
    rw [decide_eq_false h]
    exact (beq_eq_false_iff_ne.mpr e).symm
theorem Zy7 (a b : Str) : decide ((Sum.inr a : Key) = Sum.inr b) = decide (a = b) := by
  by_cases e : a = b
  · subst e; simp
  · have h : ¬ (Sum.inr a : Key) = Sum.inr b := fun q => e (Sum.inr.inj q)
    rw [decide_eq_false h, decide_eq_false e]
theorem Zxy (a : Int) (b : Str) : decide ((Sum.inl a : Key) = Sum.inr b) = false := decide_eq_false (fun q => nomatch q)
theorem Zyj (a : Str) (b : Int) : decide ((Sum.inr a : Key) = Sum.inl b) = false := decide_eq_false (fun q => nomatch q)
noncomputable def Y9 (prog : Program) (w : World) : PySem.KeyKind prog w Key where
  is := Zm9
  hash := Z8a w
  inj := fun v a b ha hb => by
    rcases Wj ha with ⟨i, t, rfl, rfl⟩ | ⟨x, t, rfl, rfl⟩
    · rcases Wj hb with ⟨j, u, rfl, e⟩ | ⟨y, u, rfl, e⟩
      · injection e with e1 _; rw [e1]
      · exact nomatch e
    · rcases Wj hb with ⟨j, u, rfl, e⟩ | ⟨y, u, rfl, e⟩
      · exact nomatch e
      · injection e with e1 _; rw [e1]
  byValue := fun k v h => by
    rcases Wj h with ⟨i, t, rfl, rfl⟩ | ⟨x, t, rfl, rfl⟩ <;> rfl
  pyHash := fun hv h => by
    rcases Wj hv with ⟨i, t, rfl, rfl⟩ | ⟨x, t, rfl, rfl⟩
    · exact wpAny_pyHash_int h
    · exact wpAny_pyHash_str h
  eqBool := fun hu hv h => by
    rcases Wj hu with ⟨i, t, rfl, rfl⟩ | ⟨x, t, rfl, rfl⟩
    · rcases Wj hv with ⟨j, u, rfl, rfl⟩ | ⟨y, u, rfl, rfl⟩
      · rw [Z1d] at h; exact wpAny_eqBool_int h
      · rw [Zxy] at h; exact SeqAt.EqAt.int_str i t y u _ _ _ _ h
    · rcases Wj hv with ⟨j, u, rfl, rfl⟩ | ⟨y, u, rfl, rfl⟩
      · rw [Zyj] at h; exact SeqAt.EqAt.str_int x t j u _ _ _ _ h
      · rw [Zy7] at h; exact wpAny_eqBool_str h
  «strs» := fun k x t v h => by
    rcases Wj h with ⟨i, u, rfl, e⟩ | ⟨y, u, rfl, e⟩
    · exact nomatch e
    · injection e with e1 _
      subst e1
      cases v <;> rfl
theorem Zkt (prog : Program) (w : World) (i : Int) (t : Tok) : (Y9 prog w).is (.inl i) (.int i t) = true := Zoq i t
theorem Zkq (prog : Program) (w : World) (x : Str) (t : Tok) : (Y9 prog w).is (.inr x) (.str x t) = true := Zov x t
end L2
namespace L2
open PySem PySem.Spec PyProof.Rows
inductive V where
  | non | bl (b : Bool) | int (i : Int) | str (x : Str) | byt (b : Array UInt8) | flt (b : UInt64) | ref (a : Addr) | ty (n : String)
  deriving DecidableEq
noncomputable def RelV : V → Value → Prop
  | .non, u => u = Value.none
  | .bl b, u => u = Value.bool b
  | .int i, u => ∃ t, u = Value.int i t
  | .str x, u => ∃ t, u = Value.str x t
  | .byt b, u => ∃ t, u = Value.bytes b t
  | .flt b, u => ∃ t, u = Value.float b t
  | .ref a, u => u = Value.ref a
  | .ty n, u => u = Value.type n
noncomputable abbrev Vals : List V → List Value → Prop := Paired RelV
theorem Vals.length {xs : List V} {us : List Value} (r : Vals xs us) : xs.length = us.length := Paired.length r
theorem Vals.get {xs : List V} {us : List Value} {i : Nat} {x : V} (h : Vals xs us) (e : xs[i]? = some x) : ∃ u, us[i]? = some u ∧ RelV x u := by
  induction h generalizing i with
  | nil => exact (Option.some_ne_none _ (e.symm.trans List.getElem?_nil)).elim
  | cons r t ih =>
    cases i with
    | zero => exact ⟨_, rfl, Option.some.inj e ▸ r⟩
    | succ i => exact ih e
theorem Vals.set {x : V} {u : Value} (r : RelV x u) {xs : List V} {us : List Value} (i : Nat) (h : Vals xs us) : Vals (xs.set i x) (us.set i u) := by
  induction h generalizing i with
  | nil => exact .nil
  | cons q t ih =>
    cases i with
    | zero => exact .cons r t
    | succ i => exact .cons q (ih i)
theorem Vals.append {xs ys : List V} {us ws : List Value} (h : Vals xs us) (s : Vals ys ws) : Vals (xs ++ ys) (us ++ ws) := by
  induction h with
  | nil => exact s
  | cons r t ih => exact .cons r ih
theorem Vals.take {xs : List V} {us : List Value} (n : Nat) (h : Vals xs us) : Vals (xs.take n) (us.take n) := by
  induction h generalizing n with
  | nil => rw [List.take_nil, List.take_nil]; exact .nil
  | cons r t ih =>
    cases n with
    | zero => exact .nil
    | succ n => exact .cons r (ih n)
theorem Vals.drop {xs : List V} {us : List Value} (n : Nat) (h : Vals xs us) : Vals (xs.drop n) (us.drop n) := by
  induction h generalizing n with
  | nil => rw [List.drop_nil, List.drop_nil]; exact .nil
  | cons r t ih =>
    cases n with
    | zero => exact .cons r t
    | succ n => exact ih n
noncomputable def RelO : Option V → Option Value → Prop
  | some v, some u => RelV v u
  | none, none => True
  | _, _ => False
noncomputable def KV {κ : Type} : List (κ × V) → List (κ × Value) → Prop := Paired fun (p : κ × V) (q : κ × Value) => p.1 = q.1 ∧ RelV p.2 q.2
noncomputable def kV : Key → V
  | .inl i => .int i
  | .inr x => .str x
inductive HO where
    | lst (xs : List V)
    | tup (xs : List V)
    | dK (kvs : List (Key × V)) | dT (kvs : List (List Key × V))
    | set (S : Int → Bool) (n : Nat)
    | ins (C dx : Addr) (fs : List (Str × V))
    | own (x : Addr)
    | xd (fs : List (Str × V))
    | met (f x : Addr)
    | rng (lo hi : Int)
    | frz (o : Obj) (u : HO)
    | tbl (ps : Array Value)
    | ext (φ : Heap → Prop)
noncomputable abbrev Hp := Addr → Option HO
noncomputable def upd (H : Hp) (a : Addr) (o : HO) : Hp := fun b => if b = a then some o else H b
theorem Ym {H : Hp} {a : Addr} {o : HO} : upd H a o a = some o := by unfold upd; rw [if_pos rfl]
theorem Yc {H : Hp} {a b : Addr} {o : HO} (h : b ≠ a) : upd H a o b = H b := by unfold upd; rw [if_neg h]
theorem Z2o {H : Hp} {a b : Addr} {o u : HO} (h : H a = some o) (h' : H b = some u) (d : o ≠ u) : a ≠ b := by
  intro e; subst e; rw [h] at h'; exact d (Option.some.inj h')
theorem Za0 {H : Hp} {a b : Addr} {o : HO} (h : H a = some o) (h' : H b = none) : a ≠ b := by
  intro e; subst e; rw [h] at h'; cases h'
section
variable (P : Program) (w : World)
noncomputable def ObjOk (H : Hp) (h : Heap) (a : Addr) : HO → Prop
  | .lst xs => xs.length ≤ sizeLine ∧ ∃ (its : List Value) (n : Nat), Vals xs its ∧ h.get? a = some { cls := .type "list", data := .seq its.toArray n }
  | .tup xs => xs.length ≤ sizeLine ∧ ∃ its : List Value, Vals xs its ∧ IsTup h a its.toArray
  | .dK kvs => kvs.length ≤ sizeLine ∧ (a == sysModules) = false ∧ ∃ vs, KV kvs vs ∧ h.DictOf (Y9 P w) a vs
  | .dT kvs => kvs.length ≤ sizeLine ∧ (a == sysModules) = false ∧ ∃ xs : List (List Key × Addr × Value),
      Paired (fun (p : List Key × V) (q : List Key × Addr × Value) => p.1 = q.1 ∧ H q.2.1 = some (.tup (p.1.map kV)) ∧ RelV p.2 q.2.2) kvs xs ∧
      ∃ o es ep, h.get? a = some o ∧ o.ExactDict ∧ o.data = .dict es ep ∧ es.toList = xs.map (entryOfKey (tupleKind (Y9 P w))) ∧ (xs.map (·.1)).Nodup
  | .set S n => h.SetOf (intKind P w) a S n
  | .ins C dx fs => H dx = some (.own a) ∧ fs.length ≤ 1000 ∧ dx ≠ a ∧ h.get? a = some (PySem.W.instObj C dx) ∧
      ∃ mA, h.Ns1 dx mA ∧ (∀ f, RelO (fs.lookup f) (mA f)) ∧ PySem.Within mA (fs.map (·.1))
  | .own _ => ∃ o, h.get? a = some o
  | .xd fs => ∃ mA, h.Ns1 a mA ∧ ∀ f, RelO (fs.lookup f) (mA f)
  | .rng lo hi => ∃ t u v, h.get? a = some { cls := .type "range", data := .fields #[.int lo t, .int hi u, .int 1 v] }
  | .frz o u => h.get? a = some o ∧ ObjOk H h a u
  | .tbl ps => h.get? a = some { cls := .none, data := .fields ps }
  | .met f x => h.get? a = some (PySem.W.methodObj (.ref f) (.ref x))
  | .ext φ => φ h ∧ (∃ o, h.get? a = some o) ∧ ∀ h1 h2 : Heap, φ h1 → (∀ o, h1.get? a = some o → h2.get? a = some o) → φ h2
noncomputable def HOk (H : Hp) (h : Heap) : Prop := ∀ a o, H a = some o → ObjOk P w H h a o
end
section
variable {P : Program} {w : World} {H H' : Hp} {h h' : Heap} {a : Addr} {o : HO}
theorem ObjOk.lt (x : ObjOk P w H h a o) : a < h.objs.size := by
  cases o with
  | lst xs => obtain ⟨_, _, _, _, e⟩ := x; exact Heap.lt_size e
  | tup xs => obtain ⟨_, _, _, p⟩ := x; exact p.lt
  | dK kvs => obtain ⟨_, _, _, _, o, _, _, e, _⟩ := x; exact Heap.lt_size e
  | dT kvs => obtain ⟨_, _, _, _, o, _, _, e, _⟩ := x; exact Heap.lt_size e
  | set S n => obtain ⟨o, _, _, _, e, _⟩ := x; exact Heap.lt_size e
  | ins C dx fs => obtain ⟨_, _, _, e, _⟩ := x; exact Heap.lt_size e
  | own y => obtain ⟨_, e⟩ := x; exact Heap.lt_size e
  | xd fs => obtain ⟨_, ⟨_, _, _, e, _⟩, _⟩ := x; exact Heap.lt_size e
  | rng lo hi => obtain ⟨_, _, _, e⟩ := x; exact Heap.lt_size e
  | frz ob u => obtain ⟨e, _⟩ := x; exact Heap.lt_size e
  | tbl ps => exact Heap.lt_size (show h.get? a = some _ from x)
  | met f y => exact Heap.lt_size (show h.get? a = some _ from x)
  | ext φ => obtain ⟨_, ⟨_, e⟩, _⟩ := x; exact Heap.lt_size e
theorem Paired.mapP {α β : Type} {F G : α → β → Prop} {l₁ : List α} {l₂ : List β} (h : Paired F l₁ l₂) (f : ∀ a b, F a b → G a b) : Paired G l₁ l₂ := by
  induction h with
  | nil => exact .nil
  | cons r t ih => exact .cons (f _ _ r) ih
theorem ObjOk.stay (x : ObjOk P w H h a o) (k : ∀ b u, (b = a ∨ H b = some (.own a)) → h.get? b = some u → h'.get? b = some u)
    (ho : ∀ b, H b = some (.own a) → H' b = some (.own a)) (ht : ∀ b xs, H b = some (.tup xs) → H' b = some (.tup xs)) : ObjOk P w H' h' a o := by
  induction o with
  | lst xs => obtain ⟨z, its, n, r, e⟩ := x; exact ⟨z, its, n, r, k _ _ (.inl rfl) e⟩
  | tup xs => obtain ⟨z, its, r, ob, e, c⟩ := x; exact ⟨z, its, r, ob, k _ _ (.inl rfl) e, c⟩
  | dK kvs => obtain ⟨z, y, vs, r, ob, es, ep, e, c⟩ := x; exact ⟨z, y, vs, r, ob, es, ep, k _ _ (.inl rfl) e, c⟩
  | dT kvs =>
    obtain ⟨z, y, xs, r, ob, es, ep, e, c⟩ := x
    exact ⟨z, y, xs, Paired.mapP r fun p q z => ⟨z.1, ht _ _ z.2.1, z.2.2⟩, ob, es, ep, k _ _ (.inl rfl) e, c⟩
  | set S n => obtain ⟨ob, es, ep, t, e, c⟩ := x; exact ⟨ob, es, ep, t, k _ _ (.inl rfl) e, c⟩
  | ins C dx fs =>
    obtain ⟨d, z, ne, e, mA, ⟨od, es, ep, e2, c⟩, r⟩ := x
    exact ⟨ho _ d, z, ne, k _ _ (.inl rfl) e, mA, ⟨od, es, ep, k _ _ (.inr d) e2, c⟩, r⟩
  | own y => obtain ⟨ob, e⟩ := x; exact ⟨ob, k _ _ (.inl rfl) e⟩
  | xd fs => obtain ⟨mA, ⟨od, es, ep, e, c⟩, r⟩ := x; exact ⟨mA, ⟨od, es, ep, k _ _ (.inl rfl) e, c⟩, r⟩
  | rng lo hi => obtain ⟨t, u, v, e⟩ := x; exact ⟨t, u, v, k _ _ (.inl rfl) e⟩
  | frz ob u ih => obtain ⟨e, q⟩ := x; exact ⟨k _ _ (.inl rfl) e, ih q⟩
  | tbl ps =>
    have e : h.get? a = some { cls := .none, data := .fields ps } := x
    show h'.get? a = some { cls := .none, data := .fields ps }
    exact k a _ (.inl rfl) e
  | met f y =>
    have e : h.get? a = some (PySem.W.methodObj (.ref f) (.ref y)) := x
    show h'.get? a = some (PySem.W.methodObj (.ref f) (.ref y))
    exact k a _ (.inl rfl) e
  | ext φ => obtain ⟨p, ⟨o, e⟩, st⟩ := x; exact ⟨st _ _ p fun o q => k _ _ (.inl rfl) q, ⟨o, k _ _ (.inl rfl) e⟩, st⟩
theorem HOk.lt (x : HOk P w H h) (e : H a = some o) : a < h.objs.size := (x a o e).lt
theorem HOk.fresh (x : HOk P w H h) (e : h.objs.size ≤ a) : H a = none := by
  cases q : H a with
  | none => rfl
  | some u => exact absurd (Nat.lt_of_lt_of_le (x.lt q) e) (Nat.lt_irrefl _)
theorem HOk.kept (x : HOk P w H h) (k : ∀ b u, h.get? b = some u → h'.get? b = some u) : HOk P w H h' := fun a o e =>
  (x a o e).stay (fun b u _ q => k b u q) (fun _ q => q) fun _ _ q => q
theorem HOk.laid (x : HOk P w H h) (k : ∀ b u, h.get? b = some u → h'.get? b = some u) (hp : h.objs.size ≤ a) (new : ObjOk P w (upd H a o) h' a o) : HOk P w (upd H a o) h' := fun b u e => by
  have hn := x.fresh hp
  by_cases hb : b = a
  · subst hb; rw [Ym] at e; cases e; exact new
  · rw [Yc hb] at e
    exact (x b u e).stay (fun c v _ q => k c v q) (fun c q => by rw [Yc (Za0 q hn)]; exact q) fun c xs q => by rw [Yc (Za0 q hn)]; exact q
end
noncomputable def Rd (H : Hp) (a : Addr) (u : HO) : Prop := H a = some u ∨ ∃ o, H a = some (.frz o u)
theorem Rd.ok {P : Program} {w : World} {H : Hp} {h : Heap} {a : Addr} {u : HO} (r : Rd H a u) (x : HOk P w H h) : ObjOk P w H h a u := by
  rcases r with r | ⟨o, r⟩
  · exact x a u r
  · obtain ⟨_, q⟩ := x a _ r
    exact q
noncomputable def Mut : Option HO → Prop
  | some (.lst _) => True
  | some (.dK _) => True
  | some (.dT _) => True
  | some (.set _ _) => True
  | some (.ins _ _ _) => True
  | some (.ext _) => True
  | _ => False
section
variable {P : Program} {w : World} {H : Hp} {h h' : Heap} {x e : Addr} {o' : HO}
theorem HOk.write (ok : HOk P w H h) (mu : Mut (H x)) (he : e = x ∨ H e = some (.own x)) (k : ∀ b u, b ≠ e → h.get? b = some u → h'.get? b = some u) (heo : ∃ u, h'.get? e = some u)
    (new : ObjOk P w (upd H x o') h' x o') : HOk P w (upd H x o') h' := fun b u q => by
  have nown : ∀ c y, H c = some (.own y) → c ≠ x := fun c y r z => by subst z; rw [r] at mu; exact mu
  have ntup : ∀ c xs, H c = some (.tup xs) → c ≠ x := fun c xs r z => by subst z; rw [r] at mu; exact mu
  by_cases hb : b = x
  · subst hb; rw [Ym] at q; cases q; exact new
  · rw [Yc hb] at q
    by_cases hbe : b = e
    · have q' : H b = some (.own x) := by
        rcases he with z | z
        · exact absurd (hbe.trans z) hb
        · rw [hbe]; exact z
      rw [q] at q'; cases q'
      obtain ⟨v, hv⟩ := heo
      exact ⟨v, by rw [hbe]; exact hv⟩
    · refine (ok b u q).stay (fun c v hc r => k c v ?_ r) (fun c r => by rw [Yc (nown c b r)]; exact r) fun c xs r => by rw [Yc (ntup c xs r)]; exact r
      rcases hc with rfl | hc
      · exact hbe
      · rintro rfl
        rcases he with z | z
        · exact nown c b hc z
        · rw [hc] at z; cases z; exact hb rfl
end
structure Un (fs ex : List Addr) (H H' : Hp) (h h' : Heap) : Prop where
  keep : ∀ b o, h.get? b = some o → H b = none → b ∉ fs → b ∉ ex → h'.get? b = some o
  slot : ∀ b o, h.get? b = some o → H b = none → b ∈ fs → b ∉ ex → ∃ sl, h'.get? b = some { o with slots := sl }
  free : ∀ b o, h.get? b = some o → H b = none → b ∉ ex → H' b = none
  there : ∀ b o, h.get? b = some o → b ∉ ex → ∃ o', h'.get? b = some o'
  tups : ∀ b xs, H b = some (.tup xs) → H' b = some (.tup xs)
  frzs : ∀ b o u, H b = some (.frz o u) → H' b = some (.frz o u)
  tbls : ∀ b ps, H b = some (.tbl ps) → ∃ more, H' b = some (.tbl (ps ++ more))
section
variable {fs fs' ex ex' : List Addr} {H H1 H2 : Hp} {h h1 h2 h' : Heap} {a x e : Addr} {o : HO}
theorem Un.any (u : Un fs ex H H1 h h1) {b : Addr} {ob : Obj} (q : h.get? b = some ob) (n : H b = none) (hx : b ∉ ex) : ∃ sl, h1.get? b = some { ob with slots := sl } := by
  by_cases hb : b ∈ fs
  · exact u.slot b ob q n hb hx
  · exact ⟨ob.slots, u.keep b ob q n hb hx⟩
theorem Un.kept (k : ∀ b u, h.get? b = some u → h'.get? b = some u) : Un fs ex H H h h' :=
  ⟨fun b ob q _ _ _ => k b ob q, fun b ob q _ _ _ => ⟨ob.slots, k b ob q⟩, fun _ _ _ n _ => n, fun b ob q _ => ⟨ob, k b ob q⟩, fun _ _ q => q, fun _ _ _ q => q, fun _ ps q => ⟨#[], by rw [q]; simp⟩⟩
theorem Un.refl : Un fs ex H H h h := Un.kept fun _ _ q => q
theorem Un.laid (k : ∀ b u, h.get? b = some u → h'.get? b = some u) (hp : h.objs.size ≤ a) (hn : H a = none) : Un fs ex H (upd H a o) h h' where
  keep := fun b u q _ _ _ => k b u q
  slot := fun b u q _ _ _ => ⟨u.slots, k b u q⟩
  free := fun b u q n _ => by rw [Yc (Nat.ne_of_lt (Nat.lt_of_lt_of_le (Heap.lt_size q) hp))]; exact n
  there := fun b u q _ => ⟨u, k b u q⟩
  tups := fun b xs q => by rw [Yc (Za0 q hn)]; exact q
  frzs := fun b u xs q => by rw [Yc (Za0 q hn)]; exact q
  tbls := fun b ps q => ⟨#[], by rw [Yc (Za0 q hn), q]; simp⟩
theorem Un.write (mu : Mut (H x)) (he : e = x ∨ H e = some (.own x)) (k : ∀ b u, b ≠ e → h.get? b = some u → h'.get? b = some u) (heo : ∃ u, h'.get? e = some u) : Un fs ex H (upd H x o) h h' := by
  have hx : ∀ b, H b = none → b ≠ x := fun b n z => by subst z; rw [n] at mu; exact mu
  have hb : ∀ b, H b = none → b ≠ e := fun b n z => by
    subst z
    rcases he with r | r
    · exact hx b n r
    · rw [n] at r; cases r
  have hm : ∀ b u, H b = some u → ¬ Mut (some u) → b ≠ x := fun b u q nm z => by subst z; rw [q] at mu; exact nm mu
  refine ⟨fun b u q n _ _ => k b u (hb b n) q, fun b u q n _ _ => ⟨u.slots, k b u (hb b n) q⟩, fun b u q n _ => by rw [Yc (hx b n)]; exact n, fun b u q _ => ?_,
    fun b xs q => by rw [Yc (hm b _ q fun z => z)]; exact q, fun b u xs q => by rw [Yc (hm b _ q fun z => z)]; exact q, fun b ps q => ⟨#[], by rw [Yc (hm b _ q fun z => z), q]; simp⟩⟩
  by_cases hbe : b = e
  · subst hbe; exact heo
  · exact ⟨u, k b u hbe q⟩
end
noncomputable def trk (h : Heap) (H : Hp) : List Addr := (List.range h.objs.size).filter fun a => (H a).isSome
noncomputable def Zrq (h : Heap) (H : Hp) : Heap := PySem.W.hideAll h (trk h H)
theorem Zn4 (h : Heap) (H : Hp) : (Zrq h H).objs.size = h.objs.size := PySem.W.hideAll_size _ _
theorem Zq8 {h : Heap} {H : Hp} {b : Addr} {o : Obj} (e : h.get? b = some o) (n : H b = none) : (Zrq h H).get? b = some o :=
  PySem.W.hideAll_get _ e fun hm => by
    have q : (H b).isSome = true := (List.mem_filter.mp hm).2
    rw [n] at q; simp at q
theorem Zu6 {h : Heap} {H : Hp} {b : Addr} {o : Obj} (e : (Zrq h H).get? b = some o) : h.get? b = some o ∧ H b = none := by
  have e' : h.get? b = some o := PySem.W.of_hideAll (trk h H) e
  refine ⟨e', ?_⟩
  cases q : H b with
  | none => rfl
  | some x =>
    have hm : b ∈ trk h H := List.mem_filter.mpr ⟨List.mem_range.mpr (Heap.lt_size e'), by simp [q]⟩
    have z : (Zrq h H).get? b = none := PySem.W.hideAll_none (trk h H) hm
    rw [z] at e; cases e
noncomputable def Zvw (g h : Heap) (L : Addr) : List (Addr × Obj) := (List.range h.objs.size).filterMap fun a => if a = L ∨ (g.get? a).isSome = true then none else (h.get? a).map fun o => (a, o)
noncomputable def rest (g h : Heap) (L d : Addr) : List (Addr × Obj) := (Zvw g h L).filter fun p => decide (p.1 ≠ d)
end L2
namespace L2
open PySem PySem.Spec PyProof.Rows
structure Mod (K : PySem.W.Frag) (mg : Str → Option Value) (base : Heap) : Prop where
  kin : K.In base
  glob : base.Ns mainGlobals mg
  blt : ∃ mb, base.Ns builtinsNs mb ∧ ∀ x : Str, x ≠ "__name__" → mb x = bootBuiltins x
  nolimit : base.NoLimit
set_option genInjectivity false in
structure Cx where
  prog : Program
  w : World
  K : PySem.W.Frag
  mg : Str → Option Value
  base : Heap
  A : Around
  N : List Str
  s₀ : Shared
  H₀ : Hp
  env : Env
  outer : List Env
  stack : List Env
  ex : List Addr
  fn : Str → Bool
  calm : Bool
  pn : List (Addr × Obj)
  xe : Value → Shared → Prop
noncomputable def frs (l : List Env) : List Addr := l.filterMap (·.frame)
noncomputable abbrev Cx.fs (X : Cx) : List Addr := frs X.outer
noncomputable def Vis (sc : Scope) (x : Str) : Prop := sc.names.lookup x = some .local ∨ sc.names.lookup x = some .cell ∨ sc.names.lookup x = some .free
noncomputable def Loc (sc : Scope) (x : Str) : Prop := sc.names.lookup x = some .local ∨ sc.names.lookup x = some .cell
noncomputable def Look (env : Env) (h : Heap) (m : Str → Option Value) (x : Str) (u : Value) : Prop :=
  (env.kindOf x = some .local ∧ m x = some u) ∨ ((env.kindOf x = some .cell ∨ env.kindOf x = some .free) ∧ ∃ c, env.cells.lookup x = some c ∧ h.IsCell c (some u))
structure Cx.Ok (X : Cx) : Prop where
  mod : Mod X.K X.mg X.base
  kind : X.env.scope.kind = .function
  glob : X.env.globals = mainGlobals
  blt : X.env.builtins = builtinsNs
  above : X.s₀.heap.objs.size ≤ X.env.locals
  inj : ∀ x y c, X.env.cells.lookup x = some c → X.env.cells.lookup y = some c → x = y
  has : ∀ x, (X.env.kindOf x = some .cell ∨ X.env.kindOf x = some .free) → ∃ c, X.env.cells.lookup x = some c
  cab : ∀ x c, X.fn x = true → X.env.cells.lookup x = some c → X.s₀.heap.objs.size ≤ c
  hd : X.calm = true → X.A.handled = none
  frames : X.A.frames = some X.stack
  stk : X.stack = X.outer ∨ (X.stack = X.env :: X.outer ∧ X.env.frame = some X.env.locals)
  exf : ∀ b ∈ X.ex, b ≠ X.env.locals ∧ ∀ x c, X.env.cells.lookup x = some c → c ≠ b
  bs : ∀ b o, X.base.get? b = some o → X.s₀.heap.get? b = some o ∧ X.H₀ b = none
  bsz : X.base.objs.size ≤ X.s₀.heap.objs.size
  noex : ∀ b o, X.base.get? b = some o → b ∉ X.ex
  exfs : ∀ b ∈ X.ex, b ∉ X.fs
  funs : X.s₀.heap.FunFrames X.base X.outer
  frf : ∀ b ∈ X.fs, X.H₀ b = none
structure Inv (X : Cx) (pins : List (Addr × Obj)) (σ : List (Option V)) (H : Hp) (s : Shared) : Prop where
  ok : X.Ok
  os : s.os = X.s₀.os
  bare : AllBare s.gens
  base : Un X.fs X.ex X.H₀ H X.s₀.heap s.heap
  loc : ∃ m, s.heap.Ns X.env.locals m ∧ ∀ (i : Nat) (x : Str) (v : V), X.N[i]? = some x → σ[i]? = some (some v) → Vis X.env.scope x → ∃ u, RelV v u ∧ Look X.env s.heap m x u
  cell : ∀ x c, X.env.cells.lookup x = some c → ∃ v, s.heap.IsCell c v
  free : H X.env.locals = none
  freeC : ∀ x c, X.env.cells.lookup x = some c → H c = none
  pin : ∀ p ∈ X.pn ++ pins, s.heap.get? p.1 = some p.2 ∧ H p.1 = none ∧ p.1 ≠ X.env.locals ∧ p.1 ∉ X.fs ∧ ∀ v, p.2.data ≠ .cell v
  hok : HOk X.prog X.w H s.heap
  len : σ.length = X.N.length
section
variable {X : Cx} {pins : List (Addr × Obj)} {σ : List (Option V)} {H H' : Hp} {s : Shared} {h' : Heap}
theorem Cx.Ok.nofr (ok : X.Ok) {b : Addr} {o : Obj} (e : X.base.get? b = some o) : b ∉ X.fs := fun hb => by
  have := (ok.funs.mem hb).1
  rw [e] at this; cases this
theorem Inv.bs (I : Inv X pins σ H s) : ∀ b o, X.base.get? b = some o → s.heap.get? b = some o ∧ H b = none := fun b o e =>
  ⟨I.base.keep b o (I.ok.bs b o e).1 (I.ok.bs b o e).2 (I.ok.nofr e) (I.ok.noex b o e), I.base.free b o (I.ok.bs b o e).1 (I.ok.bs b o e).2 (I.ok.noex b o e)⟩
theorem Inv.bk (I : Inv X pins σ H s) : ∀ b o, X.base.get? b = some o → s.heap.get? b = some o := fun b o e => (I.bs b o e).1
theorem Inv.mod (I : Inv X pins σ H s) : Mod X.K X.mg X.base := I.ok.mod
theorem Inv.kIn (I : Inv X pins σ H s) : X.K.In s.heap := I.ok.mod.kin.keeps I.bk
theorem Inv.lt (I : Inv X pins σ H s) : X.env.locals < s.heap.objs.size := let ⟨_, hn, _⟩ := I.loc; hn.lt
theorem Inv.sz (I : Inv X pins σ H s) : X.s₀.heap.objs.size ≤ s.heap.objs.size := Nat.le_trans I.ok.above (Nat.le_of_lt I.lt)
theorem Inv.nofs (I : Inv X pins σ H s) {a : Addr} (h : s.heap.objs.size ≤ a) : a ∉ X.fs := fun hb => by
  obtain ⟨_, o, ho, _⟩ := I.ok.funs.mem hb
  exact absurd (Nat.lt_of_lt_of_le (Heap.lt_size ho) (Nat.le_trans I.sz h)) (Nat.lt_irrefl _)
theorem Inv.cne (I : Inv X pins σ H s) : ∀ x c, X.env.cells.lookup x = some c → c ≠ X.env.locals := fun x c e z => by
  obtain ⟨v, o, ho, hd⟩ := I.cell x c e
  obtain ⟨m, ⟨o', es, ep, ho', hd', _⟩, _⟩ := I.loc
  rw [z, ho'] at ho; cases ho; rw [hd'] at hd; cases hd
theorem Inv.funs (I : Inv X pins σ H s) : s.heap.FunFrames X.base X.outer := by
  have all : ∀ (l : List Env), (∀ b ∈ frs l, b ∈ X.fs) → X.s₀.heap.FunFrames X.base l → s.heap.FunFrames X.base l := by
    intro l
    induction l with
    | nil => intro _ _; trivial
    | cons env r ih =>
      intro hs hl
      obtain ⟨hk, ⟨L, o, hf, hn, ho, hd⟩, hr⟩ := hl
      have hL : L ∈ X.fs := hs L (by unfold frs; rw [List.filterMap_cons, hf]; exact List.mem_cons_self)
      obtain ⟨sl, e⟩ := I.base.slot L o ho (I.ok.frf L hL) hL fun z => I.ok.exfs L z hL
      exact ⟨hk, ⟨L, _, hf, hn, e, hd⟩, ih (fun b hb => hs b (by unfold frs; rw [List.filterMap_cons, hf]; exact List.mem_cons_of_mem _ hb)) hr⟩
  exact all X.outer (fun _ hb => hb) I.ok.funs
theorem Inv.stack (I : Inv X pins σ H s) : s.heap.FunFrames X.base X.stack := by
  rcases I.ok.stk with e | ⟨e, hf⟩
  · rw [e]; exact I.funs
  · rw [e]
    obtain ⟨m, hn, _⟩ := I.loc
    refine .cons (by rw [I.ok.kind]; decide) hf hn ?_ I.funs
    exact Heap.get?_none_of_le (Nat.le_trans I.ok.bsz I.ok.above)
theorem Inv.stkSub (I : Inv X pins σ H s) : ∀ b ∈ frs X.stack, b ∈ X.env.locals :: X.fs := fun b hb => by
  rcases I.ok.stk with e | ⟨e, hf⟩
  · rw [e] at hb; exact List.mem_cons_of_mem _ hb
  · rw [e] at hb
    unfold frs at hb
    rw [List.filterMap_cons, hf] at hb
    exact hb
theorem Inv.stkFree (I : Inv X pins σ H s) : ∀ b ∈ frs X.stack, H b = none := fun b hb => by
  rcases List.mem_cons.mp (I.stkSub b hb) with e | hb
  · rw [e]; exact I.free
  · obtain ⟨_, o, ho, _⟩ := I.ok.funs.mem hb
    exact I.base.free b o ho (I.ok.frf b hb) fun z => I.ok.exfs b z hb
theorem Inv.step {g' : Array GenState} {t' : Nat} {d' : Drawn} {ch : List Addr} (I : Inv X pins σ H s)
    (hch : ∀ b ∈ ch, (b ∈ X.ex ∨ X.s₀.heap.objs.size ≤ b) ∧ b ≠ X.env.locals ∧ (∀ x c, X.env.cells.lookup x = some c → c ≠ b) ∧ ∀ p ∈ X.pn ++ pins, p.1 ≠ b)
    (keep : ∀ b o, b ≠ X.env.locals → b ∉ X.fs → b ∉ ch → s.heap.get? b = some o → H b = none → h'.get? b = some o)
    (slot : ∀ b o, b ≠ X.env.locals → b ∈ X.fs → b ∉ ch → s.heap.get? b = some o → H b = none → ∃ sl, h'.get? b = some { o with slots := sl }) (free : ∀ b o, b ∉ ch → s.heap.get? b = some o → H b = none → H' b = none)
    (there : ∀ b o, b ∉ ch → s.heap.get? b = some o → ∃ o', h'.get? b = some o')
    (tups : ∀ b xs, H b = some (.tup xs) → H' b = some (.tup xs)) (frzs : ∀ b o u, H b = some (.frz o u) → H' b = some (.frz o u)) (tbls : ∀ b ps, H b = some (.tbl ps) → ∃ more, H' b = some (.tbl (ps ++ more)))
    (ns : ∀ m, s.heap.Ns X.env.locals m → h'.Ns X.env.locals m) (hok : HOk X.prog X.w H' h') (hg : AllBare g') :
    Inv X pins σ H' { s with heap := h', gens := g', drawn := d', toks := t' } := by
  have neL : ∀ b o, X.s₀.heap.get? b = some o → b ≠ X.env.locals := fun b o e => Nat.ne_of_lt (Nat.lt_of_lt_of_le (Heap.lt_size e) I.ok.above)
  have neC : ∀ b o, X.s₀.heap.get? b = some o → b ∉ X.ex → b ∉ ch := fun b o e hx hb => by
    rcases (hch b hb).1 with z | z
    · exact hx z
    · exact absurd (Nat.lt_of_lt_of_le (Heap.lt_size e) z) (Nat.lt_irrefl _)
  have cellK : ∀ x c, X.env.cells.lookup x = some c → ∀ v, s.heap.IsCell c v → h'.IsCell c v := fun x c e v ⟨o, ho, hd⟩ => by
    have nch : c ∉ ch := fun z => (hch c z).2.2.1 x c e rfl
    by_cases hc : c ∈ X.fs
    · obtain ⟨sl, q⟩ := slot c o (I.cne x c e) hc nch ho (I.freeC x c e)
      exact ⟨_, q, hd⟩
    · exact ⟨o, keep c o (I.cne x c e) hc nch ho (I.freeC x c e), hd⟩
  refine ⟨I.ok, I.os, hg, ⟨fun b o e n hb hx => ?_, fun b o e n hb hx => ?_, fun b o e n hx => ?_, fun b o e hx => ?_, fun b xs e => tups b xs (I.base.tups b xs e), fun b o xs e => frzs b o xs (I.base.frzs b o xs e), fun b ps e => ?_⟩, ?_, fun x c e => ?_, ?_, fun x c e => ?_, fun p hp => ?_, hok, I.len⟩
  · exact keep b o (neL b o e) hb (neC b o e hx) (I.base.keep b o e n hb hx) (I.base.free b o e n hx)
  · obtain ⟨sl, e1⟩ := I.base.slot b o e n hb hx
    obtain ⟨sl', e2⟩ := slot b _ (neL b o e) hb (neC b o e hx) e1 (I.base.free b o e n hx)
    exact ⟨sl', e2⟩
  · obtain ⟨o', e1⟩ := I.base.there b o e hx
    exact free b o' (neC b o e hx) e1 (I.base.free b o e n hx)
  · obtain ⟨o', e1⟩ := I.base.there b o e hx
    exact there b o' (neC b o e hx) e1
  · obtain ⟨m1, e1⟩ := I.base.tbls b ps e
    obtain ⟨m2, e2⟩ := tbls b _ e1
    exact ⟨m1 ++ m2, by rw [e2, Array.append_assoc]⟩
  · obtain ⟨m, hn, hl⟩ := I.loc
    refine ⟨m, ns m hn, fun i x v e1 e2 e3 => ?_⟩
    obtain ⟨u, r, l⟩ := hl i x v e1 e2 e3
    refine ⟨u, r, ?_⟩
    rcases l with l | ⟨k, c, e, z⟩
    · exact .inl l
    · exact .inr ⟨k, c, e, cellK x c e _ z⟩
  · obtain ⟨v, z⟩ := I.cell x c e
    exact ⟨v, cellK x c e v z⟩
  · obtain ⟨m, ⟨o, _, _, ho, _⟩, _⟩ := I.loc
    exact free _ o (fun z => (hch _ z).2.1 rfl) ho I.free
  · obtain ⟨v, o, ho, hd⟩ := I.cell x c e
    exact free c o (fun z => (hch c z).2.2.1 x c e rfl) ho (I.freeC x c e)
  · obtain ⟨e, n, ne, nf, d⟩ := I.pin p hp
    have nch : p.1 ∉ ch := fun z => (hch p.1 z).2.2.2 p hp rfl
    exact ⟨keep p.1 p.2 ne nf nch e n, free p.1 p.2 nch e n, ne, nf, d⟩
theorem Inv.un {t' : Nat} (I : Inv X pins σ H s) (u : Un X.fs [] H H' s.heap h') (hok : HOk X.prog X.w H' h') : Inv X pins σ H' { s with heap := h', toks := t' } := by
  obtain ⟨m, ⟨o, es, ep, ho, r⟩, _⟩ := id I.loc
  obtain ⟨sl, hL⟩ := u.any ho I.free (by simp)
  exact I.step (g' := s.gens) (d' := s.drawn) (ch := []) (fun _ z => nomatch z) (fun b o _ hb _ e n => u.keep b o e n hb (by simp)) (fun b o _ hb _ e n => u.slot b o e n hb (by simp)) (fun b o _ e n => u.free b o e n (by simp)) (fun b o _ e => u.there b o e (by simp)) u.tups u.frzs u.tbls (fun m' hm => by
    obtain ⟨o', es', ep', ho', r'⟩ := hm
    rw [ho] at ho'; cases ho'
    exact ⟨_, es', ep', hL, r'⟩) hok I.bare
theorem Inv.call {g' : Array GenState} {t' : Nat} {d' : Drawn} {ch : List Addr} (I : Inv X pins σ H s) (u : Un (frs X.stack) ch H H' s.heap h') (hok : HOk X.prog X.w H' h') (hg : AllBare g')
    (hch : ∀ b ∈ ch, (b ∈ X.ex ∨ X.s₀.heap.objs.size ≤ b) ∧ b ≠ X.env.locals ∧ (∀ x c, X.env.cells.lookup x = some c → c ≠ b) ∧ ∀ p ∈ X.pn ++ pins, p.1 ≠ b) :
    Inv X pins σ H' { s with heap := h', gens := g', drawn := d', toks := t' } := by
  obtain ⟨m, ⟨o, es, ep, ho, r⟩, _⟩ := id I.loc
  obtain ⟨sl, hL⟩ := u.any ho I.free fun z => (hch _ z).2.1 rfl
  exact I.step (ch := ch) hch (fun b o hL hb hc e n => u.keep b o e n (fun z => (List.mem_cons.mp (I.stkSub b z)).elim hL hb) hc) (fun b o _ _ hc e n => u.any e n hc) (fun b o hc e n => u.free b o e n hc) (fun b o hc e => u.there b o e hc) u.tups u.frzs u.tbls (fun m' hm => by
    obtain ⟨o', es', ep', ho', r'⟩ := hm
    rw [ho] at ho'; cases ho'
    exact ⟨_, es', ep', hL, r'⟩) hok hg
theorem Inv.turned {t' : Nat} {it : Addr} (I : Inv X pins σ H s) (k : ∀ b o, b ≠ it → s.heap.get? b = some o → h'.get? b = some o) (hn : H it = none) (hL : it ≠ X.env.locals)
    (h1 : it ∈ X.ex ∨ X.s₀.heap.objs.size ≤ it) (h2 : ∀ x c, X.env.cells.lookup x = some c → c ≠ it) (h3 : ∀ p ∈ X.pn ++ pins, p.1 ≠ it) : Inv X pins σ H { s with heap := h', toks := t' } := by
  have nit : ∀ b u, H b = some u → b ≠ it := fun b u e z => by rw [z, hn] at e; cases e
  refine I.step (g' := s.gens) (d' := s.drawn) (ch := [it]) (fun b hb => ?_) (fun b o _ _ hc e _ => k b o (fun z => hc (by simp [z])) e) (fun b o _ _ hc e _ => ⟨o.slots, k b o (fun z => hc (by simp [z])) e⟩) (fun _ _ _ _ n => n)
    (fun b o hc e => ⟨o, k b o (fun z => hc (by simp [z])) e⟩) (fun _ _ e => e) (fun _ _ _ e => e) (fun b ps e => ⟨#[], by rw [e]; simp⟩) (fun m hm => ?_) (fun b u e => ?_) I.bare
  · have e : b = it := by simpa using hb
    subst e
    exact ⟨h1, hL, h2, h3⟩
  · obtain ⟨o, es, ep, ho, r⟩ := hm
    exact ⟨o, es, ep, k _ o (Ne.symm hL) ho, r⟩
  · refine (I.hok b u e).stay (fun c v hc q => k c v ?_ q) (fun _ q => q) fun _ _ q => q
    rcases hc with z | z
    · rw [z]; exact nit b u e
    · exact nit c _ z
theorem Inv.tok (I : Inv X pins σ H s) (t : Nat) : Inv X pins σ H { s with toks := t } := I.un (h' := s.heap) (t' := t) Un.refl I.hok
theorem Inv.kept {t' : Nat} (I : Inv X pins σ H s) (k : ∀ b u, s.heap.get? b = some u → h'.get? b = some u) : Inv X pins σ H { s with heap := h', toks := t' } := I.un (Un.kept k) (I.hok.kept k)
theorem Inv.laid {a : Addr} {o : HO} {t' : Nat} (I : Inv X pins σ H s) (k : ∀ b u, s.heap.get? b = some u → h'.get? b = some u) (hp : s.heap.objs.size ≤ a) (new : ObjOk X.prog X.w (upd H a o) h' a o) :
    Inv X pins σ (upd H a o) { s with heap := h', toks := t' } := I.un (Un.laid k hp (I.hok.fresh hp)) (I.hok.laid k hp new)
theorem Inv.write {x e : Addr} {o : HO} {t' : Nat} (I : Inv X pins σ H s) (mu : Mut (H x)) (he : e = x ∨ H e = some (.own x)) (k : ∀ b u, b ≠ e → s.heap.get? b = some u → h'.get? b = some u) (heo : ∃ u, h'.get? e = some u)
    (new : ObjOk X.prog X.w (upd H x o) h' x o) : Inv X pins σ (upd H x o) { s with heap := h', toks := t' } := I.un (Un.write mu he k heo) (I.hok.write mu he k heo new)
theorem Inv.pins_of {pins' : List (Addr × Obj)} (I : Inv X pins σ H s) (h : ∀ p ∈ pins', s.heap.get? p.1 = some p.2 ∧ H p.1 = none ∧ p.1 ≠ X.env.locals ∧ p.1 ∉ X.fs ∧ ∀ v, p.2.data ≠ .cell v) : Inv X pins' σ H s :=
  ⟨I.ok, I.os, I.bare, I.base, I.loc, I.cell, I.free, I.freeC, fun p hp => (List.mem_append.mp hp).elim (fun z => I.pin p (List.mem_append_left _ z)) (h p), I.hok, I.len⟩
theorem Zlu {N : List Str} (hN : N.Nodup) {i j : Nat} {x : Str} (a : N[i]? = some x) (b : N[j]? = some x) : i = j := by
  obtain ⟨h1, e1⟩ := List.getElem?_eq_some_iff.mp a
  obtain ⟨h2, e2⟩ := List.getElem?_eq_some_iff.mp b
  exact (List.getElem_inj hN).mp (e1.trans e2.symm)
theorem Zi6 {M : Model} {A : Around} {E : Value → Shared → Prop} {i : Nat} {x : Str} {v : V} {u : Value} {Q : Unit → Shared → Prop} (I : Inv X pins σ H s) (hN : X.N.Nodup) (hi : X.N[i]? = some x) (hx : Loc X.env.scope x) (r : RelV v u)
    (h : ∀ s', Inv X pins (σ.set i (some v)) H s' → (∃ a, Heap.SameBut a s.heap s'.heap ∧ (a = X.env.locals ∨ X.env.cells.lookup x = some a)) → Q () s') (hf : X.fn x = true ∨ X.env.scope.names.lookup x = some .local := by first | exact .inl rfl | exact .inr rfl | assumption) : wpAny M A (storeName X.env x u) Q E s := by
  obtain ⟨m, hn, hl⟩ := id I.loc
  have hcls : (X.env.scope.kind == .class || (X.env.scope.kind == .module && X.env.locals != X.env.globals)) = false := by rw [I.ok.kind]; rfl
  have hiσ : i < σ.length := by rw [I.len]; exact (List.getElem?_eq_some_iff.mp hi).1
  have cne := I.cne
  have tracked : ∀ {a : Addr} {h' : Heap}, (∃ o, s.heap.get? a = some o ∧ H a = none) → Heap.SameBut a s.heap h' → HOk X.prog X.w H h' := fun {a h'} ha hs b ob e => by
    obtain ⟨_, _, hfree⟩ := ha
    refine (I.hok b ob e).stay (fun c w' hc q => (hs.2 c ?_).trans q) (fun _ q => q) fun _ _ q => q
    rintro rfl
    rcases hc with rfl | hc
    · rw [hfree] at e; cases e
    · rw [hfree] at hc; cases hc
  rcases hx with hk | hk
  · refine wpAny_storeName_local hk hn (fun h' hn' hs => ?_) hcls
    obtain ⟨oL, _, _, hoL, _⟩ := id hn
    refine h _ ⟨I.ok, I.os, I.bare, ⟨fun b o e n hb hx => ?_, fun b o e n hb hx => ?_, I.base.free, fun b o e hx => ?_, I.base.tups, I.base.frzs, I.base.tbls⟩, ⟨_, hn', fun j y v' e1 e2 e3 => ?_⟩, fun y c e => ?_, I.free, I.freeC, fun p hp => ?_, tracked ⟨oL, hoL, I.free⟩ hs, by simpa using I.len⟩ ⟨_, hs, .inl rfl⟩
    · exact (hs.2 b (Nat.ne_of_lt (Nat.lt_of_lt_of_le (Heap.lt_size e) I.ok.above))).trans (I.base.keep b o e n hb hx)
    · obtain ⟨sl, e1⟩ := I.base.slot b o e n hb hx
      exact ⟨sl, (hs.2 b (Nat.ne_of_lt (Nat.lt_of_lt_of_le (Heap.lt_size e) I.ok.above))).trans e1⟩
    · obtain ⟨o', e1⟩ := I.base.there b o e hx
      exact ⟨o', (hs.2 b (Nat.ne_of_lt (Nat.lt_of_lt_of_le (Heap.lt_size e) I.ok.above))).trans e1⟩
    · by_cases hj : j = i
      · subst hj
        rw [hi] at e1; cases e1
        rw [List.getElem?_set_self hiσ] at e2
        cases e2
        exact ⟨u, r, .inl ⟨hk, by simp⟩⟩
      · rw [List.getElem?_set_ne (Ne.symm hj)] at e2
        obtain ⟨u', r', q⟩ := hl j y v' e1 e2 e3
        refine ⟨u', r', ?_⟩
        rcases q with ⟨k, e⟩ | ⟨k, c, e, z⟩
        · refine .inl ⟨k, ?_⟩
          have : y ≠ x := fun e => hj (Zlu hN e1 (e ▸ hi))
          simp [this, e]
        · exact .inr ⟨k, c, e, z.sameBut hs (cne y c e)⟩
    · obtain ⟨w', z⟩ := I.cell y c e
      exact ⟨w', z.sameBut hs (cne y c e)⟩
    · obtain ⟨e, n, ne, nf, d⟩ := I.pin p hp
      exact ⟨(hs.2 p.1 ne).trans e, n, ne, nf, d⟩
  · have hfn : X.fn x = true := by
      rcases hf with z | z
      · exact z
      · rw [z] at hk; cases hk
    obtain ⟨c, hc⟩ := I.ok.has x (.inl hk)
    obtain ⟨w', z⟩ := I.cell x c hc
    refine wpAny_storeName_cell I.ok.kind hk hc z (fun h' hc' hs => ?_)
    obtain ⟨oc, hoc, hocd⟩ := id z
    refine h { s with heap := h' } ⟨I.ok, I.os, I.bare, ⟨fun b o e n hb hx => ?_, fun b o e n hb hx => ?_, I.base.free, fun b o e hx => ?_, I.base.tups, I.base.frzs, I.base.tbls⟩, ⟨m, hn.sameBut hs (Ne.symm (cne x c hc)), fun j y v' e1 e2 e3 => ?_⟩, fun y c' e => ?_, I.free, I.freeC, fun p hp => ?_, tracked ⟨oc, hoc, I.freeC x c hc⟩ hs, by simpa using I.len⟩ ⟨c, hs, .inr hc⟩
    · exact (hs.2 b (Nat.ne_of_lt (Nat.lt_of_lt_of_le (Heap.lt_size e) (I.ok.cab x c hfn hc)))).trans (I.base.keep b o e n hb hx)
    · obtain ⟨sl, e1⟩ := I.base.slot b o e n hb hx
      exact ⟨sl, (hs.2 b (Nat.ne_of_lt (Nat.lt_of_lt_of_le (Heap.lt_size e) (I.ok.cab x c hfn hc)))).trans e1⟩
    · obtain ⟨o', e1⟩ := I.base.there b o e hx
      exact ⟨o', (hs.2 b (Nat.ne_of_lt (Nat.lt_of_lt_of_le (Heap.lt_size e) (I.ok.cab x c hfn hc)))).trans e1⟩
    · by_cases hj : j = i
      · subst hj
        rw [hi] at e1; cases e1
        rw [List.getElem?_set_self hiσ] at e2
        cases e2
        exact ⟨u, r, .inr ⟨.inl hk, c, hc, hc'⟩⟩
      · rw [List.getElem?_set_ne (Ne.symm hj)] at e2
        obtain ⟨u', r', q⟩ := hl j y v' e1 e2 e3
        refine ⟨u', r', ?_⟩
        rcases q with q | ⟨k, c', e, z'⟩
        · exact .inl q
        · refine .inr ⟨k, c', e, z'.sameBut hs ?_⟩
          rintro rfl
          exact hj (Zlu hN e1 (I.ok.inj _ _ _ e hc ▸ hi))
    · by_cases hcc : c' = c
      · subst hcc; exact ⟨_, hc'⟩
      · obtain ⟨w2, z2⟩ := I.cell y c' e
        exact ⟨w2, z2.sameBut hs hcc⟩
    · obtain ⟨e, n, ne, nf, d⟩ := I.pin p hp
      refine ⟨(hs.2 p.1 ?_).trans e, n, ne, nf, d⟩
      intro q
      rw [q, hoc] at e
      have q' : oc = p.2 := Option.some.inj e
      exact d w' (by rw [← q']; exact hocd)
theorem Zl3 {M : Model} {A : Around} {E : Value → Shared → Prop} {i : Nat} {x : Str} {v : V} {u : Value} {Q : Unit → Shared → Prop} (I : Inv X pins σ H s) (hN : X.N.Nodup) (hi : X.N[i]? = some x) (hx : Loc X.env.scope x) (r : RelV v u)
    (h : ∀ s', Inv X pins (σ.set i (some v)) H s' → Q () s') (hf : X.fn x = true ∨ X.env.scope.names.lookup x = some .local := by first | exact .inl rfl | exact .inr rfl | assumption) : wpAny M A (storeName X.env x u) Q E s :=
  Zi6 I hN hi hx r (fun s' I' _ => h s' I') hf
theorem Inv.call' {s' : Shared} {ch : List Addr} (I : Inv X pins σ H s) (ho : s'.os = s.os) (u : Un (frs X.stack) ch H H' s.heap s'.heap) (hok : HOk X.prog X.w H' s'.heap) (hg : AllBare s'.gens)
    (hch : ∀ b ∈ ch, (b ∈ X.ex ∨ X.s₀.heap.objs.size ≤ b) ∧ b ≠ X.env.locals ∧ (∀ x c, X.env.cells.lookup x = some c → c ≠ b) ∧ ∀ p ∈ X.pn ++ pins, p.1 ≠ b) : Inv X pins σ H' s' := by
  obtain ⟨h', g', d', t', o'⟩ := s'
  have e : o' = s.os := ho
  subst e
  exact I.call (g' := g') (t' := t') (d' := d') u hok hg hch
end
noncomputable abbrev XK := Value → Option Addr → Hp → Prop
noncomputable abbrev St := List (Option V)
noncomputable abbrev VK := V → Hp → Prop
noncomputable abbrev TE := St → Hp → VK → Prop
noncomputable abbrev TT := St → Hp → (Bool → Hp → Prop) → Prop
noncomputable abbrev TA := St → Hp → (List V → Hp → Prop) → Prop
set_option genInjectivity false in
structure Ends where
  nx : St → Hp → Prop
  rt : VK
  bk : St → Hp → Prop := fun _ _ => False
  ct : St → Hp → Prop := fun _ _ => False
noncomputable abbrev TS := Ends → St → Hp → Prop
noncomputable def EP (X : Cx) (pins : List (Addr × Obj)) (σ : St) (Q : VK) (u : Value) (s' : Shared) : Prop := ∃ v H', Inv X pins σ H' s' ∧ RelV v u ∧ Q v H'
noncomputable def TP (X : Cx) (pins : List (Addr × Obj)) (σ : St) (Q : Bool → Hp → Prop) (b : Bool) (s' : Shared) : Prop := ∃ H', Inv X pins σ H' s' ∧ Q b H'
noncomputable def AP (X : Cx) (pins : List (Addr × Obj)) (σ : St) (Q : List V → Hp → Prop) (us : List Value) (s' : Shared) : Prop := ∃ vs H', Inv X pins σ H' s' ∧ Vals vs us ∧ Q vs H'
noncomputable def SP (X : Cx) (pins : List (Addr × Obj)) (D : Ends) (f : Flow) (s' : Shared) : Prop :=
  match f with
  | .next => ∃ σ' H', Inv X pins σ' H' s' ∧ D.nx σ' H'
  | .brk => ∃ σ' H', Inv X pins σ' H' s' ∧ D.bk σ' H'
  | .cont => ∃ σ' H', Inv X pins σ' H' s' ∧ D.ct σ' H'
  | .ret u => ∃ v σ' H', Inv X pins σ' H' s' ∧ RelV v u ∧ D.rt v H'
noncomputable def PE (X : Cx) (e : Expr) (t : TE) : Prop :=
  ∀ (pins : List (Addr × Obj)) (s : Shared) (σ : St) (H : Hp) (Q : VK), Inv X pins σ H s → t σ H Q → wpAny (model X.prog X.w) X.A (eval e X.env) (EP X pins σ Q) X.xe s
noncomputable def PT (X : Cx) (e : Expr) (t : TT) : Prop :=
  ∀ (pins : List (Addr × Obj)) (s : Shared) (σ : St) (H : Hp) (Q : Bool → Hp → Prop), Inv X pins σ H s → t σ H Q → wpAny (model X.prog X.w) X.A (isTrue e X.env (eval e X.env)) (TP X pins σ Q) X.xe s
noncomputable def PW (X : Cx) (e : Expr) (t : TT) : Prop :=
  ∀ (whole : Sem Value) (pins : List (Addr × Obj)) (s : Shared) (σ : St) (H : Hp) (Q : Bool → Hp → Prop), Inv X pins σ H s → t σ H Q → wpAny (model X.prog X.w) X.A (isTrue e X.env whole) (TP X pins σ Q) X.xe s
theorem PW.pt {X : Cx} {e : Expr} {t : TT} (h : PW X e t) : PT X e t := h _
noncomputable def PA (X : Cx) (es : List Expr) (t : TA) : Prop :=
  ∀ (pos : Pos) (pins : List (Addr × Obj)) (s : Shared) (σ : St) (H : Hp) (Q : List V → Hp → Prop), Inv X pins σ H s → t σ H Q → wpAny (model X.prog X.w) X.A (spliced (backTo pos (starEach es X.env))) (AP X pins σ Q) X.xe s
noncomputable def PS (X : Cx) (st : Stmt) (t : TS) : Prop :=
  ∀ (pins : List (Addr × Obj)) (s : Shared) (σ : St) (H : Hp) (D : Ends), Inv X pins σ H s → t D σ H → wpAny (model X.prog X.w) X.A (exec st X.env) (SP X pins D) X.xe s
noncomputable def PSs (X : Cx) (st : List Stmt) (t : TS) : Prop :=
  ∀ (pins : List (Addr × Obj)) (s : Shared) (σ : St) (H : Hp) (D : Ends), Inv X pins σ H s → t D σ H → wpAny (model X.prog X.w) X.A (execs st X.env) (SP X pins D) X.xe s
theorem thn {α : Type} {t : Sem α} {Q Q' : α → Shared → Prop} {M : Model} {A : Around} {E : Value → Shared → Prop} {s : Shared} (h : wpAny M A t Q E s) (hQ : ∀ a s, Q a s → Q' a s) : wpAny M A t Q' E s := wpAny_mono h hQ fun _ _ x => x
end L2
namespace L2
open PySem PySem.Spec PyProof.Rows
section
variable {X : Cx}
noncomputable def Z5x (i : Nat) : TE := fun σ H Q => ∃ v, σ[i]? = some (some v) ∧ Q v H
noncomputable def tC (v : V) : TE := fun _ H Q => Q v H
theorem Zyv {i : Nat} {x : Str} {pos : Pos} (hN : X.N[i]? = some x) (hv : Vis X.env.scope x) (hd : (x == ("__debug__" : Str)) = false := by decide) (hcd : (x == ("__classdict__" : Str)) = false := by decide) : PE X (.Name x pos) (Z5x i) := by
  intro pins s σ H Q I h
  obtain ⟨v, e, h⟩ := h
  obtain ⟨m, hn, hl⟩ := I.loc
  obtain ⟨u, r, l⟩ := hl i x v hN e hv
  have fin : EP X pins σ Q u s := ⟨v, H, I, r, h⟩
  rcases l with ⟨hk, hm⟩ | ⟨hk, c, hc, hcell⟩
  · exact wpAny_Name (wpAny_loadName_local I.ok.kind hk hn hm fin) hd
  · rcases hk with hk | hk
    · exact wpAny_Name (wpAny_loadName_cell I.ok.kind hk hc hcell fin) hd
    · exact wpAny_Name (wpAny_loadName_free I.ok.kind hk hc hcell fin hcd) hd
theorem Zy5 {i j pos} : PE X (.Constant (.int i) j pos) (tC (.int i)) := fun _ _ _ H _ I h => wpAny_Constant_int ⟨.int i, H, I.tok _, ⟨_, rfl⟩, h⟩
theorem Z2s {b j pos} : PE X (.Constant (.bool b) j pos) (tC (.bl b)) := fun _ _ _ H _ I h => Constant_bool ⟨.bl b, H, I, rfl, h⟩
theorem Zxt {j pos} : PE X (.Constant .none j pos) (tC .non) := fun _ _ _ H _ I h => Constant_none ⟨.non, H, I, rfl, h⟩
noncomputable def Gl (X : Cx) (x : Str) : Prop := X.env.kindOf x = some .globalImplicit
theorem Zk2 {E : Value → Shared → Prop} {pins : List (Addr × Obj)} {s : Shared} {σ : St} {H : Hp} {x : Str} {u : Value} {pos : Pos} {Q : Value → Shared → Prop} (I : Inv X pins σ H s) (hg : Gl X x) (hm : X.mg x = some u) (h : Q u s)
    (hd : (x == ("__debug__" : Str)) = false := by decide) : wpAny (model X.prog X.w) X.A (eval (.Name x pos) X.env) Q E s :=
  Calls.Name_function_global I.ok.kind hg (Calls.loadGlobal_global (by rw [I.ok.glob]; exact I.mod.glob.keeps I.bk) hm h) hd
theorem Ziw {E : Value → Shared → Prop} {pins : List (Addr × Obj)} {s : Shared} {σ : St} {H : Hp} {x : Str} {u : Value} {pos : Pos} {Q : Value → Shared → Prop} (I : Inv X pins σ H s) (hg : Gl X x) (hm : X.mg x = none) (hv : bootBuiltins x = some u) (h : Q u s)
    (hn : x ≠ "__name__" := by decide) (hd : (x == ("__debug__" : Str)) = false := by decide) : wpAny (model X.prog X.w) X.A (eval (.Name x pos) X.env) Q E s := by
  obtain ⟨mb, h1, h2⟩ := I.mod.blt
  exact Calls.Name_function_global I.ok.kind hg (Calls.loadGlobal_builtin (by rw [I.ok.glob]; exact I.mod.glob.keeps I.bk) hm (by rw [I.ok.blt]; exact h1.keeps I.bk) ((h2 x hn).trans hv) h) hd
theorem Zwj {x : Str} {v : V} {u : Value} {pos : Pos} (hg : Gl X x) (hm : X.mg x = none) (hv : bootBuiltins x = some u) (r : RelV v u) (hn : x ≠ "__name__" := by decide) (hd : (x == ("__debug__" : Str)) = false := by decide) : PE X (.Name x pos) (tC v) :=
  fun _ _ _ H _ I h => Ziw I hg hm hv ⟨v, H, I, r, h⟩ hn hd
noncomputable def t2I (ta tb : TE) (k : Int → Int → Hp → Prop) : St → Hp → Prop := fun σ H => ta σ H fun x H1 => tb σ H1 fun y H2 => ∃ i j, x = .int i ∧ y = .int j ∧ k i j H2
variable {a b : Expr} {ta tb : TE} {pos : Pos}
noncomputable def Zxc (p : Int → Int → Bool) (ta tb : TE) : TE := fun σ H Q => t2I ta tb (fun i j H2 => Q (.bl (p i j)) H2) σ H
noncomputable abbrev tLt : TE → TE → TE := Zxc fun i j => decide (i < j)
noncomputable abbrev tLe : TE → TE → TE := Zxc fun i j => decide (i ≤ j)
noncomputable abbrev tGt : TE → TE → TE := Zxc fun i j => decide (j < i)
noncomputable abbrev tGe : TE → TE → TE := Zxc fun i j => decide (j ≤ i)
noncomputable abbrev Z8c : TE → TE → TE := Zxc fun i j => decide (i = j)
noncomputable abbrev Z8b : TE → TE → TE := Zxc fun i j => !decide (i = j)
noncomputable def tB (t : TE) : TT := fun σ H Q => t σ H fun x H1 => ∃ c, x = .bl c ∧ Q c H1
variable {tA tB' : TT} {rest : List Expr}
noncomputable def Z60 (t u : TT) : TT := fun σ H Q => t σ H fun c H1 => if c = true then u σ H1 Q else Q false H1
noncomputable def tOr (t u : TT) : TT := fun σ H Q => t σ H fun c H1 => if c = true then Q true H1 else u σ H1 Q
noncomputable def Z7f (t : TT) : TT := fun σ H Q => t σ H fun c H1 => Q (!c) H1
theorem Zu8 (ha : PT X a tA) : PW X (.BoolOp .And [a] pos) tA := by
  intro wh pins s σ H Q I h
  refine isTrue_and (thn (ha pins s σ H Q I h) fun c s1 e => ?_)
  cases c with
  | true => exact isTrue_and_nil e
  | false => exact e
theorem Zzp (ha : PT X a tA) : PW X (.BoolOp .Or [a] pos) tA := by
  intro wh pins s σ H Q I h
  refine isTrue_or (thn (ha pins s σ H Q I h) fun c s1 e => ?_)
  cases c with
  | false => exact isTrue_or_nil e
  | true => exact e
theorem Zxj (ha : PT X a tA) (hb : PW X (.BoolOp .And (b :: rest) pos) tB') : PW X (.BoolOp .And (a :: b :: rest) pos) (Z60 tA tB') := by
  intro wh pins s σ H Q I h
  refine isTrue_and (thn (ha pins s σ H _ I h) fun c s1 qz9 => ?_)
  obtain ⟨H1, I1, q1⟩ := qz9
  cases c with
  | true => exact hb wh pins s1 σ H1 Q I1 q1
  | false => exact ⟨H1, I1, q1⟩
theorem Z25 (ha : PT X a tA) (hb : PW X (.BoolOp .Or (b :: rest) pos) tB') : PW X (.BoolOp .Or (a :: b :: rest) pos) (tOr tA tB') := by
  intro wh pins s σ H Q I h
  refine isTrue_or (thn (ha pins s σ H _ I h) fun c s1 qz9 => ?_)
  obtain ⟨H1, I1, q1⟩ := qz9
  cases c with
  | true => exact ⟨H1, I1, q1⟩
  | false => exact hb wh pins s1 σ H1 Q I1 q1
theorem Z1h (ha : PT X a tA) : PT X (.UnaryOp .Not a pos) (Z7f tA) := by
  intro pins s σ H Q I h
  exact isTrue_not (ha pins s σ H (fun c H1 => Q (!c) H1) I h)
noncomputable def Z26 (ta tb : TE) : TE := fun σ H Q => ta σ H fun x H1 => ∃ c, x = .bl c ∧ if c = true then tb σ H1 Q else Q (.bl false) H1
noncomputable def Z3r (ta : TE) : TE := fun σ H Q => ta σ H fun x H1 => ∃ c, x = .bl c ∧ Q (.bl (!c)) H1
theorem Zx1 {op} {t : TE} (h : PE X a t) : PE X (.BoolOp op [a] pos) t := fun pins s σ H Q I hw => BoolOp_one (h pins s σ H Q I hw)
theorem Zxo (ha : PE X a ta) (hb : PE X (.BoolOp .And (b :: rest) pos) tb) : PE X (.BoolOp .And (a :: b :: rest) pos) (Z26 ta tb) := by
  intro pins s σ H Q I h
  refine BoolOp_and (thn (ha pins s σ H _ I h) fun v s1 qz9 => ?_)
  obtain ⟨x, H1, I1, r1, q1⟩ := qz9
  obtain ⟨c, rfl, q1⟩ := q1
  cases r1
  refine wpAny_truthy_bool ?_
  cases c with
  | true => exact hb pins s1 σ H1 Q I1 q1
  | false => exact ⟨.bl false, H1, I1, rfl, q1⟩
theorem Zzi (ha : PE X a ta) : PE X (.UnaryOp .Not a pos) (Z3r ta) := by
  intro pins s σ H Q I h
  refine UnaryOp_ (thn (ha pins s σ H _ I h) fun v s1 qz9 => ?_)
  obtain ⟨x, H1, I1, r1, q1⟩ := qz9
  obtain ⟨c, rfl, q1⟩ := q1
  cases r1
  exact not_of (wpAny_truthy_bool ⟨.bl (!c), H1, I1, rfl, q1⟩)
end
end L2
namespace L2
open PySem PySem.Spec PyProof.Rows
noncomputable def SqL (K : PySem.W.Frag) (H : Hp) (a : Addr) (xs : List V) : Prop :=
  Rd H a (.lst xs) ∨
    ∃ (o : Obj) (its : Array Value) (n : Nat), K.lookup a = some o ∧ o.cls = .type "list" ∧ o.dict = none ∧ o.data = .seq its n ∧ its.size ≤ sizeLine ∧ Vals xs its.toList
noncomputable def SqT (K : PySem.W.Frag) (H : Hp) (a : Addr) (xs : List V) : Prop :=
  Rd H a (.tup xs) ∨
    ∃ (o : Obj) (its : Array Value) (n : Nat), K.lookup a = some o ∧ o.cls = .type "tuple" ∧ o.data = .seq its n ∧ its.size ≤ sizeLine ∧ Vals xs its.toList
noncomputable def Z69 : Value → Option V
  | .none => some .non
  | .bool b => some (.bl b)
  | .int i _ => some (.int i)
  | .str x _ => some (.str x)
  | .bytes b _ => some (.byt b)
  | .float b _ => some (.flt b)
  | .ref a => some (.ref a)
  | .type n => some (.ty n)
  | _ => none
theorem RelV.abs {x : V} {u : Value} (r : RelV x u) : Z69 u = some x := by
  cases x with
  | non => cases r; rfl
  | bl _ => cases r; rfl
  | int _ => obtain ⟨t, rfl⟩ := r; rfl
  | str _ => obtain ⟨t, rfl⟩ := r; rfl
  | byt _ => obtain ⟨t, rfl⟩ := r; rfl
  | flt _ => obtain ⟨t, rfl⟩ := r; rfl
  | ref _ => cases r; rfl
  | ty _ => cases r; rfl
theorem RelV.inj {x y : V} {u : Value} (r : RelV x u) (q : RelV y u) : x = y := Option.some.inj (r.abs.symm.trans q.abs)
theorem Vals.inj {xs ys : List V} {us : List Value} (h : Vals xs us) (k : Vals ys us) : xs = ys := by
  induction h generalizing ys with
  | nil => cases k; rfl
  | cons r t ih =>
    cases k with
    | cons r' t' => rw [r.inj r', ih t']
section
variable {X : Cx} {pins : List (Addr × Obj)} {σ : St} {H : Hp} {s : Shared} {a : Addr} {xs ys : List V}
theorem Inv.list (I : Inv X pins σ H s) (h : SqL X.K H a xs) : ∃ its : List Value, Vals xs its ∧ PlainL s.heap a its.toArray ∧ xs.length ≤ sizeLine := by
  rcases h with h | ⟨o, its, n, hk, hc, hd, hs, hz, r⟩
  · obtain ⟨z, its, n, r, e⟩ := h.ok I.hok
    exact ⟨its, r, ⟨_, n, e, rfl, rfl, rfl⟩, z⟩
  · refine ⟨its.toList, r, ⟨o, n, I.kIn a o hk, hc, hd, by simpa using hs⟩, ?_⟩
    have e := r.length
    simp only [Array.length_toList] at e
    omega
theorem Inv.tuple (I : Inv X pins σ H s) (h : SqT X.K H a xs) : ∃ its : List Value, Vals xs its ∧ IsTup s.heap a its.toArray ∧ xs.length ≤ sizeLine := by
  rcases h with h | ⟨o, its, n, hk, hc, hs, hz, r⟩
  · obtain ⟨z, its, r, p⟩ := h.ok I.hok
    exact ⟨its, r, p, z⟩
  · refine ⟨its.toList, r, ⟨o, I.kIn a o hk, hc, n, by simpa using hs⟩, ?_⟩
    have e := r.length
    simp only [Array.length_toList] at e
    omega
theorem Inv.list_inj (I : Inv X pins σ H s) (h : SqL X.K H a xs) (h' : SqL X.K H a ys) : xs = ys := by
  obtain ⟨its, r, ⟨o, n, e, _, _, d⟩, _⟩ := I.list h
  obtain ⟨its', r', ⟨o', n', e', _, _, d'⟩, _⟩ := I.list h'
  rw [e] at e'; cases e'
  rw [d] at d'
  injection d' with d1 _
  have : its = its' := by simpa using congrArg Array.toList d1
  subst this
  exact r.inj r'
end
noncomputable abbrev Cx.wish (X : Cx) (E : Value → Shared → Prop) : Cx := { X with xe := E }
noncomputable abbrev Cx.nox (X : Cx) : Cx := X.wish fun _ _ => False
theorem Cx.Ok.wish {X : Cx} (ok : X.Ok) (E : Value → Shared → Prop) : (X.wish E).Ok :=
  ⟨ok.mod, ok.kind, ok.glob, ok.blt, ok.above, ok.inj, ok.has, ok.cab, ok.hd, ok.frames, ok.stk, ok.exf, ok.bs, ok.bsz, ok.noex, ok.exfs, ok.funs, ok.frf⟩
theorem Cx.Ok.unwish {X : Cx} {E : Value → Shared → Prop} (ok : (X.wish E).Ok) : X.Ok :=
  ⟨ok.mod, ok.kind, ok.glob, ok.blt, ok.above, ok.inj, ok.has, ok.cab, ok.hd, ok.frames, ok.stk, ok.exf, ok.bs, ok.bsz, ok.noex, ok.exfs, ok.funs, ok.frf⟩
section
variable {X : Cx} {pins : List (Addr × Obj)} {σ : St} {H : Hp} {s : Shared} {E : Value → Shared → Prop}
theorem Inv.wish (I : Inv X pins σ H s) (E : Value → Shared → Prop) : Inv (X.wish E) pins σ H s := ⟨I.ok.wish E, I.os, I.bare, I.base, I.loc, I.cell, I.free, I.freeC, I.pin, I.hok, I.len⟩
theorem Inv.unwish (I : Inv (X.wish E) pins σ H s) : Inv X pins σ H s := ⟨I.ok.unwish, I.os, I.bare, I.base, I.loc, I.cell, I.free, I.freeC, I.pin, I.hok, I.len⟩
theorem SP.unwish {D : Ends} {f : Flow} {s' : Shared} (h : SP (X.wish E) pins D f s') : SP X pins D f s' := by
  cases f with
  | next => obtain ⟨σ', H', I, q⟩ := h; exact ⟨σ', H', I.unwish, q⟩
  | brk => obtain ⟨σ', H', I, q⟩ := h; exact ⟨σ', H', I.unwish, q⟩
  | cont => obtain ⟨σ', H', I, q⟩ := h; exact ⟨σ', H', I.unwish, q⟩
  | ret u => obtain ⟨v, σ', H', I, r, q⟩ := h; exact ⟨v, σ', H', I.unwish, r, q⟩
theorem PSs.nox {st : List Stmt} {t : TS} (h : PSs X.nox st t) : PSs X st t := fun pins s σ H D I hw =>
  wpAny_mono (h pins s σ H D (I.wish _) hw) (fun _ _ q => q.unwish) fun _ _ z => False.elim z
end
section
variable {X : Cx} {st : Stmt} {rest : List Stmt} {t u : TS} {e : Expr} {te : TE} {pos : Pos}
noncomputable def Z3n : TS := fun D σ H => D.nx σ H
noncomputable def Z70 (t u : TS) : TS := fun D σ H => t { D with nx := u D } σ H
theorem Zu3 : PSs X [] Z3n := fun _ _ σ H _ I h => wpAny_execs_nil ⟨σ, H, I, h⟩
theorem Zq3 (h1 : PS X st t) (h2 : PSs X rest u) : PSs X (st :: rest) (Z70 t u) := by
  intro pins s σ H D I h
  refine wpAny_execs_cons (thn (h1 pins s σ H { D with nx := u D } I h) fun f s1 q => ?_)
  cases f with
  | next =>
    obtain ⟨σ', H', I', q⟩ := q
    exact h2 pins s1 σ' H' D I' q
  | ret v => exact q
  | brk => exact q
  | cont => exact q
theorem Zvp (h1 : PS X st t) : PSs X [st] t := by
  intro pins s σ H D I h
  refine wpAny_execs_cons (thn (h1 pins s σ H D I h) fun f s1 q => ?_)
  cases f with
  | next => exact wpAny_execs_nil q
  | ret v => exact q
  | brk => exact q
  | cont => exact q
theorem Inv.quiet {pins : List (Addr × Obj)} {σ : St} {H : Hp} {s : Shared} (I : Inv X pins σ H s) : interactive X.env = false := by simp [interactive, I.ok.kind]
noncomputable def Z2z (te : TE) : TS := fun D σ H => te σ H fun _ H1 => D.nx σ H1
theorem Zk7 (he : PE X e te) (hs : swapsWith e none pos.line X.env = pure false := by rfl) : PS X (.Expr e pos) (Z2z te) := by
  intro pins s σ H D I h
  refine wpAny_Expr_any (thn (he pins s σ H _ I h) fun v s1 qz9 => ?_) I.quiet hs
  obtain ⟨x, H1, I1, r1, q1⟩ := qz9
  exact ⟨σ, H1, I1, q1⟩
noncomputable def Z6v (te : TE) : TS := fun D σ H => te σ H D.rt
theorem Ztu (he : PE X e te) : PS X (.Return (some e) pos) (Z6v te) := by
  intro pins s σ H D I h
  refine wpAny_Return_some (thn (he pins s σ H _ I h) fun v s1 qz9 => ?_)
  obtain ⟨x, H1, I1, r1, q1⟩ := qz9
  exact ⟨x, σ, H1, I1, r1, q1⟩
noncomputable def Z77 (c : TT) (t u : TS) : TS := fun D σ H => c σ H fun b H1 => if b = true then t D σ H1 else u D σ H1
theorem Z3u {c : Expr} {a b : List Stmt} {tc : TT} (hc : PT X c tc) (ha : PSs X a t) (hb : PSs X b u) : PS X (.If c a b pos) (Z77 tc t u) := by
  intro pins s σ H D I h
  refine wpAny_If (thn (hc pins s σ H _ I h) fun d s1 qz9 => ?_)
  obtain ⟨H1, I1, q1⟩ := qz9
  cases d with
  | true => exact ha pins s1 σ H1 D I1 q1
  | false => exact hb pins s1 σ H1 D I1 q1
noncomputable def Z08 : TS := fun _ _ _ => False
theorem Zsd : PS X st Z08 := fun _ _ _ _ _ _ h => h.elim
end
noncomputable abbrev TG := V → St → Hp → (St → Hp → Prop) → Prop
noncomputable abbrev TGs := List V → St → Hp → (St → Hp → Prop) → Prop
noncomputable def PG (X : Cx) (target : Expr) (t : TG) : Prop :=
  ∀ (pins : List (Addr × Obj)) (s : Shared) (σ : St) (H : Hp) (v : V) (u : Value) (Q : St → Hp → Prop), Inv X pins σ H s → RelV v u → t v σ H Q →
    wpAny (model X.prog X.w) X.A (assign target X.env u) (fun _ s' => ∃ σ' H', Inv X pins σ' H' s' ∧ Q σ' H') X.xe s
noncomputable def PGs (X : Cx) (ts : List Expr) (t : TGs) : Prop :=
  ∀ (pins : List (Addr × Obj)) (s : Shared) (σ : St) (H : Hp) (vs : List V) (us : List Value) (Q : St → Hp → Prop), Inv X pins σ H s → Vals vs us → t vs σ H Q →
    wpAny (model X.prog X.w) X.A (assignInOrder ((assignEach ts X.env).map (·.2)) us) (fun _ s' => ∃ σ' H', Inv X pins σ' H' s' ∧ Q σ' H') X.xe s
noncomputable abbrev Z3z := V → V → V → Hp → (Hp → Prop) → Prop
noncomputable def Z52 (X : Cx) (t : Z3z) : Prop :=
  ∀ (pins : List (Addr × Obj)) (s : Shared) (σ : St) (H : Hp) (o i v : V) (ov iv u : Value) (Q : Hp → Prop), Inv X pins σ H s → RelV o ov → RelV i iv → RelV v u → t o i v H Q →
    wpAny (model X.prog X.w) X.A (setItem ov iv u) (fun _ s' => ∃ H', Inv X pins σ H' s' ∧ Q H') X.xe s
noncomputable abbrev TIp := V → V → Hp → VK → Prop
section
variable {X : Cx} {pos : Pos}
noncomputable def Zop (i : Nat) : TG := fun v σ H Q => Q (σ.set i (some v)) H
theorem Zwn {i : Nat} {x : Str} (hN : X.N.Nodup) (hi : X.N[i]? = some x) (hx : Loc X.env.scope x) (hf : X.fn x = true ∨ X.env.scope.names.lookup x = some .local := by first | exact .inl rfl | exact .inr rfl | assumption) : PG X (.Name x pos) (Zop i) := by
  intro pins s σ H v u Q I r h
  exact wpAny_assign_Name (Zl3 I hN hi hx r (fun s' I' => ⟨_, H, I', h⟩) hf)
noncomputable def Z76 : TGs := fun vs σ H Q => vs = [] ∧ Q σ H
noncomputable def Z2u (t : TG) (u : TGs) : TGs := fun vs σ H Q => ∃ v r, vs = v :: r ∧ t v σ H fun σ' H' => u r σ' H' Q
theorem Zv6 : PGs X [] Z76 := by
  intro pins s σ H vs us Q I r h
  obtain ⟨e, h⟩ := h
  subst e
  cases r
  exact assignInOrder_nil ⟨σ, H, I, h⟩
theorem Zri {e : Expr} {es : List Expr} {t : TG} {u : TGs} (h1 : PG X e t) (h2 : PGs X es u)
    (hs : (assignEach (e :: es) X.env).map (·.2) = assign e X.env :: (assignEach es X.env).map (·.2) := by rfl) : PGs X (e :: es) (Z2u t u) := by
  intro pins s σ H vs us Q I r h
  obtain ⟨v, vr, e1, h⟩ := h
  subst e1
  cases r with
  | cons r rr =>
    rw [hs]
    refine assignInOrder_cons (thn (h1 pins s σ H _ _ _ I r h) fun _ s1 qz9 => ?_)
    obtain ⟨σ1, H1, I1, q1⟩ := qz9
    exact h2 pins s1 σ1 H1 _ _ Q I1 rr q1
noncomputable def Z7m (K : PySem.W.Frag) (n : Nat) (t : TGs) : TG := fun v σ H Q => ∃ a xs, v = .ref a ∧ SqT K H a xs ∧ xs.length = n ∧ t xs σ H Q
theorem Zxz {es : List Expr} {k : Nat} {t : TGs} {n : Nat} (hc : X.calm = true) (h : PGs X es t)
    (hn : (assignEach es X.env).length = n := by rfl) (hst : (assignEach es X.env).findIdx? (·.1) = none := by rfl) : PG X (.Tuple es k pos) (Z7m X.K n t) := by
  intro pins s σ H v u Q I r hw
  obtain ⟨a, xs, e1, hq, hl, hw⟩ := hw
  subst e1
  cases r
  obtain ⟨its, rv, ht, hz⟩ := I.tuple hq
  refine assign_Tuple_tuple (I.ok.hd hc) ht (by simp [hn, ← hl, rv.length]) hst fun h' hx => ?_
  have I1 : Inv X pins σ H { s with heap := h' } := I.kept (t' := s.toks) fun b o e => hx b o (Nat.ne_of_lt (Heap.lt_size e)) e
  exact h pins _ σ H xs _ Q I1 (by simpa using rv) hw
noncomputable def Z5y (to ti : TE) (t : Z3z) : TG := fun v σ H Q => to σ H fun o H1 => ti σ H1 fun i H2 => t o i v H2 fun H3 => Q σ H3
theorem Zy8 {o i : Expr} {to ti : TE} {t : Z3z} (ho : PE X o to) (hi : PE X i ti) (hs : Z52 X t)
    (ha : ∀ v, assign (.Subscript o i pos) X.env v = (do
      let ov ← holding [v] (eval o X.env)
      let iv ← holding [v, ov] (eval i X.env)
      standAt pos
      holding [v, ov, iv] (setItem ov iv v)
      release [v, ov, iv] []) := by intro _; rfl) : PG X (.Subscript o i pos) (Z5y to ti t) := by
  intro pins s σ H v u Q I r h
  rw [ha]
  refine wpAny_bind (wpAny_holding (thn (ho pins s σ H _ I h) fun ov s1 qz9 => ?_))
  obtain ⟨x, H1, I1, r1, q1⟩ := qz9
  refine wpAny_bind (wpAny_holding (thn (hi pins s1 σ H1 _ I1 q1) fun iv s2 qz9 => ?_))
  obtain ⟨y, H2, I2, r2, q2⟩ := qz9
  refine wpAny_bind (wpAny_standAt (wpAny_bind (wpAny_holding (thn (hs pins s2 σ H2 x y v ov iv u _ I2 r1 r2 r q2) fun _ s3 qz9 => ?_))))
  obtain ⟨H3, I3, q3⟩ := qz9
  exact wpAny_release ⟨σ, H3, I3, q3⟩
noncomputable def Z0i (te : TE) (g : TG) : TS := fun D σ H => te σ H fun x H1 => g x σ H1 D.nx
theorem Ztf {tg e : Expr} {te : TE} {g : TG} (he : PE X e te) (hg : PG X tg g) (hs : swapsWithSole [tg] e pos.line X.env = pure false := by rfl) (hw : swappedStores [tg] e X.env = pure none := by rfl)
    (h1 : (assignEach [tg] X.env).map (·.2) = [assign tg X.env] := by rfl) : PS X (.Assign [tg] e pos) (Z0i te g) := by
  intro pins s σ H D I h
  refine wpAny_Assign_stores (thn (he pins s σ H _ I h) fun v s1 qz9 => ?_) hs hw
  obtain ⟨x, H1, I1, r1, q1⟩ := qz9
  rw [h1]
  exact thn (hg pins s1 σ H1 x v _ I1 r1 q1) fun _ s2 q => q
theorem Zti {i : Nat} {x : Str} {e : Expr} {te : TE} {pos' : Pos} (hN : X.N.Nodup) (hi : X.N[i]? = some x) (hx : Loc X.env.scope x) (he : PE X e te) (hs : swapsWith e (some (.Name x pos')) pos.line X.env = pure false := by rfl) (hf : X.fn x = true ∨ X.env.scope.names.lookup x = some .local := by first | exact .inl rfl | exact .inr rfl | assumption) :
    PS X (.Assign [.Name x pos'] e pos) (Z0i te (Zop i)) := by
  intro pins s σ H D I h
  refine wpAny_Assign_Name (thn (he pins s σ H _ I h) fun v s1 qz9 => ?_) hs
  obtain ⟨y, H1, I1, r1, q1⟩ := qz9
  exact Zl3 I1 hN hi hx r1 (fun s2 I2 => ⟨_, H1, I2, q1⟩) hf
end
section
variable {X : Cx} {pos : Pos}
noncomputable def Zyp (c : TT) (tb : TS) : TS := fun D σ H => ∃ W : Nat → St → Hp → Prop, (∃ m, W m σ H) ∧ ∀ m σ H, W m σ H →
  c σ H fun b H1 => if b = true then ∃ N : St → Hp → Prop, (∀ σ' H', N σ' H' → ∃ m', m' < m ∧ W m' σ' H') ∧ tb { D with nx := N, ct := N, bk := D.nx } σ H1 else D.nx σ H1
theorem Zsn {c : Expr} {body : List Stmt} {tc : TT} {tb : TS} (hp : PassesOwn (model X.prog X.w) X.A X.env X.xe) (hc : PT X c tc) (hb : PSs X body tb) : PS X (.While c body [] pos) (Zyp tc tb) := by
  intro pins s σ H D I h
  obtain ⟨W, ⟨m0, w0⟩, turn⟩ := h
  refine wpAny_While (codeAny_whileLoop (fun n s' => ∃ σ' H', Inv X pins σ' H' s' ∧ W n σ' H') ?_ m0 ⟨σ, H, I, w0⟩)
  rintro n s1 ⟨σ1, H1, I1, w1⟩
  refine wpAny_passesOwn hp (thn (hc pins s1 σ1 H1 _ I1 (turn n σ1 H1 w1)) fun b s2 qz9 => ?_)
  obtain ⟨H2, I2, q2⟩ := qz9
  cases b with
  | true =>
    obtain ⟨N, hN, q2⟩ := q2
    rw [if_pos rfl]
    refine wpAny_passesOwn hp (thn (hb pins s2 σ1 H2 _ I2 q2) fun f s3 q3 => ?_)
    cases f with
    | next =>
      obtain ⟨σ3, H3, I3, n3⟩ := q3
      obtain ⟨m', hm, w3⟩ := hN σ3 H3 n3
      exact ⟨m', hm, σ3, H3, I3, w3⟩
    | cont =>
      obtain ⟨σ3, H3, I3, n3⟩ := q3
      obtain ⟨m', hm, w3⟩ := hN σ3 H3 n3
      exact ⟨m', hm, σ3, H3, I3, w3⟩
    | brk => exact q3
    | ret v => exact q3
  | false =>
    rw [if_neg Bool.false_ne_true]
    exact wpAny_execs_nil ⟨σ1, H2, I2, q2⟩
end
set_option genInjectivity false in
structure It where
  go : Nat → Hp → Prop
  yld : Nat → Hp → V → Hp → Prop
  stop : Nat → Hp → Prop
noncomputable def Zo4 (X : Cx) (pins : List (Addr × Obj)) (H : Hp) (b : Addr) : Prop :=
  H b = none ∧ b ≠ X.env.locals ∧ b ∉ X.fs ∧ (b ∈ X.ex ∨ X.s₀.heap.objs.size ≤ b) ∧ (∀ x c, X.env.cells.lookup x = some c → c ≠ b) ∧ ∀ p ∈ X.pn ++ pins, p.1 ≠ b
theorem Inv.fpOk {X : Cx} {pins : List (Addr × Obj)} {σ : St} {H H' : Hp} {s : Shared} {b : Addr} (I : Inv X pins σ H s) (hb : s.heap.objs.size ≤ b) (hn : H' b = none) : Zo4 X pins H' b := by
  refine ⟨hn, Nat.ne_of_gt (Nat.lt_of_lt_of_le I.lt hb), I.nofs hb, .inr (Nat.le_trans I.sz hb), fun x c e z => ?_, fun p hp z => ?_⟩
  · obtain ⟨v, q⟩ := I.cell x c e
    exact absurd (Nat.lt_of_lt_of_le q.lt (by rw [z]; exact hb)) (Nat.lt_irrefl _)
  · exact absurd (Nat.lt_of_lt_of_le (Heap.lt_size (I.pin p hp).1) (by rw [z]; exact hb)) (Nat.lt_irrefl _)
structure Turn (P : Program) (w : World) (K : PySem.W.Frag) (tg : Expr) (J : It) (fp : List Addr) (it : Addr) (tn : Nat → Heap → Prop) : Prop where
  mem : it ∈ fp
  obj : ∀ i h, tn i h → ∀ b ∈ fp, ∃ o, h.get? b = some o ∧ ∀ v, o.data ≠ .cell v
  keep : ∀ i h h', tn i h → (∀ b ∈ fp, ∀ o, h.get? b = some o → h'.get? b = some o) → tn i h'
  item : ∀ (X : Cx), X.prog = P → X.w = w → X.K = K → X.calm = true → ∀ (i : Nat) (pins : List (Addr × Obj)) (s : Shared) (σ : St) (H : Hp) (E : Value → Shared → Prop), Inv X pins σ H s → (∀ b ∈ fp, Zo4 X pins H b) → tn i s.heap → J.go i H →
    wpAny (model P w) X.A (pyNext (.ref it)) (fun r s1 => ∃ u, r = some u ∧
      wpAny (model P w) X.A (letOwnedTupleGo tg (.ref it) u) (fun _ s2 => ∃ x H', Inv X pins σ H' s2 ∧ RelV x u ∧ J.yld i H x H' ∧ tn (i + 1) s2.heap ∧ ∀ b ∈ fp, H' b = none) E s1) E s
  done : ∀ (X : Cx), X.prog = P → X.w = w → X.K = K → X.calm = true → ∀ (i : Nat) (pins : List (Addr × Obj)) (s : Shared) (σ : St) (H : Hp) (E : Value → Shared → Prop), Inv X pins σ H s → (∀ b ∈ fp, Zo4 X pins H b) → tn i s.heap → J.stop i H →
    wpAny (model P w) X.A (pyNext (.ref it)) (fun r s1 => r = none ∧ Inv X pins σ H s1) E s
  self : ∀ (A : Around) (i : Nat) (s : Shared) (Q : Value → Shared → Prop) (E : Value → Shared → Prop), tn i s.heap → Q (.ref it) s → wpAny (model P w) A (pyIter (.ref it)) Q E s
noncomputable abbrev TI := St → Hp → (It → Hp → Prop) → Prop
noncomputable def PIE (X : Cx) (pins : List (Addr × Obj)) (σ : St) (tg : Expr) (R : It → Hp → Prop) (itv : Value) (s2 : Shared) : Prop :=
  ∃ (it : Addr) (fp : List Addr) (tn : Nat → Heap → Prop) (J : It) (H' : Hp), itv = .ref it ∧ Inv X pins σ H' s2 ∧ Turn X.prog X.w X.K tg J fp it tn ∧ tn 0 s2.heap ∧ (∀ b ∈ fp, Zo4 X pins H' b) ∧ R J H'
noncomputable def PI (X : Cx) (tg iter : Expr) (wi : TI) : Prop :=
  ∀ (pins : List (Addr × Obj)) (s : Shared) (σ : St) (H : Hp) (R : It → Hp → Prop), Inv X pins σ H s → wi σ H R →
    wpAny (model X.prog X.w) X.A (eval iter X.env) (fun v s1 => wpAny (model X.prog X.w) X.A (pyIter v) (PIE X pins σ tg R) X.xe s1) X.xe s
theorem Zye {M : Model} {A : Around} {E : Value → Shared → Prop} {s : Shared} {tg : Expr} {it : Addr} {u : Value} {o : Obj} {n : String} {vs : Array Value} {Q : Unit → Shared → Prop} (ho : s.heap.get? it = some o) (hc : o.cls = .type n) (hd : o.data = .fields vs)
    (hn : ["enumerate", "zip", "dict_itemiterator", "dict_reverseitemiterator", "odict_iterator", "itertools.zip_longest", "itertools.pairwise"].contains n = false) (hQ : Q () s) : wpAny M A (letOwnedTupleGo tg (.ref it) u) Q E s := by
  unfold letOwnedTupleGo
  cases tg <;> first
    | exact wpAny_pure hQ
    | (cases u <;> first
        | exact wpAny_pure hQ
        | (refine wpAny_bind (wpAny_load ho ?_)
           rw [hc, hd]
           show wpAny M A (if (["enumerate", "zip", "dict_itemiterator", "dict_reverseitemiterator", "odict_iterator", "itertools.zip_longest", "itertools.pairwise"].contains n && vs[0]? == some (rawInt _)) = true then _ else _) Q E s
           rw [if_neg (by intro h; rw [hn, Bool.false_and] at h; cases h)]
           exact wpAny_pure hQ))
noncomputable def Itl (K : PySem.W.Frag) (a : Addr) : It :=
  ⟨fun i H => ∃ xs x, SqL K H a xs ∧ xs[i]? = some x, fun i H x H' => H' = H ∧ ∀ xs, SqL K H a xs → xs[i]? = some x, fun i H => ∃ xs, SqL K H a xs ∧ xs.length ≤ i⟩
noncomputable def Itr (lo : Int) (n : Nat) : It := ⟨fun i _ => i < n, fun i H x H' => H' = H ∧ x = .int (lo + i), fun i _ => n ≤ i⟩
theorem Zoi {P : Program} {w : World} {K : PySem.W.Frag} {tg : Expr} (a it : Addr) : Turn P w K tg (Itl K a) [it] it (fun i h => h.IsListIter it a i) where
  mem := by simp
  obj := fun i h st b hb => by
    have e : b = it := by simpa using hb
    subst e
    obtain ⟨o, e, c, d⟩ := st
    exact ⟨o, e, fun v z => by rw [d] at z; cases z⟩
  keep := fun i h h' st k => st.at fun o e => k it (by simp) o e
  item := by
    intro X hP hw hK hc i pins s σ H E I hf st hg
    subst hP hw hK
    obtain ⟨xs, x, hq, hx⟩ := hg
    obtain ⟨its, rv, p, hz⟩ := I.list hq
    obtain ⟨u, hu, ru⟩ := rv.get hx
    obtain ⟨f0, f1, f2, f3, f4, f5⟩ := hf it (by simp)
    refine wpAny_pyNext_list_item st p.isList (x := u) (by simpa using hu) fun h' st' sb => ?_
    have I1 : Inv X pins σ H { s with heap := h' } := I.turned (t' := s.toks) (fun b o hb e => (sb.2 b hb).trans e) f0 f1 f3 f4 f5
    obtain ⟨o, e, c, d⟩ := id st'
    exact ⟨u, rfl, Zye (s := { s with heap := h' }) e c d (by decide) ⟨x, H, I1, ru, ⟨rfl, fun ys hy => by rw [I.list_inj hy hq]; exact hx⟩, st', fun b hb => (hf b hb).1⟩⟩
  done := by
    intro X hP hw hK hc i pins s σ H E I hf st hg
    subst hP hw hK
    obtain ⟨xs, hq, hx⟩ := hg
    obtain ⟨its, rv, p, hz⟩ := I.list hq
    obtain ⟨f0, f1, f2, f3, f4, f5⟩ := hf it (by simp)
    have hl := rv.length
    exact wpAny_pyNext_list_end (I.ok.hd hc) st p.isList (by simp; omega) fun h' eb => ⟨rfl, I.turned (t' := s.toks) (fun b o hb e => eb b o hb e) f0 f1 f3 f4 f5⟩
  self := fun _ _ _ _ _ st h => wpAny_pyIter_listiter st h
theorem Zm1 {P : Program} {w : World} {K : PySem.W.Frag} {tg : Expr} (it : Addr) (lo : Int) (n : Nat) : Turn P w K tg (Itr lo n) [it] it (fun i h => IsRangeIter h it (lo + (i : Nat) * 1) ((n : Int) - (i : Nat)) 1) where
  mem := by simp
  obj := fun i h st b hb => by
    have e : b = it := by simpa using hb
    subst e
    exact ⟨_, st, fun v z => by
      have z' : Data.fields _ = Data.cell v := z
      cases z'⟩
  keep := fun i h h' st k => k it (by simp) _ st
  item := by
    intro X hP hw hK hc i pins s σ H E I hf st hg
    subst hP hw hK
    obtain ⟨f0, f1, f2, f3, f4, f5⟩ := hf it (by simp)
    have W := Walks.range (prog := X.prog) (w := X.w) (I.ok.hd hc) it lo 1 n
    refine W.item i s _ _ hg st fun v h' tk hv st' kk => ?_
    obtain ⟨t, rfl⟩ := hv
    have I1 : Inv X pins σ H { s with heap := h', toks := tk } := I.turned (fun b o hb e => kk b o (by simpa using hb) e) f0 f1 f3 f4 f5
    refine ⟨_, rfl, Zye (s := { s with heap := h', toks := tk }) (n := "range_iterator") st' rfl rfl (by decide) ⟨.int (lo + i), H, I1, ⟨t, ?_⟩, ⟨rfl, rfl⟩, st', fun b hb => (hf b hb).1⟩⟩
    rw [Int.mul_one]
  done := by
    intro X hP hw hK hc i pins s σ H E I hf st hg
    subst hP hw hK
    obtain ⟨f0, f1, f2, f3, f4, f5⟩ := hf it (by simp)
    exact wpAny_pyNext_range_end (I.ok.hd hc) st (by have : n ≤ i := hg; omega) fun h' eb => ⟨rfl, I.turned (t' := s.toks) (fun b o hb e => eb b o hb e) f0 f1 f3 f4 f5⟩
  self := fun _ _ _ _ _ st h => wpAny_pyIter_rangeiter st h
end L2
namespace L2
open PySem PySem.Spec PyProof.Rows
section
variable {X : Cx} {tg : Expr}
noncomputable def Z1f (K : PySem.W.Frag) (tl : TE) : TI := fun σ H R => tl σ H fun x H1 => ∃ a, x = .ref a ∧ (∃ xs, SqL K H1 a xs) ∧ R (Itl K a) H1
theorem Zww {l : Expr} {tl : TE} (hl : PE X l tl) : PI X tg l (Z1f X.K tl) := by
  intro pins s σ H R I h
  refine thn (hl pins s σ H _ I h) fun v s1 qz9 => ?_
  obtain ⟨x, H1, I1, r1, q1⟩ := qz9
  obtain ⟨a, e, ⟨xs, hq⟩, q⟩ := q1
  subst e
  cases r1
  obtain ⟨its, rv, p, hz⟩ := I1.list hq
  refine wpAny_pyIter_list p.isList ?_
  refine ⟨s1.heap.objs.size, [s1.heap.objs.size], _, _, H1, rfl, I1.kept (t' := s1.toks) fun b o e => Heap.get?_push_of_some _ e, Zoi a _, ⟨_, Heap.get?_push_size _ rfl, rfl, rfl⟩, fun b hb => ?_, q⟩
  have e : b = s1.heap.objs.size := by simpa using hb
  subst e
  exact I1.fpOk (Nat.le_refl _) (I1.hok.fresh (Nat.le_refl _))
theorem Zlc {pins : List (Addr × Obj)} {σ : St} {H : Hp} {s : Shared} {R : It → Hp → Prop} {E : Value → Shared → Prop} {lo hi : Int} {t u v : Tok} {tk : Nat} (I : Inv X pins σ H s) (h1 : -(2 ^ 62) ≤ lo) (h2 : lo < 2 ^ 62) (h3 : -(2 ^ 62) ≤ hi) (h4 : hi < 2 ^ 62)
    (q : R (Itr lo (hi - lo).toNat) H) : wpAny (model X.prog X.w) X.A (pyIter (.ref s.heap.objs.size)) (PIE X pins σ tg R) E { s with heap := s.heap.push { cls := .type "range", data := .fields #[.int lo t, .int hi u, .int 1 v] }, toks := tk } := by
  refine wpAny_pyIter_range (IsRange.new ..) (small_one h1 h2 h3 h4) ?_
  have I1 : Inv X pins σ H { s with heap := s.heap.push { cls := .type "range", data := .fields #[.int lo t, .int hi u, .int 1 v] }, toks := tk } := I.kept fun b o e => Heap.get?_push_of_some _ e
  refine ⟨(s.heap.push { cls := .type "range", data := .fields #[.int lo t, .int hi u, .int 1 v] }).objs.size, [(s.heap.push { cls := .type "range", data := .fields #[.int lo t, .int hi u, .int 1 v] }).objs.size], _, _, H, rfl,
    I1.kept (t' := tk) fun b o e => Heap.get?_push_of_some _ e, Zm1 _ lo (hi - lo).toNat, ?_, fun b hb => ?_, q⟩
  · have e1 : lo + ((0 : Nat) : Int) * 1 = lo := by simp
    have e2 : (((hi - lo).toNat : Nat) : Int) - ((0 : Nat) : Int) = Builtin.Range.rangeSize lo hi 1 := by rw [rangeSize_one]; split <;> omega
    show IsRangeIter _ _ (lo + ((0 : Nat) : Int) * 1) ((((hi - lo).toNat : Nat) : Int) - ((0 : Nat) : Int)) 1
    rw [e1, e2]
    exact Heap.get?_push_size _ rfl
  · have e : b = (s.heap.push { cls := .type "range", data := .fields #[.int lo t, .int hi u, .int 1 v] }).objs.size := by simpa using hb
    subst e
    exact I1.fpOk (Nat.le_refl _) (I1.hok.fresh (Nat.le_refl _))
noncomputable def Z2x (ta : TA) : TI := fun σ H R => ta σ H fun vs H1 => ∃ j : Int, vs = [.int j] ∧ -(2 ^ 62) ≤ j ∧ j < 2 ^ 62 ∧ R (Itr 0 j.toNat) H1
noncomputable def Z3v (ta : TA) : TI := fun σ H R => ta σ H fun vs H1 => ∃ i j : Int, vs = [.int i, .int j] ∧ (-(2 ^ 62) ≤ i ∧ i < 2 ^ 62 ∧ -(2 ^ 62) ≤ j ∧ j < 2 ^ 62) ∧ R (Itr i (j - i).toNat) H1
theorem Zp5 {a : Expr} {ta : TA} {p pos : Pos} (hg : Gl X "range") (hm : X.mg "range" = none) (ha : PA X [a] ta) (hs : starEach [a] X.env = [(false, eval a X.env)] := by rfl) : PI X tg (.Call (.Name "range" p) [a] [] pos) (Z2x ta) := by
  intro pins s σ H R I h
  refine Call_ (Ziw I hg hm boot_range (PyProof.Rows.callWith_type1 (thn (ha pos pins s σ H _ I h) fun us s1 qz9 => ?_) hs rfl))
  obtain ⟨vs, H1, I1, r1, q1⟩ := qz9
  obtain ⟨j, e, q1, q2, q⟩ := q1
  subst e
  cases r1 with
  | cons r rr =>
    cases rr
    obtain ⟨t, rfl⟩ := r
    exact call_range_1 (Zlc I1 (by omega) (by omega) q1 q2 (by simpa using q))
theorem Zpk {a b : Expr} {ta : TA} {p pos : Pos} (hg : Gl X "range") (hm : X.mg "range" = none) (ha : PA X [a, b] ta) (hs : starEach [a, b] X.env = [(false, eval a X.env), (false, eval b X.env)] := by rfl) (hs2 : starEach [b] X.env = [(false, eval b X.env)] := by rfl) :
    PI X tg (.Call (.Name "range" p) [a, b] [] pos) (Z3v ta) := by
  intro pins s σ H R I h
  refine Call_ (Ziw I hg hm boot_range (PyProof.Rows.callWith_type1 (thn (ha pos pins s σ H _ I h) fun us s1 ⟨vs, H1, I1, r1, q1⟩ => ?_) (by rw [hs, hs2]) (by rw [hs2]; rfl)))
  obtain ⟨i, j, e, ⟨q1, q2, q3, q4⟩, q⟩ := q1
  subst e
  cases r1 with
  | cons r rr =>
    cases rr with
    | cons r' rr =>
      cases rr
      obtain ⟨t, rfl⟩ := r
      obtain ⟨t', rfl⟩ := r'
      exact call_range_2 (Zlc I1 q1 q2 q3 q4 q)
noncomputable def Z7n (wi : TI) (g : TG) (tb : TS) : TS := fun D σ H => wi σ H fun J H1 => ∃ W : Nat → Nat → St → Hp → Prop, (∃ m, W 0 m σ H1) ∧ ∀ i m σ H, W i m σ H →
  (J.stop i H ∧ D.nx σ H) ∨ (J.go i H ∧ ∃ N : St → Hp → Prop, (∀ σ' H', N σ' H' → ∃ m', m' < m ∧ W (i + 1) m' σ' H') ∧ ∀ x H', J.yld i H x H' → g x σ H' fun σ2 H2 => tb { D with nx := N, ct := N, bk := D.nx } σ2 H2)
noncomputable def Zhc (fp : List Addr) (h : Heap) : List (Addr × Obj) := fp.filterMap fun b => (h.get? b).map fun o => (b, o)
theorem Zay {fp : List Addr} {h : Heap} {b : Addr} {o : Obj} (hb : b ∈ fp) (e : h.get? b = some o) : (b, o) ∈ Zhc fp h := List.mem_filterMap.mpr ⟨b, hb, by rw [e]; rfl⟩
theorem Zpp {fp : List Addr} {h : Heap} {p : Addr × Obj} (hp : p ∈ Zhc fp h) : p.1 ∈ fp ∧ h.get? p.1 = some p.2 := by
  obtain ⟨b, hb, e⟩ := List.mem_filterMap.mp hp
  cases q : h.get? b with
  | none => rw [q] at e; cases e
  | some o =>
    rw [q] at e
    have e' : (b, o) = p := Option.some.inj e
    subst e'
    exact ⟨hb, q⟩
theorem Inv.pinned {pins : List (Addr × Obj)} {σ : St} {H : Hp} {s : Shared} {fp : List Addr} (I : Inv X pins σ H s) (hf : ∀ b ∈ fp, Zo4 X pins H b) (ho : ∀ b ∈ fp, ∃ o, s.heap.get? b = some o ∧ ∀ v, o.data ≠ .cell v) : Inv X (pins ++ Zhc fp s.heap) σ H s :=
  I.pins_of fun p hp => (List.mem_append.mp hp).elim (fun z => I.pin p (List.mem_append_right _ z)) fun z => by
    obtain ⟨hb, e⟩ := Zpp z
    obtain ⟨f0, f1, f2, _⟩ := hf p.1 hb
    obtain ⟨o, e', d⟩ := ho p.1 hb
    rw [e] at e'; cases e'
    exact ⟨e, f0, f1, f2, d⟩
theorem Inv.unpinned {pins pl : List (Addr × Obj)} {σ : St} {H : Hp} {s : Shared} (I : Inv X (pins ++ pl) σ H s) : Inv X pins σ H s := I.pins_of fun p hp => I.pin p (List.mem_append_right _ (List.mem_append_left _ hp))
theorem Z0y {iter : Expr} {body : List Stmt} {wi : TI} {g : TG} {tb : TS} {pos : Pos} (hp : PassesOwn (model X.prog X.w) X.A X.env X.xe) (hc : X.calm = true) (hi : PI X tg iter wi) (hg : PG X tg g) (hb : PSs X body tb)
    (hs : ∀ x, foldedSetIterable iter X.env x = pure x := by intro _; rfl) : PS X (.For tg iter body [] pos) (Z7n wi g tb) := by
  intro pins s σ H D I h
  refine wpAny_For (thn (hi pins s σ H _ I h) fun v s1 h1 => thn h1 fun itv s2 h2 => ?_) hs
  obtain ⟨it, fp, tn, J, H2, e, I2, T, st2, f2, W, ⟨m0, w0⟩, turn⟩ := h2
  subst e
  -- what stays true of the iterator's objects through the loop
  have stat : ∀ {H' : Hp}, (∀ b ∈ fp, H' b = none) → ∀ b ∈ fp, Zo4 X pins H' b := fun hn b hb => ⟨hn b hb, (f2 b hb).2⟩
  refine codeAny_forLoop_any (fun n s' => ∃ i σ' H', Inv X pins σ' H' s' ∧ tn i s'.heap ∧ (∀ b ∈ fp, H' b = none) ∧ W i n σ' H') ?_ m0 ⟨0, σ, H2, I2, st2, fun b hb => (f2 b hb).1, w0⟩
  rintro n s3 ⟨i, σ3, H3, I3, st3, fr3, w3⟩
  rcases turn i n σ3 H3 w3 with ⟨stop, qn⟩ | ⟨go, N, hN, step⟩
  · refine wpAny_passesOwn hp (thn (T.done X rfl rfl rfl hc i pins s3 σ3 H3 X.xe I3 (stat fr3) st3 stop) fun r s4 qz9 => ?_)
    obtain ⟨hr, I4⟩ := qz9
    subst hr
    exact wpAny_execs_nil ⟨σ3, H3, I4, qn⟩
  · refine wpAny_passesOwn hp (thn (T.item X rfl rfl rfl hc i pins s3 σ3 H3 X.xe I3 (stat fr3) st3 go) fun r s4 qz9 => ?_)
    obtain ⟨u, hr, h4⟩ := qz9
    subst hr
    refine wpAny_passesOwn hp (thn h4 fun _ s5 qz9 => ?_)
    obtain ⟨x, H5, I5, r5, y5, st5, fr5⟩ := qz9
    have I5' := I5.pinned (stat fr5) (T.obj _ _ st5)
    refine wpAny_passesOwn hp (thn (hg _ s5 σ3 H5 x u _ I5' r5 (step x H5 y5)) fun _ s6 qz9 => ?_)
    obtain ⟨σ6, H6, I6, q6⟩ := qz9
    refine wpAny_passesOwn hp (thn (hb _ s6 σ6 H6 _ I6 q6) fun f s7 q7 => ?_)
    have again : ∀ {σ7 : St} {H7 : Hp}, Inv X (pins ++ Zhc fp s5.heap) σ7 H7 s7 → N σ7 H7 → ∃ m, m < n ∧ ∃ i σ' H', Inv X pins σ' H' s7 ∧ tn i s7.heap ∧ (∀ b ∈ fp, H' b = none) ∧ W i m σ' H' := fun {σ7 H7} I7 n7 => by
      obtain ⟨m', hm, w7⟩ := hN σ7 H7 n7
      refine ⟨m', hm, i + 1, σ7, H7, I7.unpinned, T.keep _ _ _ st5 fun b hb o e => (I7.pin (b, o) (List.mem_append_right _ (List.mem_append_right _ (Zay hb e)))).1, fun b hb => ?_, w7⟩
      obtain ⟨o, e, d⟩ := T.obj _ _ st5 b hb
      exact (I7.pin (b, o) (List.mem_append_right _ (List.mem_append_right _ (Zay hb e)))).2.1
    cases f with
    | next => obtain ⟨σ7, H7, I7, n7⟩ := q7; exact again I7 n7
    | cont => obtain ⟨σ7, H7, I7, n7⟩ := q7; exact again I7 n7
    | brk => obtain ⟨σ7, H7, I7, q7⟩ := q7; exact ⟨σ7, H7, I7.unpinned, q7⟩
    | ret v => obtain ⟨x7, σ7, H7, I7, r7, q7⟩ := q7; exact ⟨x7, σ7, H7, I7.unpinned, r7, q7⟩
end
end L2
namespace L2
open PySem PySem.Spec PyProof.Rows
noncomputable abbrev R2 := V → V → Hp → VK → Prop
noncomputable def OpR (X : Cx) (f : Value → Value → Sem Value) (r : R2) : Prop :=
  ∀ (pins : List (Addr × Obj)) (s : Shared) (σ : St) (H : Hp) (x y : V) (v u : Value) (Q : VK), Inv X pins σ H s → RelV x v → RelV y u → r x y H Q →
    wpAny (model X.prog X.w) X.A (f v u) (EP X pins σ Q) X.xe s
noncomputable def UnR (X : Cx) (f : Value → Sem Value) (r : V → Hp → VK → Prop) : Prop :=
  ∀ (pins : List (Addr × Obj)) (s : Shared) (σ : St) (H : Hp) (x : V) (v : Value) (Q : VK), Inv X pins σ H s → RelV x v → r x H Q →
    wpAny (model X.prog X.w) X.A (f v) (EP X pins σ Q) X.xe s
noncomputable def Zeo (X : Cx) (f : Value) (r : List V → Hp → VK → Prop) : Prop :=
  ∀ (pins : List (Addr × Obj)) (s : Shared) (σ : St) (H : Hp) (xs : List V) (us : List Value) (Q : VK), Inv X pins σ H s → Vals xs us → r xs H Q →
    wpAny (model X.prog X.w) X.A (call f us) (EP X pins σ Q) X.xe s
noncomputable def Z7o (X : Cx) (r : V → Hp → (Bool → Hp → Prop) → Prop) : Prop :=
  ∀ (pins : List (Addr × Obj)) (s : Shared) (σ : St) (H : Hp) (x : V) (v : Value) (Q : Bool → Hp → Prop), Inv X pins σ H s → RelV x v → r x H Q →
    wpAny (model X.prog X.w) X.A (truthy v) (TP X pins σ Q) X.xe s
noncomputable def tOp (r : R2) (ta tb : TE) : TE := fun σ H Q => ta σ H fun x H1 => tb σ H1 fun y H2 => r x y H2 Q
noncomputable def tUn (r : V → Hp → VK → Prop) (ta : TE) : TE := fun σ H Q => ta σ H fun x H1 => r x H1 Q
noncomputable def rI (C : Int → Int → Prop) (g : Int → Int → V) : R2 := fun x y H Q => ∃ i j, x = .int i ∧ y = .int j ∧ C i j ∧ Q (g i j) H
noncomputable def rI0 (g : Int → Int → V) : R2 := fun x y H Q => ∃ i j, x = .int i ∧ y = .int j ∧ Q (g i j) H
noncomputable def rU (g : Int → V) : V → Hp → VK → Prop := fun x H Q => ∃ i, x = .int i ∧ Q (g i) H
section
variable {X : Cx} {a b c : Expr} {ta tb tc : TE} {pos : Pos}
theorem Z29 (ha : PE X a ta) (hb : PE X b tb) {pins : List (Addr × Obj)} {s : Shared} {σ : St} {H : Hp} {R : V → V → Hp → Prop} (I : Inv X pins σ H s)
    (h : ta σ H fun x H1 => tb σ H1 fun y H2 => R x y H2) {Q : Value → Shared → Prop} {f : Value → Value → Sem Value}
    (hf : ∀ v u s2 x y H2, Inv X pins σ H2 s2 → RelV x v → RelV y u → R x y H2 → wpAny (model X.prog X.w) X.A (f v u) Q X.xe s2) :
    wpAny (model X.prog X.w) X.A (eval a X.env) (fun v s₁ => wpAny (model X.prog X.w) X.A (eval b X.env) (fun u s₂ => wpAny (model X.prog X.w) X.A (f v u) Q X.xe s₂) X.xe s₁) X.xe s := by
  refine thn (ha pins s σ H _ I h) fun v s1 qz9 => ?_
  obtain ⟨x, H1, I1, r1, q1⟩ := qz9
  refine thn (hb pins s1 σ H1 _ I1 q1) fun u s2 qz9 => ?_
  obtain ⟨y, H2, I2, r2, q2⟩ := qz9
  exact hf v u s2 x y H2 I2 r1 r2 q2
theorem Zuy {op : Operator} {r : R2} (ho : OpR X (binaryOp op) r) (ha : PE X a ta) (hb : PE X b tb) : PE X (.BinOp a op b pos) (tOp r ta tb) := by
  intro pins s σ H Q I h
  exact wpAny_BinOp (Z29 ha hb I h fun v u s2 x y H2 I2 rx ry q => ho pins s2 σ H2 x y v u Q I2 rx ry q)
theorem Z21 {op : UnaryOp} {r : V → Hp → VK → Prop} (ho : UnR X (unaryOp op) r) (ha : PE X a ta) : PE X (.UnaryOp op a pos) (tUn r ta) := by
  intro pins s σ H Q I h
  refine UnaryOp_ (thn (ha pins s σ H _ I h) fun v s1 qz9 => ?_)
  obtain ⟨x, H1, I1, r1, q1⟩ := qz9
  exact ho pins s1 σ H1 x v Q I1 r1 q1
theorem opI {f : Value → Value → Sem Value} {C : Int → Int → Prop} {g : Int → Int → Int}
    (rule : ∀ (i j : Int) (t u : Tok) (s : Shared) (Q : Value → Shared → Prop) (E : Value → Shared → Prop), C i j → Q (.int (g i j) s.toks) { s with toks := s.toks + 1 } → wpAny (model X.prog X.w) X.A (f (.int i t) (.int j u)) Q E s) :
    OpR X f (rI C fun i j => .int (g i j)) := by
  intro pins s σ H x y v u Q I rx ry h
  obtain ⟨i, j, rfl, rfl, hc, q⟩ := h
  obtain ⟨t, rfl⟩ := rx
  obtain ⟨t', rfl⟩ := ry
  exact rule i j t t' s _ _ hc ⟨.int (g i j), H, I.tok _, ⟨_, rfl⟩, q⟩
theorem Z5j {f : Value → Value → Sem Value} {g : Int → Int → Int}
    (rule : ∀ (i j : Int) (t u : Tok) (s : Shared) (Q : Value → Shared → Prop) (E : Value → Shared → Prop), Q (.int (g i j) s.toks) { s with toks := s.toks + 1 } → wpAny (model X.prog X.w) X.A (f (.int i t) (.int j u)) Q E s) :
    OpR X f (rI0 fun i j => .int (g i j)) := by
  intro pins s σ H x y v u Q I rx ry h
  obtain ⟨i, j, rfl, rfl, q⟩ := h
  obtain ⟨t, rfl⟩ := rx
  obtain ⟨t', rfl⟩ := ry
  exact rule i j t t' s _ _ ⟨.int (g i j), H, I.tok _, ⟨_, rfl⟩, q⟩
theorem Z1j {f : Value → Value → Sem Value} {g : Int → Int → Bool}
    (rule : ∀ (i j : Int) (t u : Tok) (s : Shared) (Q : Value → Shared → Prop) (E : Value → Shared → Prop), Q (.bool (g i j)) s → wpAny (model X.prog X.w) X.A (f (.int i t) (.int j u)) Q E s) :
    OpR X f (rI0 fun i j => .bl (g i j)) := by
  intro pins s σ H x y v u Q I rx ry h
  obtain ⟨i, j, rfl, rfl, q⟩ := h
  obtain ⟨t, rfl⟩ := rx
  obtain ⟨t', rfl⟩ := ry
  exact rule i j t t' s _ _ ⟨.bl (g i j), H, I, rfl, q⟩
noncomputable def Z1s (i j : Int) : Prop := 0 ≤ j ∧ j ≤ 1000000 ∧ i.natAbs < 2 ^ 64
theorem W0 : OpR X (binaryOp .Add) (rI0 fun i j => .int (i + j)) := Z5j fun _ _ _ _ _ _ _ q => add_int q
theorem Zjv : OpR X (binaryOp .Sub) (rI0 fun i j => .int (i - j)) := Z5j fun _ _ _ _ _ _ _ q => sub_int q
theorem Wr : OpR X (binaryOp .Mod) (rI (fun _ j => j ≠ 0) fun i j => .int (i.fmod j)) := opI fun _ _ _ _ _ _ _ hc q => mod_int' hc q
theorem Zxl : OpR X (binaryOp .Pow) (rI Z1s fun i j => .int (i ^ j.toNat)) := opI fun _ _ _ _ _ _ _ hc q => pow_int_small hc.1 hc.2.1 hc.2.2 q
theorem unI {f : Value → Sem Value} {g : Int → Int}
    (rule : ∀ (i : Int) (t : Tok) (s : Shared) (Q : Value → Shared → Prop) (E : Value → Shared → Prop), Q (.int (g i) s.toks) { s with toks := s.toks + 1 } → wpAny (model X.prog X.w) X.A (f (.int i t)) Q E s) :
    UnR X f (rU fun i => .int (g i)) := by
  intro pins s σ H x v Q I rx h
  obtain ⟨i, rfl, q⟩ := h
  obtain ⟨t, rfl⟩ := rx
  exact rule i t s _ _ ⟨.int (g i), H, I.tok _, ⟨_, rfl⟩, q⟩
theorem Zyc : UnR X (unaryOp .USub) (rU fun i => .int (-i)) := unI fun _ _ _ _ _ q => neg_int q
end
section
variable {X : Cx} {a b c : Expr} {ta tb tc : TE} {pos : Pos}
theorem Zzc {pins : List (Addr × Obj)} {σ : St} {H : Hp} {s : Shared} {Q : VK} {k k' : Bool} (I : Inv X pins σ H s) (q : Q (.bl k) H) (e : k = k') : EP X pins σ Q (.bool k') s := by
  subst e
  exact ⟨.bl k, H, I, rfl, q⟩
theorem Zfc : OpR X (compareOp .Lt) (rI0 fun i j => .bl (decide (i < j))) := Z1j fun _ _ _ _ _ _ _ q => lt_int q
theorem Zyx : OpR X (compareOp .LtE) (rI0 fun i j => .bl (decide (i ≤ j))) := Z1j fun _ _ _ _ _ _ _ q => le_int q
theorem Zv1 : OpR X (compareOp .Gt) (rI0 fun i j => .bl (decide (j < i))) := Z1j fun _ _ _ _ _ _ _ q => gt_int q
theorem Z3e : OpR X (compareOp .GtE) (rI0 fun i j => .bl (decide (j ≤ i))) := Z1j fun _ _ _ _ _ _ _ q => ge_int q
theorem Ztp : OpR X (compareOp .Is) (fun x y H Q => y = .non ∧ Q (.bl (decide (x = .non))) H) := by
  intro pins s σ H x y v u Q I rx ry h
  obtain ⟨rfl, q⟩ := h
  cases ry
  refine is_none_gen (Zzc I q ?_)
  cases x <;> first
    | (cases rx; rfl)
    | (obtain ⟨t, rfl⟩ := rx; rfl)
theorem Y6 (b : Expr) {op : CmpOp} (h : op ≠ .In := by decide) (h2 : op ≠ .NotIn := by decide) : behindInMarks op b = false := by
  have e1 : (op == CmpOp.In) = false := by cases op <;> first | rfl | exact absurd rfl h
  have e2 : (op == CmpOp.NotIn) = false := by cases op <;> first | rfl | exact absurd rfl h2
  cases b <;> simp [behindInMarks, e1, e2]
theorem Zuf {op : CmpOp} {r : R2} (ho : OpR X (compareOp op) r) (ha : PE X a ta) (hb : PE X b tb) (hm : behindInMarks op b = false) : PE X (.Compare a [op] [b] pos) (tOp r ta tb) := by
  intro pins s σ H Q I h
  exact wpAny_Compare1 (Z29 ha hb I h fun v u s2 x y H2 I2 rx ry q => ho pins s2 σ H2 x y v u Q I2 rx ry q) hm
noncomputable def Zus (t : TE) : TT := fun σ H Q => t σ H fun x H' => ∃ k, x = .bl k ∧ Q k H'
theorem Zuu {op : CmpOp} {r : R2} (ho : OpR X (compareOp op) r) (ha : PE X a ta) (hb : PE X b tb) (hm : behindInMarks op b = false) : PT X (.Compare a [op] [b] pos) (Zus (tOp r ta tb)) := by
  intro pins s σ H Q I h
  refine wpAny_isTrue_Compare1 (thn (ha pins s σ H _ I h) fun v s1 ⟨x, H1, I1, r1, q1⟩ => thn (hb pins s1 σ H1 _ I1 q1) fun u s2 ⟨y, H2, I2, r2, q2⟩ =>
    thn (ho pins s2 σ H2 x y v u _ I2 r1 r2 q2) fun c s3 ⟨z, H3, I3, r3, k, e, q3⟩ => ?_) hm
  subst e
  cases r3
  exact wpAny_truthy_bool ⟨H3, I3, q3⟩
noncomputable def Z36 (K : PySem.W.Frag) (x : V) (H : Hp) (k : Bool) : Prop :=
  match x with
  | .non => k = false
  | .bl b => k = b
  | .int i => k = (i != 0)
  | .str y => y.length ≤ sizeLine ∧ k = ((y.length : Int) != 0)
  | .byt y => y.size ≤ sizeLine ∧ k = ((y.size : Int) != 0)
  | .ref p => (∃ xs, SqL K H p xs ∧ k = !xs.isEmpty) ∨ (∃ xs, SqT K H p xs ∧ k = !xs.isEmpty) ∨ ∃ kvs, H p = some (.dK kvs) ∧ k = !kvs.isEmpty
  | _ => False
theorem Zm4 {κ : Type} {kvs : List (κ × V)} {vs : List (κ × Value)} (r : KV kvs vs) : (!vs.isEmpty) = !kvs.isEmpty := by
  cases r <;> rfl
theorem Zg9 {xs : List V} {its : List Value} (r : Vals xs its) : (!its.toArray.isEmpty) = !xs.isEmpty := by
  cases r <;> simp
theorem Zgy : (sizeLine : Nat) < 2 ^ 63 := by rw [sizeLine_eq]; decide
theorem Zzs : Z7o X (fun x H Q => ∃ k, Z36 X.K x H k ∧ Q k H) := by
  intro pins s σ H x v Q I rx h
  obtain ⟨k, e, q⟩ := h
  have hl := Zgy
  have hs : sizeLine = 16777216 := sizeLine_eq
  cases x with
  | non =>
    cases rx
    have e' : k = false := e
    subst e'
    exact truthy_none ⟨H, I, q⟩
  | bl b =>
    cases rx
    have e' : k = b := e
    subst e'
    exact wpAny_truthy_bool ⟨H, I, q⟩
  | int i =>
    obtain ⟨t, rfl⟩ := rx
    have e' : k = (i != 0) := e
    subst e'
    exact PySem.P.truthy_int ⟨H, I, q⟩
  | str y =>
    obtain ⟨t, rfl⟩ := rx
    obtain ⟨hy, e'⟩ : y.length ≤ sizeLine ∧ k = ((y.length : Int) != 0) := e
    subst e'
    exact PySem.P.truthy_str (by omega) ⟨H, I.tok _, q⟩
  | byt y =>
    obtain ⟨t, rfl⟩ := rx
    obtain ⟨hy, e'⟩ : y.size ≤ sizeLine ∧ k = ((y.size : Int) != 0) := e
    subst e'
    exact PySem.W.truthy_bytes (by omega) ⟨H, I.tok _, q⟩
  | ref p =>
    cases rx
    have e' : (∃ xs, SqL X.K H p xs ∧ k = !xs.isEmpty) ∨ (∃ xs, SqT X.K H p xs ∧ k = !xs.isEmpty) ∨ ∃ kvs, H p = some (.dK kvs) ∧ k = !kvs.isEmpty := e
    rcases e' with ⟨xs, hx, e'⟩ | ⟨xs, hx, e'⟩ | ⟨kvs, hx, e'⟩
    · subst e'
      obtain ⟨its, r, pl, hz⟩ := I.list hx
      have hlen := r.length
      exact wpAny_truthy_list pl.isList (by simp only [List.size_toArray]; omega) ⟨H, I.tok _, by rw [Zg9 r]; exact q⟩
    · subst e'
      obtain ⟨its, r, pl, hz⟩ := I.tuple hx
      have hlen := r.length
      exact truthy_tuple pl (by simp only [List.size_toArray]; omega) ⟨H, I.tok _, by rw [Zg9 r]; exact q⟩
    · subst e'
      obtain ⟨hz, hS, vs, r, m⟩ : kvs.length ≤ sizeLine ∧ (p == sysModules) = false ∧ ∃ vs, KV kvs vs ∧ s.heap.DictOf (Y9 X.prog X.w) p vs := I.hok p _ hx
      have hlen : kvs.length = vs.length := Paired.length r
      exact wpAny_truthy_dict hS m (by omega) ⟨H, I.tok _, by rw [Zm4 r]; exact q⟩
  | _ => exact (show False from e).elim
theorem Zsk (ha : PE X a ta) (he : ∀ whole, isTrue a X.env whole = (do let v ← whole; standAt a.pos; holding [v] (truthy v))) :
    PT X a (fun σ H Q => ta σ H fun x H' => ∃ k, Z36 X.K x H' k ∧ Q k H') := by
  intro pins s σ H Q I h
  refine isTrue_plain (thn (ha pins s σ H _ I h) fun v s1 qz9 => ?_) (he _)
  obtain ⟨x, H1, I1, r1, q1⟩ := qz9
  exact Zzs pins s1 σ H1 x v Q I1 r1 q1
theorem vals1 {x : V} {us : List Value} (r : Vals [x] us) : ∃ u, us = [u] ∧ RelV x u := by
  cases r with
  | cons r1 r2 => cases r2; exact ⟨_, rfl, r1⟩
theorem vals2 {x y : V} {us : List Value} (r : Vals [x, y] us) : ∃ u w', us = [u, w'] ∧ RelV x u ∧ RelV y w' := by
  cases r with
  | cons r1 r2 =>
    cases r2 with
    | cons r3 r4 => cases r4; exact ⟨_, _, rfl, r1, r3⟩
theorem Zih : Zeo X (.builtin "abs") (fun xs H Q => ∃ i, xs = [.int i] ∧ Q (.int (if i < 0 then -i else i)) H) := by
  intro pins s σ H xs us Q I r h
  obtain ⟨i, rfl, q⟩ := h
  obtain ⟨u, rfl, t, rfl⟩ := vals1 r
  exact call_abs_int fun u tk => ⟨.int (if i < 0 then -i else i), H, I.tok _, ⟨_, rfl⟩, q⟩
theorem Zn3 : Zeo X (.type "int") (fun xs H Q => (∃ i, xs = [.int i] ∧ Q (.int i) H) ∨ ∃ k, xs = [.bl k] ∧ Q (.int (if k then 1 else 0)) H) := by
  intro pins s σ H xs us Q I r h
  rcases h with ⟨i, rfl, q⟩ | ⟨k, rfl, q⟩
  · obtain ⟨u, rfl, t, rfl⟩ := vals1 r
    exact call_int_int ⟨.int i, H, I, ⟨_, rfl⟩, q⟩
  · obtain ⟨u, rfl, r1⟩ := vals1 r
    cases r1
    exact call_int_bool ⟨.int (if k then 1 else 0), H, I.tok _, ⟨_, rfl⟩, q⟩
end
end L2
namespace L2
open PySem PySem.Spec PyProof.Rows
structure ObjM (h : Heap) (x dx C : Addr) (mA : Str → Option Value) : Prop where
  obj : h.get? x = some (PySem.W.instObj C dx)
  ns : h.Ns1 dx mA
  ne : dx ≠ x
theorem Znt {h : Heap} {dx : Addr} {mA : Str → Option Value} (n : h.Ns1 dx mA) : ∃ od, h.get? dx = some od ∧ ∀ name, PySem.W.lookIn name od = some (mA name) := by
  obtain ⟨o, es, ep, ho, hd, hk, _, hm⟩ := n
  refine ⟨o, ho, fun name => ?_⟩
  have e := hm name
  unfold nsFind findBy at e
  rw [← Array.find?_toList] at e
  unfold PySem.W.lookIn
  rw [hd]
  dsimp only
  split
  · rename_i y q
    rw [q] at e
    exact congrArg some e
  · rename_i q
    rw [q] at e
    have a : es.toList.any (·.refKey) = false := by
      rw [List.any_eq_false]
      intro y hy
      obtain ⟨z, t, hkey⟩ := hk y (Array.mem_toList_iff.mp hy)
      simp [DictEntry.refKey, hkey]
    have a' : ¬ es.toList.any (·.refKey) = true := by rw [a]; exact Bool.false_ne_true
    rw [if_neg a']
    exact congrArg some e
theorem ObjM.look {h : Heap} {x dx C : Addr} {mA : Str → Option Value} (I : ObjM h x dx C mA) : ∃ od, PySem.W.InstAt h x (PySem.W.instObj C dx) C (some od) ∧ ∀ name, PySem.W.lookIn name od = some (mA name) :=
  let ⟨od, ho, hl⟩ := Znt I.ns
  ⟨od, ⟨I.obj, rfl, rfl, ho⟩, hl⟩
section
variable {prog : Program} {w : World} {A : Around} {E : Value → Shared → Prop} {s : Shared} {K : PySem.W.Frag} {x dx C f : Addr} {mA : Str → Option Value} {name : Str} {v : Value}
end
theorem RelO.some_of {v : V} {o : Option Value} (r : RelO (some v) o) : ∃ u, o = some u ∧ RelV v u := by
  cases o with
  | none => exact (show False from r).elim
  | some u => exact ⟨u, rfl, r⟩
section
variable {P : Program} {w : World} {H H' : Hp} {h h' : Heap} {a C dx : Addr} {fs fs' : List (Str × V)}
theorem Zwi (hok : HOk P w H h) (e : H a = some (.ins C dx fs)) : ∃ mA, ObjM h a dx C mA ∧ (∀ f, RelO (fs.lookup f) (mA f)) ∧ PySem.Within mA (fs.map (·.1)) ∧ fs.length ≤ 1000 ∧ H dx = some (.own a) := by
  obtain ⟨d, z, ne, ob, mA, n, r, q⟩ := (show ObjOk P w H h a (.ins C dx fs) from hok a _ e)
  exact ⟨mA, ⟨ob, n, ne⟩, r, q, z, d⟩
end
structure Cls (K : PySem.W.Frag) (C : Addr) : Prop where
  pg : PySem.W.plainGet K C Str.empty = true
  hd : PySem.W.hasDictIn K C = true
  po : PySem.W.plainOver K C = true
  sa : PySem.W.findIn K (.ref C) "__setattr__" = some (some (.builtin "object.__setattr__"))
theorem Cls.get {K : PySem.W.Frag} {C : Addr} (c : Cls K C) (f : Str) : PySem.W.plainGet K C f = true := c.pg
structure Con (K : PySem.W.Frag) (C : Addr) (f : Str) (v : V) (u : Value) : Prop where
  at_ : PySem.W.findIn K (.ref C) f = some (some u)
  rel : RelV v u
  get : PySem.W.specialIn K u "__get__" = some none
  cp : PySem.W.copiedNames.contains f = false
structure Meth (K : PySem.W.Frag) (C : Addr) (m : Str) (f : Addr) : Prop where
  at_ : PySem.W.findIn K (.ref C) m = some (some (.ref f))
  fn : PySem.W.isFn K (.ref f) = true
  kp : PySem.W.keepIn K (.ref f) = true
section
variable {X : Cx} {pins : List (Addr × Obj)} {σ : St} {H : Hp} {s : Shared} {a C dx : Addr} {fs : List (Str × V)} {f : Str} {v : V} {A : Around} {E : Value → Shared → Prop}
end
section
variable {X : Cx} {o e value : Expr} {f : Str} {pos pos' tpos : Pos} {ta tv : TE}
end
section
variable {X : Cx} {pins : List (Addr × Obj)} {σ : St} {H : Hp} {s : Shared} {A : Around} {E : Value → Shared → Prop} {Q : Value → Shared → Prop} {c : Value} {b : Bool}
inductive Znd (K : PySem.W.Frag) (H : Hp) : V → Value → Prop where
  | non : Znd K H .non (.type "NoneType")
  | bl (x : Bool) : Znd K H (.bl x) (.type "bool")
  | int (i : Int) : Znd K H (.int i) (.type "int")
  | str (x : Str) : Znd K H (.str x) (.type "str")
  | flt (x : UInt64) : Znd K H (.flt x) (.type "float")
  | lst {a : Addr} {xs : List V} (e : H a = some (.lst xs)) : Znd K H (.ref a) (.type "list")
  | frz {a : Addr} {o : Obj} {xs : List V} (e : H a = some (.frz o (.lst xs))) : Znd K H (.ref a) (.type "list")
  | tup {a : Addr} {xs : List V} (e : H a = some (.tup xs)) : Znd K H (.ref a) (.type "tuple")
  | dK {a : Addr} {kvs : List (Key × V)} (e : H a = some (.dK kvs)) : Znd K H (.ref a) (.type "dict")
  | dT {a : Addr} {kvs : List (List Key × V)} (e : H a = some (.dT kvs)) : Znd K H (.ref a) (.type "dict")
  | ins {a C dx : Addr} {fs : List (Str × V)} (e : H a = some (.ins C dx fs)) (cl : Cls K C) (ha : PySem.W.findIn K (.ref C) "__class__" = some (some (.builtin "object.__class__")))
      (hn : PySem.W.specialIn K (.builtin "object.__class__") "__get__" = some (some (.builtin "getset_descriptor.__get__"))) (htk : PySem.W.takesIn K (.builtin "object.__class__") = some true)
      (hm : PySem.W.mroIn K C (.type "object") = some true) : Znd K H (.ref a) (.ref C)
theorem Zbe {x : V} {u t : Value} (I : Inv X pins σ H s) (rx : RelV x u) (ty : Znd X.K H x t) (e : PySem.W.kitOne X.K t c = some b) (h : ∀ tk, Q (.bool b) { s with toks := tk }) :
    wpAny (model X.prog X.w) A (call (.builtin "isinstance") [u, c]) Q E s := by
  cases ty with
  | non => cases (show u = Value.none from rx); exact PySem.W.kia_one PySem.W.kitx_none I.kIn True.intro e (fun z => nomatch z) h
  | bl y => cases (show u = Value.bool y from rx); exact PySem.W.kia_one PySem.W.kitx_bool I.kIn True.intro e (fun z => nomatch z) h
  | int i => obtain ⟨t, q⟩ := (show ∃ t, u = Value.int i t from rx); cases q; exact PySem.W.kia_one PySem.W.kitx_int I.kIn True.intro e (fun z => nomatch z) h
  | str y => obtain ⟨t, q⟩ := (show ∃ t, u = Value.str y t from rx); cases q; exact PySem.W.kia_one PySem.W.kitx_str I.kIn True.intro e (fun z => nomatch z) h
  | flt y => obtain ⟨t, q⟩ := (show ∃ t, u = Value.float y t from rx); cases q; exact PySem.W.kia_one PySem.W.kitx_float I.kIn True.intro e (fun z => nomatch z) h
  | @lst a xs ea =>
    cases (show u = Value.ref a from rx)
    obtain ⟨_, _, n, _, h1⟩ := (show ObjOk X.prog X.w H s.heap a (.lst xs) from I.hok a _ ea)
    exact PySem.W.kia_one PySem.W.kitx_list I.kIn ⟨_, h1, rfl⟩ e (fun z => nomatch z) h
  | @frz a ob xs ea =>
    cases (show u = Value.ref a from rx)
    obtain ⟨_, _, _, n, _, h1⟩ := (show ObjOk X.prog X.w H s.heap a (.frz ob (.lst xs)) from I.hok a _ ea)
    exact PySem.W.kia_one PySem.W.kitx_list I.kIn ⟨_, h1, rfl⟩ e (fun z => nomatch z) h
  | @tup a xs ea =>
    cases (show u = Value.ref a from rx)
    obtain ⟨_, _, _, p⟩ := (show ObjOk X.prog X.w H s.heap a (.tup xs) from I.hok a _ ea)
    obtain ⟨o, h1, h2, _⟩ := p
    exact PySem.W.kia_one PySem.W.kitx_tuple I.kIn ⟨o, h1, h2⟩ e (fun z => nomatch z) h
  | @dK a kvs ea =>
    cases (show u = Value.ref a from rx)
    obtain ⟨_, _, vs, _, p⟩ := (show ObjOk X.prog X.w H s.heap a (.dK kvs) from I.hok a _ ea)
    obtain ⟨o, es, ep, h1, h2, _⟩ := p
    exact PySem.W.kia_one PySem.W.kitx_dict I.kIn ⟨o, h1, h2.1⟩ e (fun z => nomatch z) h
  | @dT a kvs ea =>
    cases (show u = Value.ref a from rx)
    obtain ⟨_, _, xs, _, o, es, ep, h1, h2, _⟩ := (show ObjOk X.prog X.w H s.heap a (.dT kvs) from I.hok a _ ea)
    exact PySem.W.kia_one PySem.W.kitx_dict I.kIn ⟨o, h1, h2.1⟩ e (fun z => nomatch z) h
  | @ins a C dx fs ea cl ha hn htk hm =>
    cases (show u = Value.ref a from rx)
    obtain ⟨mA, O, _⟩ := Zwi I.hok ea
    obtain ⟨od, J, _⟩ := O.look
    exact PySem.W.kia_one (PySem.W.kitx_own (cl.get _) cl.hd ha hn htk hm) I.kIn J e (fun z => nomatch z) h
end
end L2
namespace L2
open PySem PySem.Spec PyProof.Rows
structure Room (k : Nat) (A : Around) : Prop where
  hd : A.handled = none
  dp : A.depth + 3 * k + 5 < recursionLimit
  un : A.units + 16 * k + 200 < cLine
theorem Room.mono {j k : Nat} {A : Around} (r : Room k A) (h : j ≤ k) : Room j A := ⟨r.hd, by have := r.dp; omega, by have := r.un; omega⟩
theorem Room.deeper {k : Nat} {A : Around} (r : Room (k + 1) A) (env : Env) : Room k (A.deeper env) :=
  ⟨r.hd, by have := r.dp; show A.depth + 1 + 3 * k + 5 < _; omega, by have := r.un; show A.units + 3 + 16 * k + 200 < _; omega⟩
theorem Room.depth {k : Nat} {A : Around} (r : Room k A) : A.depth < recursionLimit := by have := r.dp; omega
theorem Room.units {k : Nat} {A : Around} (r : Room k A) : A.units + 64 < cLine := by have := r.un; omega
noncomputable def Z66 : TA := fun _ H Q => Q [] H
noncomputable def Z4e (ta : TE) (tr : TA) : TA := fun σ H Q => ta σ H fun x H1 => tr σ H1 fun xs H2 => Q (x :: xs) H2
section
variable {X : Cx} {e : Expr} {es : List Expr} {te : TE} {t : TA} {pos : Pos}
theorem Zex : PA X [] Z66 := fun _ _ _ _ H Q I h => Calls.spliced_nil ⟨[], H, I, .nil, h⟩
theorem Zb7 (ha : PE X e te) (hr : PA X es t) (hs : starEach (e :: es) X.env = (false, eval e X.env) :: starEach es X.env := by rfl) : PA X (e :: es) (Z4e te t) := by
  intro pos pins s σ H Q I h
  rw [hs]
  show wpAny _ _ (spliced ((false, eval e X.env) :: backTo pos (starEach es X.env))) _ _ s
  refine Calls.spliced_cons (thn (ha pins s σ H _ I h) fun u s1 qz9 => ?_)
  obtain ⟨x, H1, I1, r1, q1⟩ := qz9
  refine thn (hr pos pins s1 σ H1 _ I1 q1) fun us s2 qz9 => ?_
  obtain ⟨xs, H2, I2, r2, q2⟩ := qz9
  exact ⟨x :: xs, H2, I2, .cons r1 r2, q2⟩
noncomputable def Z62 (t : TA) : TE := fun σ H Q => t σ H fun xs H1 => xs.length ≤ sizeLine ∧ ∀ p, H1 p = none → Q (.ref p) (upd H1 p (.tup xs))
noncomputable def Z6z (t : TA) : TE := fun σ H Q => t σ H fun xs H1 => xs.length ≤ sizeLine ∧ ∀ p, H1 p = none → Q (.ref p) (upd H1 p (.lst xs))
theorem Z01 {x1} (h : PA X es t) : PE X (.Tuple es x1 pos) (Z62 t) := by
  intro pins s σ H Q I hq
  refine wpAny_Tuple_spliced (thn (h pos pins s σ H _ I hq) fun us s1 ⟨xs, H1, I1, r, z, q⟩ => ⟨by rw [← r.length]; exact z, ?_⟩)
  have hf : H1 s1.heap.objs.size = none := I1.hok.fresh (Nat.le_refl _)
  refine ⟨.ref s1.heap.objs.size, upd H1 s1.heap.objs.size (.tup xs), I1.laid (t' := s1.toks) (fun b u e => Heap.get?_push_of_some _ e) (Nat.le_refl _) ?_, rfl, q _ hf⟩
  exact ⟨z, us, r, ⟨_, Heap.get?_push_size _ rfl, rfl, _, rfl⟩⟩
theorem Zs3 (h : PA X es t) : PE X (.List es pos) (Z6z t) := by
  intro pins s σ H Q I hq
  refine wpAny_List_spliced (thn (h pos pins s σ H _ I hq) fun us s1 ⟨xs, H1, I1, r, z, q⟩ => ⟨by rw [← r.length]; exact z, ?_⟩)
  have hf : H1 s1.heap.objs.size = none := I1.hok.fresh (Nat.le_refl _)
  refine ⟨.ref s1.heap.objs.size, upd H1 s1.heap.objs.size (.lst xs), I1.laid (t' := s1.toks) (fun b u e => Heap.get?_push_of_some _ e) (Nat.le_refl _) ?_, rfl, q _ hf⟩
  exact ⟨z, us, 0, r, Heap.get?_push_size _ rfl⟩
end
noncomputable abbrev Sp := List V → Hp → VK → XK → Prop
noncomputable abbrev CXT := List Env → Hp → Shared → XK → Value → Shared → Prop
structure Z14 (P : Program) (w : World) (K : PySem.W.Frag) (mg : Str → Option Value) (base : Heap) (A : Around) (outer : List Env) (s : Shared) (H : Hp) : Prop where
  frames : A.frames = some outer
  mod : Mod K mg base
  bs : ∀ b o, base.get? b = some o → s.heap.get? b = some o ∧ H b = none
  bsz : base.objs.size ≤ s.heap.objs.size
  funs : s.heap.FunFrames base outer
  frf : ∀ b ∈ frs outer, H b = none
  hok : HOk P w H s.heap
  bare : AllBare s.gens
noncomputable def CE (outer : List Env) (P : Program) (w : World) (H : Hp) (s : Shared) (Q : VK) (u : Value) (s' : Shared) : Prop :=
  ∃ v H', s'.os = s.os ∧ AllBare s'.gens ∧ Un (frs outer) [] H H' s.heap s'.heap ∧ HOk P w H' s'.heap ∧ RelV v u ∧ Q v H'
noncomputable def CR (CX : CXT) (outer : List Env) (P : Program) (w : World) (H : Hp) (s : Shared) (Q : VK) (E : XK) (r : Result) (s' : Shared) : Prop :=
  match r with
  | .ok (.ret u) => CE outer P w H s Q u s'
  | .ok _ => False
  | .error e => CX outer H s E e s'
structure FnOk (P : Program) (w : World) (K : PySem.W.Frag) (mg : Str → Option Value) (base : Heap) (CX : CXT) (k : Nat) (f : Addr) (fd : FuncData) (ps : List Str) (sp : Sp) : Prop where
  len : ∀ vs H Q E, sp vs H Q E → vs.length = ps.length
  run : ∀ (A : Around) (outer : List Env) (s : Shared) (H : Hp) (args : Args) (us : List Value) (vs : List V) (Q : VK) (E : XK), Room k A → Z14 P w K mg base A outer s H → BindsTo s fd args (ps.zip us) → Vals vs us → sp vs H Q E →
    codeAny (model P w) A (.call (.ref f) args) (CR CX outer P w H s Q E) s
theorem FnOk.imp {P : Program} {w : World} {K : PySem.W.Frag} {mg : Str → Option Value} {base : Heap} {CX : CXT} {k : Nat} {f : Addr} {fd : FuncData} {ps : List Str} {sp sp' : Sp} (F : FnOk P w K mg base CX k f fd ps sp)
    (h : ∀ vs H Q E, sp' vs H Q E → sp vs H Q E) : FnOk P w K mg base CX k f fd ps sp' :=
  ⟨fun vs H Q E q => F.len vs H Q E (h _ _ _ _ q), fun A outer s H args us vs Q E hr he hb hv hs => F.run A outer s H args us vs Q E hr he hb hv (h _ _ _ _ hs)⟩
section
variable {X : Cx} {pins : List (Addr × Obj)} {σ : St} {H : Hp} {s s' : Shared}
theorem Inv.env0 (I : Inv X pins σ H s) : Z14 X.prog X.w X.K X.mg X.base X.A X.stack s H :=
  ⟨I.ok.frames, I.ok.mod, I.bs, Nat.le_trans I.ok.bsz I.sz, I.stack, I.stkFree, I.hok, I.bare⟩
theorem Inv.after {Q : VK} {u : Value} (I : Inv X pins σ H s) (h : CE X.stack X.prog X.w H s Q u s') : EP X pins σ Q u s' := by
  obtain ⟨v, H', os, bare, un, hok, r, q⟩ := h
  obtain ⟨hh, g, d, t, os'⟩ := s'
  obtain rfl : os' = s.os := os
  exact ⟨v, H', I.call (h' := hh) (g' := g) (d' := d) (t' := t) (ch := []) un hok bare (fun b z => absurd z (by simp)), r, q⟩
end
noncomputable def Z1c (sp : Sp) (dvs : List V) (E : XK) (t : TA) : TE := fun σ H Q => t σ H fun vs H1 => sp (vs ++ dvs) H1 Q E
noncomputable def Binds (K : PySem.W.Frag) (fd : FuncData) (ps : List Str) (ds : List Value) : Prop :=
  ∀ (s : Shared) (us : List Value), K.In s.heap → (us ++ ds).length = ps.length → BindsTo s fd ⟨us, []⟩ (ps.zip (us ++ ds))
theorem Binds.all {K : PySem.W.Frag} {fd : FuncData} {ps : List Str} (h : ∀ us : List Value, us.length = ps.length → bindArgs fd ⟨us, []⟩ = pure (ps.zip us)) : Binds K fd ps [] := fun s us _ hl => by
  rw [List.append_nil] at hl ⊢
  exact .of_eq (h us hl)
noncomputable def Zl8 (CX : CXT) (X : Cx) (E : XK) : Prop := ∀ (pins : List (Addr × Obj)) (σ : St) (H : Hp) (s : Shared) (e : Value) (s' : Shared), Inv X pins σ H s → CX X.stack H s E e s' → X.xe e s'
section
variable {X : Cx} {CX : CXT} {k : Nat} {f C : Addr} {fd : FuncData} {ps : List Str} {sp : Sp} {dvs : List V} {ds : List Value} {E : XK} {x m : Str} {p pos apos : Pos} {e o : Expr} {es : List Expr} {ta : TE} {t : TA}
theorem Zyd {pins : List (Addr × Obj)} {σ : St} {H : Hp} {s : Shared} {Q : VK} {us : List Value} {vs : List V} (F : FnOk X.prog X.w X.K X.mg X.base CX k f fd ps sp) (hr : Room k X.A) (hb : Binds X.K fd ps ds) (hd : Vals dvs ds) (hx : Zl8 CX X E)
    (I : Inv X pins σ H s) (r : Vals vs us) (h : sp (vs ++ dvs) H Q E) : wpAny (model X.prog X.w) X.A (call (.ref f) us) (EP X pins σ Q) X.xe s := by
  have r2 : Vals (vs ++ dvs) (us ++ ds) := r.append hd
  have hl : (us ++ ds).length = ps.length := by rw [← r2.length]; exact F.len _ _ _ _ h
  refine wpAny_call (codeAny_mono (F.run X.A X.stack s H ⟨us, []⟩ (us ++ ds) (vs ++ dvs) Q E hr I.env0 (hb s us I.kIn hl) r2 h) fun r s' hq => ?_)
  cases r with
  | error e => exact hx pins σ H s e s' I hq
  | ok fl =>
    cases fl with
    | ret u => exact I.after hq
    | next => exact False.elim hq
    | brk => exact False.elim hq
    | cont => exact False.elim hq
theorem Zuh (F : FnOk X.prog X.w X.K X.mg X.base CX k f fd ps sp) (hr : Room k X.A) (hg : Gl X x) (hm : X.mg x = some (.ref f)) (hk : PySem.W.keepIn X.K (.ref f) = true) (hb : Binds X.K fd ps ds) (hd : Vals dvs ds) (hx : Zl8 CX X E)
    (ha : PA X (e :: es) t) (hdb : (x == ("__debug__" : Str)) = false := by decide) (he : starEach (e :: es) X.env = (false, eval e X.env) :: starEach es X.env := by rfl) (hpl : (backTo pos (starEach es X.env)).any (·.1) = false := by rfl) :
    PE X (.Call (.Name x p) (e :: es) [] pos) (Z1c sp dvs E t) := by
  intro pins s σ H Q I h
  refine wpAny_Call_Name_kw (Zk2 I hg hm ?_ hdb)
  refine PySem.W.callWith_K (h₀ := X.base) I.ok.mod.kin hk (thn (ha pos pins s σ H _ I h) fun us s1 qz9 => ?_) he hpl
  obtain ⟨vs, H1, I1, r, q⟩ := qz9
  refine ⟨I1.kIn, ?_⟩
  exact Zyd F hr hb hd hx I1 r q
structure Mk (K : PySem.W.Frag) (C f : Addr) : Prop where
  makes : PySem.W.makesIn K C = true
  init : PySem.W.findIn K (.ref C) "__init__" = some (some (.ref f))
  fn : PySem.W.isFn K (.ref f) = true
  kp : PySem.W.keepIn K (.ref C) = true
end
section
variable {X : Cx} {CX : CXT} {k : Nat} {f C : Addr} {fd : FuncData} {ps ks : List Str} {sp : Sp} {E : XK} {x m : Str} {p pos apos kpos : Pos} {e o : Expr} {es : List Expr} {kws : List Keyword} {te ta : TE} {t tk : TA} {nm : Option Str}
structure Z46 (K : PySem.W.Frag) (fd : FuncData) (ps ks : List Str) (g : List Value → List Value → List Value) (gV : List V → List V → List V) : Prop where
  to : ∀ (s : Shared) (us ws : List Value), K.In s.heap → (g us ws).length = ps.length → BindsTo s fd ⟨us, ks.zip ws⟩ (ps.zip (g us ws))
  rel : ∀ {vs : List V} {us : List Value} {zs : List V} {ws : List Value}, Vals vs us → Vals zs ws → Vals (gV vs zs) (g us ws)
variable {g : List Value → List Value → List Value} {gV : List V → List V → List V}
end
structure Z8 (N P : List Str) (sc : Scope) : Prop where
  kind : sc.kind = .function
  co : sc.isCoroutine = false
  gen : sc.isGenerator = false
  nd : N.Nodup
  pre : N.take P.length = P
  par : ∀ x ∈ P, sc.names.lookup x = some .local ∨ sc.names.lookup x = some .cell
  nofree : ∀ y ∈ sc.names, y.2 ≠ .free
theorem Zjo {kindOf : Str → Option NameKind} {x : Str} : ∀ {binds : List (Str × Value)} {m : Str → Option Value}, (∀ v, (x, v) ∉ binds) → bindL kindOf binds m x = m x
  | [], _, _ => rfl
  | (n, v) :: r, m, h => by
    unfold bindL
    rw [Zjo fun w hw => h w (List.mem_cons_of_mem _ hw)]
    split
    · have : x ≠ n := by rintro rfl; exact h v List.mem_cons_self
      simp [this]
    · rfl
theorem Zj0 {kindOf : Str → Option NameKind} {x : Str} : ∀ {binds : List (Str × Value)} {m : Str → Option Value}, (∀ v, (x, v) ∉ binds) → bindC kindOf binds m x = m x
  | [], _, _ => rfl
  | (n, v) :: r, m, h => by
    unfold bindC
    rw [Zj0 fun w hw => h w (List.mem_cons_of_mem _ hw)]
    split
    · rfl
    · have : x ≠ n := by rintro rfl; exact h v List.mem_cons_self
      simp [this]
theorem Zjt {kindOf : Str → Option NameKind} {x : Str} {v : Value} : ∀ {P : List Str} {vs : List Value} {i : Nat} {m : Str → Option Value}, P.Nodup → P[i]? = some x → vs[i]? = some v → kindOf x = some .local →
    bindL kindOf (P.zip vs) m x = some v
  | [], _, _, _, _, h, _, _ => by simp at h
  | _ :: _, [], _, _, _, _, h, _ => by simp at h
  | p :: P, w :: vs, 0, m, nd, h1, h2, hk => by
    simp at h1 h2; subst h1; subst h2
    show bindL kindOf ((p, w) :: P.zip vs) m p = _
    unfold bindL
    rw [Zjo fun v hv => (List.nodup_cons.mp nd).1 (List.of_mem_zip hv).1, if_pos hk]
    simp
  | p :: P, w :: vs, i + 1, m, nd, h1, h2, hk => by
    show bindL kindOf ((p, w) :: P.zip vs) m x = _
    unfold bindL
    exact Zjt (i := i) (List.nodup_cons.mp nd).2 (by simpa using h1) (by simpa using h2) hk
theorem Zj5 {kindOf : Str → Option NameKind} {x : Str} {v : Value} : ∀ {P : List Str} {vs : List Value} {i : Nat} {m : Str → Option Value}, P.Nodup → P[i]? = some x → vs[i]? = some v → kindOf x ≠ some .local →
    bindC kindOf (P.zip vs) m x = some v
  | [], _, _, _, _, h, _, _ => by simp at h
  | _ :: _, [], _, _, _, _, h, _ => by simp at h
  | p :: P, w :: vs, 0, m, nd, h1, h2, hk => by
    simp at h1 h2; subst h1; subst h2
    show bindC kindOf ((p, w) :: P.zip vs) m p = _
    unfold bindC
    rw [Zj0 fun v hv => (List.nodup_cons.mp nd).1 (List.of_mem_zip hv).1, if_neg hk]
    simp
  | p :: P, w :: vs, i + 1, m, nd, h1, h2, hk => by
    show bindC kindOf ((p, w) :: P.zip vs) m x = _
    unfold bindC
    exact Zj5 (i := i) (List.nodup_cons.mp nd).2 (by simpa using h1) (by simpa using h2) hk
noncomputable def start (N : List Str) (vs : List V) : St := vs.map some ++ List.replicate (N.length - vs.length) none
noncomputable def Zqx (CX : CXT) (P : Program) (w : World) (K : PySem.W.Frag) (mg : Str → Option Value) (base : Heap) (N : List Str) (qual : Str) (scope : Scope) (f : Addr) (cd : Value) (A : Around) (outer : List Env) (s : Shared) (H : Hp) (E : XK) : Cx where
  prog := P
  w := w
  K := K
  mg := mg
  base := base
  A := A.deeper (envOfC qual scope s.heap.objs.size f cd)
  N := N
  s₀ := s
  H₀ := H
  env := envOfC qual scope s.heap.objs.size f cd
  outer := outer
  stack := envOfC qual scope s.heap.objs.size f cd :: outer
  ex := []
  calm := true
  fn := fun _ => true
  pn := []
  xe := fun e s' => wpAny (model P w) (A.deeper (envOfC qual scope s.heap.objs.size f cd)) (leaving (envOfC qual scope s.heap.objs.size f cd) e) (fun _ s'' => CX outer H s E e s'') (fun e' s'' => CX outer H s E e' s'') s'
theorem Zl9 {sc : Scope} {n : Nat} {x : Str} (h : sc.names.lookup x = some .cell) : ∃ c, (cellsFrom n sc.names []).lookup x = some c := by
  have q := PySem.W.cellsFrom_some sc.names n [] (.inl h)
  exact Option.isSome_iff_exists.mp q
theorem Zom {CX : CXT} {P : Program} {w : World} {K : PySem.W.Frag} {mg : Str → Option Value} {base : Heap} {N ps : List Str} {qual : Str} {scope : Scope} {f : Addr} {cd : Value} {A : Around} {outer : List Env} {s s1 : Shared} {H : Hp} {E : XK} {us : List Value} {vs : List V}
    (S : Z8 N ps scope) (hd : A.handled = none) (e0 : Z14 P w K mg base A outer s H) (hl : vs.length = ps.length) (r : Vals vs us)
    (x : InCallC s s.heap.objs.size (bindL (envOfC qual scope s.heap.objs.size f cd).kindOf (ps.zip us) fun _ => none) (cellsFrom (s.heap.objs.size + 1) scope.names []) (bindC (envOfC qual scope s.heap.objs.size f cd).kindOf (ps.zip us) fun _ => none) s1) :
    Inv (Zqx CX P w K mg base N qual scope f cd A outer s H E) [] (start N vs) H s1 := by
  have hpl : ps.length ≤ N.length := by have := congrArg List.length S.pre; rw [List.length_take] at this; omega
  obtain ⟨h1, tk, rfl, hk⟩ := x.done
  have noA : ∀ b : Addr, b ∉ (Zqx CX P w K mg base N qual scope f cd A outer s H E).ex := fun b z => absurd (show b ∈ ([] : List Addr) from z) (by simp)
  refine ⟨⟨e0.mod, S.kind, rfl, rfl, Nat.le_refl _, fun y z c h1 h2 => ?_, fun y hy => ?_, fun y c _ h => ?_, fun _ => hd, Around.frames_deeper e0.frames, .inr ⟨rfl, rfl⟩, fun b z => absurd z (noA b), e0.bs, e0.bsz, fun b _ _ => noA b, fun b z => absurd z (noA b), e0.funs, e0.frf⟩,
    rfl, e0.bare, Un.kept hk, ⟨_, x.toInCall.ns, fun i y v h1 h2 h3 => ?_⟩, fun y c h => ⟨_, x.cell y c h⟩, e0.hok.fresh (Nat.le_refl _), fun y c h => ?_, fun p hp => absurd (show p ∈ ([] : List (Addr × Obj)) from hp) (by simp), e0.hok.kept hk, ?_⟩
  · exact name_of_addr x.apart (PySem.mem_of_lookup h1) (PySem.mem_of_lookup h2)
  · have hy : scope.names.lookup y = some .cell ∨ scope.names.lookup y = some .free := hy
    rcases hy with hy | hy
    · exact Zl9 hy
    · exact absurd rfl (S.nofree _ (PySem.mem_of_lookup hy))
  · exact Nat.le_of_lt (x.above y c (PySem.mem_of_lookup h))
  · have hi : i < vs.length := by
      unfold start at h2
      by_cases hi : i < vs.length
      · exact hi
      · rw [List.getElem?_append_right (by simpa using hi)] at h2
        rw [List.getElem?_replicate] at h2
        split at h2 <;> cases h2
    have ha : vs[i]? = some v := by
      unfold start at h2
      rw [List.getElem?_append_left (by simpa using hi), List.getElem?_map] at h2
      cases e : vs[i]? with
      | none => rw [e] at h2; cases h2
      | some a => rw [e] at h2; cases h2; rfl
    obtain ⟨u, hu, rv⟩ := r.get ha
    have hp : ps[i]? = some y := by
      rw [← S.pre, List.getElem?_take_of_lt (by omega)]; exact h1
    have ndP : ps.Nodup := by rw [← S.pre]; exact S.nd.sublist (List.take_sublist _ _)
    refine ⟨u, rv, ?_⟩
    rcases S.par y (List.mem_of_getElem? hp) with k | k
    · exact .inl ⟨k, Zjt ndP hp hu k⟩
    · obtain ⟨c, e⟩ := Zl9 (n := s.heap.objs.size + 1) k
      refine .inr ⟨.inl k, c, e, ?_⟩
      have q := x.cell y c e
      rw [Zj5 ndP hp hu (by show scope.names.lookup y ≠ _; rw [k]; decide)] at q
      exact q
  · exact e0.hok.fresh (Nat.le_of_lt (x.above y c (PySem.mem_of_lookup h)))
  · unfold start
    show _ = N.length
    rw [List.length_append, List.length_map, List.length_replicate]
    omega
theorem Zx7 {CX : CXT} {P : Program} {w : World} {K : PySem.W.Frag} {mg : Str → Option Value} {base : Heap} {k : Nat} {f : Addr} {name qual : Str} {params : Arguments} {body : List Stmt} {scope : Scope} {dV kV doc pm cdv ct oc : Value} {an od : Option Addr}
    {osl : Array (Option Value)} {N ps : List Str} {sp : Sp} (lk : K.lookup f = some ⟨oc, od, .func (PySem.W.fnOf name qual params body scope dV kV doc pm an cdv ct), osl⟩) (hcd : PySem.W.codeIn K cdv qual = true) (S : Z8 N ps scope)
    (len : ∀ vs H Q E, sp vs H Q E → vs.length = ps.length)
    (hbody : ∀ (A : Around) (outer : List Env) (s : Shared) (H : Hp) (vs : List V) (Q : VK) (E : XK), Room k (A.deeper (envOfC qual scope s.heap.objs.size f cdv)) → sp vs H Q E →
      ∃ t, PSs (Zqx CX P w K mg base N qual scope f cdv A outer s H E) body t ∧ t { nx := fun _ H' => Q .non H', rt := Q } (start N vs) H) :
    FnOk P w K mg base CX (k + 1) f (PySem.W.fnOf name qual params body scope dV kV doc pm an cdv ct) ps sp := by
  refine ⟨len, fun A outer s H args us vs Q E hr e0 hb r hsp => ?_⟩
  have hl := len _ _ _ _ hsp
  have KX : K.In s.heap := e0.mod.kin.keeps fun b o e => (e0.bs b o e).1
  have lim : s.heap.NoLimit := e0.mod.nolimit.keeps fun b o e => (e0.bs b o e).1
  have hkind : ∀ y ∈ ps.zip us, scope.names.lookup y.1 = some .local ∨ (scope.names.lookup y.1 = some .cell ∧ ((cellsFrom (s.heap.objs.size + 1) scope.names []).lookup y.1).isSome = true) := fun ⟨n, v⟩ hy => by
    rcases S.par n (List.of_mem_zip hy).1 with q | q
    · exact .inl q
    · exact .inr ⟨q, PySem.W.cellsFrom_some _ _ _ (.inl q)⟩
  refine codeAny_call_function hr.depth (KX _ _ lk) rfl S.co S.gen rfl (PySem.W.codeRec_of KX hcd) (hb _ _ _ _ ?_)
  refine wpAny_newFunctionEnv_cells S.kind hkind fun env he s1 x => ?_
  subst he
  refine ⟨lim.keeps x.toInCall.keep, codeAny_func ?_⟩
  obtain ⟨t, ht, hq⟩ := hbody A outer s H vs Q E (hr.deeper _) hsp
  have I : Inv (Zqx CX P w K mg base N qual scope f cdv A outer s H E) [] (start N vs) H s1 := Zom S hr.hd e0 hl r x
  refine wpAny_mono (ht [] s1 (start N vs) H _ I hq) (fun fl s' hs => ?_) fun e s' hs => hs
  have fin : ∀ {σ' : St} {H' : Hp} {v : V} {u : Value}, Inv (Zqx CX P w K mg base N qual scope f cdv A outer s H E) [] σ' H' s' → RelV v u → Q v H' → CE outer P w H s Q u s' :=
    fun {σ' H' v u} J rv q => ⟨v, H', J.os, J.bare, J.base, J.hok, rv, q⟩
  cases fl with
  | ret u =>
    obtain ⟨v, σ', H', J, rv, q⟩ := hs
    exact fin J rv q
  | next =>
    obtain ⟨σ', H', J, q⟩ := hs
    exact fin (v := V.non) (u := Value.none) J rfl q
  | brk =>
    obtain ⟨_, _, _, q⟩ := hs
    exact False.elim q
  | cont =>
    obtain ⟨_, _, _, q⟩ := hs
    exact False.elim q
end L2
namespace L2
open PySem PySem.Spec PyProof.Rows
section
variable {X : Cx} {x : Str} {p pos : Pos} {e : Expr} {es : List Expr} {t : TA} {id T : String} {r : List V → Hp → VK → Prop}
noncomputable def tCB (r : List V → Hp → VK → Prop) (t : TA) : TE := fun σ H Q => t σ H fun vs H1 => r vs H1 Q
theorem Ziq (hc : Zeo X (.builtin id) r) (hg : Gl X x) (hm : X.mg x = none) (hv : bootBuiltins x = some (.builtin id)) (ha : PA X (e :: es) t) (hn : x ≠ "__name__" := by decide) (hdb : (x == ("__debug__" : Str)) = false := by decide)
    (he : starEach (e :: es) X.env = (false, eval e X.env) :: starEach es X.env := by rfl) (hpl : (backTo pos (starEach es X.env)).any (·.1) = false := by rfl) : PE X (.Call (.Name x p) (e :: es) [] pos) (tCB r t) := by
  intro pins s σ H Q I h
  refine wpAny_Call_Name_kw (Ziw I hg hm hv ?_ hn hdb)
  refine PyProof.Rows.callWith_builtin1 (thn (ha pos pins s σ H _ I h) fun us s1 qz9 => ?_) he hpl
  obtain ⟨vs, H1, I1, r1, q1⟩ := qz9
  exact hc pins s1 σ H1 vs us Q I1 r1 q1
theorem Zft (hc : Zeo X (.type T) r) (hg : Gl X x) (hm : X.mg x = none) (hv : bootBuiltins x = some (.type T)) (ha : PA X (e :: es) t) (hn : x ≠ "__name__" := by decide) (hdb : (x == ("__debug__" : Str)) = false := by decide)
    (he : starEach (e :: es) X.env = (false, eval e X.env) :: starEach es X.env := by rfl) (hpl : (backTo pos (starEach es X.env)).any (·.1) = false := by rfl) : PE X (.Call (.Name x p) (e :: es) [] pos) (tCB r t) := by
  intro pins s σ H Q I h
  refine wpAny_Call_Name_kw (Ziw I hg hm hv ?_ hn hdb)
  refine PyProof.Rows.callWith_type1 (thn (ha pos pins s σ H _ I h) fun us s1 qz9 => ?_) he hpl
  obtain ⟨vs, H1, I1, r1, q1⟩ := qz9
  exact hc pins s1 σ H1 vs us Q I1 r1 q1
end
end L2
namespace HT
open PySem PyProof.Rows
section
open PySem.SeqAt
open PySem.AutoSeq1 (wpAny_loadPart')
open PySem.MeetsSeq PySem.MeetsSeq2 PySem.MeetsSeq3
end
section
variable {prog : Program} {w : World} {A : Around} {E : Value → Shared → Prop} {s : Shared}
noncomputable def sIx (n d : Nat) : Option Int → Nat
  | none => d
  | some v => if v < 0 then (v + (n : Int)).toNat else min v.toNat n
theorem sIx_none (n d : Nat) : sIx n d none = d := rfl
theorem sIx_nat (n d k : Nat) : sIx n d (some (k : Int)) = min k n := by
  show (if (k : Int) < 0 then ((k : Int) + (n : Int)).toNat else min (k : Int).toNat n) = min k n
  rw [if_neg (by omega), Int.toNat_natCast]
end
end HT
namespace L2
open PySem PySem.Spec PyProof.Rows
noncomputable abbrev TO := St → Hp → (Option Int → Hp → Prop) → Prop
noncomputable def PO (X : Cx) (e : Option Expr) (t : TO) : Prop :=
  ∀ (pins : List (Addr × Obj)) (s : Shared) (σ : St) (H : Hp) (Q : Option Int → Hp → Prop), Inv X pins σ H s → t σ H Q →
    wpAny (model X.prog X.w) X.A (evalPart e X.env) (fun u s' => ∃ o H', Inv X pins σ H' s' ∧ IsPart u o ∧ Q o H') X.xe s
noncomputable def Zuj : TO := fun _ H Q => Q none H
noncomputable def Z35 (t : TE) : TO := fun σ H Q => t σ H fun x H1 => ∃ i, x = .int i ∧ Q (some i) H1
section
variable {X : Cx} {e : Expr} {te : TE} {lo hi : Option Expr} {tl th : TO} {pos p2 : Pos}
theorem Zuc : PO X none Zuj := by
  intro pins s σ H Q I h
  rw [evalPart_none]
  exact wpAny_pure ⟨none, H, I, .none, h⟩
theorem Zvi (h : PE X e te) : PO X (some e) (Z35 te) := by
  intro pins s σ H Q I hw
  rw [evalPart_some]
  refine thn (h pins s σ H _ I hw) fun u s1 qz9 => ?_
  obtain ⟨x, H1, I1, r1, q1⟩ := qz9
  obtain ⟨i, rfl, q⟩ := q1
  obtain ⟨t, rfl⟩ := r1
  exact ⟨some i, H1, I1, .int i t, q⟩
noncomputable def SlR (X : Cx) (r : V → Option Int → Option Int → Hp → VK → Prop) : Prop :=
  ∀ (pins : List (Addr × Obj)) (s : Shared) (σ : St) (H : Hp) (x : V) (v vl vu : Value) (lo hi : Option Int) (sl : Addr) (Q : VK), Inv X pins σ H s → RelV x v → s.heap.IsSliceOf sl vl vu .none → IsPart vl lo → IsPart vu hi → r x lo hi H Q →
    ∃ T id, typeLookup (.type T) "__getitem__" = pure (some (.builtin id)) ∧ s.TypeIs v T ∧ wpAny (model X.prog X.w) X.A (getItem v (.ref sl)) (EP X pins σ Q) X.xe s
noncomputable def tSl (r : V → Option Int → Option Int → Hp → VK → Prop) (te : TE) (tl th : TO) : TE := fun σ H Q => te σ H fun x H1 => tl σ H1 fun l H2 => th σ H2 fun u H3 => r x l u H3 Q
theorem Zra {r : V → Option Int → Option Int → Hp → VK → Prop} (hr : SlR X r) (he : PE X e te) (hl : PO X lo tl) (hu : PO X hi th) : PE X (.Subscript e (.Slice lo hi none p2) pos) (tSl r te tl th) := by
  intro pins s σ H Q I h
  refine Subscript_ (thn (he pins s σ H _ I h) fun v s1 qz9 => ?_)
  obtain ⟨x, H1, I1, r1, q1⟩ := qz9
  refine wpAny_Slice (thn (hl pins s1 σ H1 _ I1 q1) fun vl s2 qz9 => ?_)
  obtain ⟨l, H2, I2, pl, q2⟩ := qz9
  refine thn (hu pins s2 σ H2 _ I2 q2) fun vu s3 qz9 => ?_
  obtain ⟨u, H3, I3, pu, q3⟩ := qz9
  rw [evalPart_none]
  refine wpAny_pure ?_
  have I4 : Inv X pins σ H3 { s3 with heap := s3.heap.push { cls := .type "slice", data := .fields #[vl, vu, .none] } } := I3.kept (t' := s3.toks) fun b ob q => Heap.get?_push_of_some _ q
  obtain ⟨T, id, hT, ht, hg⟩ := hr pins { s3 with heap := s3.heap.push { cls := .type "slice", data := .fields #[vl, vu, .none] } } σ H3 x v vl vu l u s3.heap.objs.size Q I4 r1 (Heap.IsSliceOf.new ..) pl pu q3
  show wpAny (model X.prog X.w) X.A (subscriptTail e (.Slice lo hi none p2) v (.ref s3.heap.objs.size)) (EP X pins σ Q) X.xe { s3 with heap := s3.heap.push { cls := .type "slice", data := .fields #[vl, vu, .none] } }
  exact tail_any (ops := [.ref s3.heap.objs.size, v]) ht hT hg (by with_unfolding_all rfl)
noncomputable def Zxa (xs : List V) (lo hi : Option Int) : List V := (xs.drop (HT.sIx xs.length 0 lo)).take (HT.sIx xs.length xs.length hi - HT.sIx xs.length 0 lo)
theorem Zkn (xs : List V) (lo hi : Option Int) : (Zxa xs lo hi).length ≤ xs.length := by
  unfold Zxa
  rw [List.length_take, List.length_drop]
  omega
end
end L2
namespace L2
open PySem PySem.Spec PyProof.Rows
noncomputable def ixN (n : Nat) (i : Int) : Option Nat := if 0 ≤ i then (if i < n then some i.toNat else none) else if -(n : Int) ≤ i then some (i + n).toNat else none
noncomputable def atI {α : Type} (xs : List α) (i : Int) : Option α := (ixN xs.length i).bind fun j => xs[j]?
theorem Zk9 {n : Nat} {i : Int} {j : Nat} (h : ixN n i = some j) : seqIndex? i n = some j ∧ j < n ∧ -(n : Int) ≤ i ∧ i < n := by
  unfold ixN at h
  by_cases h0 : 0 ≤ i
  · rw [if_pos h0] at h
    by_cases h1 : i < n
    · rw [if_pos h1] at h
      have e : i.toNat = j := Option.some.inj h
      exact ⟨by rw [seqIndex_of h0 h1, e], by omega, by omega, h1⟩
    · rw [if_neg h1] at h; cases h
  · rw [if_neg h0] at h
    by_cases h1 : -(n : Int) ≤ i
    · rw [if_pos h1] at h
      have e : (i + n).toNat = j := Option.some.inj h
      exact ⟨by rw [seqIndex_neg (by omega) h1, e], by omega, h1, by omega⟩
    · rw [if_neg h1] at h; cases h
theorem Zkw {α : Type} {xs : List α} {i : Int} {v : α} (h : atI xs i = some v) : ∃ j, seqIndex? i xs.length = some j ∧ xs[j]? = some v ∧ j < xs.length ∧ -(xs.length : Int) ≤ i ∧ i < xs.length := by
  unfold atI at h
  cases e : ixN xs.length i with
  | none => rw [e] at h; cases h
  | some j =>
    rw [e] at h
    obtain ⟨h1, h2, h3, h4⟩ := Zk9 e
    exact ⟨j, h1, h, h2, h3, h4⟩
theorem Zrp {α : Type} (xs : List α) (v : α) : atI (xs ++ [v]) (-1) = some v := by
  have hl : (xs ++ [v]).length = xs.length + 1 := by simp
  have e : ixN (xs ++ [v]).length (-1) = some xs.length := by
    unfold ixN
    rw [hl, if_neg (by decide), if_pos (by omega)]
    congr 1
    omega
  unfold atI
  rw [e]
  show (xs ++ [v])[xs.length]? = some v
  simp
noncomputable def Zk3 (b : Expr) : Prop := ∀ o i, subscripted b false o i = operate [o, i] (getItem o i)
noncomputable def IxR (X : Cx) (r : R2) : Prop :=
  ∀ (value slice : Expr) (pins : List (Addr × Obj)) (s : Shared) (σ : St) (H : Hp) (x y : V) (v u : Value) (Q : VK), Inv X pins σ H s → RelV x v → RelV y u → r x y H Q →
    subscripted slice false v u = operate [v, u] (getItem v u) → wpAny (model X.prog X.w) X.A (subscriptTail value slice v u) (EP X pins σ Q) X.xe s
noncomputable def MtR (X : Cx) (id : String) (r : V → List V → Hp → VK → Prop) : Prop :=
  ∀ (pins : List (Addr × Obj)) (s : Shared) (σ : St) (H : Hp) (x : V) (xs : List V) (v : Value) (us : List Value) (Q : VK), Inv X pins σ H s → RelV x v → Vals xs us → r x xs H Q →
    wpAny (model X.prog X.w) X.A (call (.builtin id) (v :: us)) (EP X pins σ Q) X.xe s
section
variable {X : Cx} {a b : Expr} {ta tb : TE} {pos : Pos}
theorem IxR.or {r r' : R2} (h : IxR X r) (h' : IxR X r') : IxR X (fun x y H Q => r x y H Q ∨ r' x y H Q) := by
  intro value slice pins s σ H x y v u Q I rx ry q hs
  rcases q with q | q
  · exact h value slice pins s σ H x y v u Q I rx ry q hs
  · exact h' value slice pins s σ H x y v u Q I rx ry q hs
theorem Zy6 {r : R2} (hr : IxR X r) (ha : PE X a ta) (hb : PE X b tb) (hs : Zk3 b) : PE X (.Subscript a b pos) (tOp r ta tb) := by
  intro pins s σ H Q I h
  exact Subscript_ (Z29 ha hb I h fun v u s2 x y H2 I2 rx ry q => hr a b pins s2 σ H2 x y v u Q I2 rx ry q (hs _ _))
noncomputable def Z3f (K : PySem.W.Frag) : R2 := fun x y H Q => ∃ p xs i v, x = .ref p ∧ y = .int i ∧ SqL K H p xs ∧ atI xs i = some v ∧ Q v H
noncomputable def Z5l (K : PySem.W.Frag) : R2 := fun x y H Q => ∃ p xs i v, x = .ref p ∧ y = .int i ∧ SqT K H p xs ∧ atI xs i = some v ∧ Q v H
noncomputable def Z4w : R2 := fun x y H Q => ∃ z i c, x = .str z ∧ y = .int i ∧ z.length ≤ sizeLine ∧ atI z.cps.toList i = some c ∧ Q (.str ⟨#[c]⟩) H
theorem Zpo : IxR X (Z3f X.K) := by
  intro value slice pins s σ H x y v u Q I rx ry h hs
  obtain ⟨p, xs, i, z, rfl, rfl, hq, he, q⟩ := h
  cases rx
  obtain ⟨t, rfl⟩ := ry
  obtain ⟨its, r, pl, hz⟩ := I.list hq
  obtain ⟨j, h1, h2, h3, h4, h5⟩ := Zkw he
  obtain ⟨w, ew, rw'⟩ := r.get h2
  have hl := r.length
  have hn := Zgy
  have fin : EP X pins σ Q w s := ⟨z, H, I, rw', q⟩
  by_cases h0 : 0 ≤ i
  · have hj : i.toNat = j := by
      rw [seqIndex_of h0 h5] at h1
      exact Option.some.inj h1
    exact item_listR pl.isList h0 (by omega) (by rw [hj]; simpa using ew) fin hs
  · have hj : (i + (its.toArray.size : Int)).toNat = j := by
      rw [seqIndex_neg (by omega) h4] at h1
      rw [List.size_toArray, ← hl]
      exact Option.some.inj h1
    exact subscriptTail_builtinR (x := w) pl.isList.typeIs slot_list_getitem.lookup
      (wpAny_getItem_list_neg (Q := fun r s' => r = w ∧ EP X pins σ Q r s') pl.isList (by omega) (by rw [List.size_toArray] <;> omega) (by omega) (by rw [hj]; simpa using ew) ⟨rfl, fin⟩) hs
theorem Zz9 : IxR X (Z5l X.K) := by
  intro value slice pins s σ H x y v u Q I rx ry h hs
  obtain ⟨p, xs, i, z, rfl, rfl, hq, he, q⟩ := h
  cases rx
  obtain ⟨t, rfl⟩ := ry
  obtain ⟨its, r, pl, hz⟩ := I.tuple hq
  obtain ⟨j, h1, h2, h3, h4, h5⟩ := Zkw he
  obtain ⟨w, ew, rw'⟩ := r.get h2
  have hl := r.length
  have hn := Zgy
  have fin : EP X pins σ Q w s := ⟨z, H, I, rw', q⟩
  exact subscriptTail_builtinR (x := w) pl.typeIs slot_tuple_getitem.lookup
    (getItem_tuple (j := j) (Q := fun r s' => r = w ∧ EP X pins σ Q r s') pl (by omega) (by omega) (by rw [List.size_toArray, ← hl]; exact h1) (by simpa using ew) ⟨rfl, fin⟩) hs
theorem Z00 : IxR X Z4w := by
  intro value slice pins s σ H x y v u Q I rx ry h hs
  obtain ⟨z, i, c, rfl, rfl, hz, he, q⟩ := h
  obtain ⟨t, rfl⟩ := rx
  obtain ⟨t', rfl⟩ := ry
  obtain ⟨j, h1, h2, h3, h4, h5⟩ := Zkw he
  have hl : z.cps.toList.length = z.length := by simp [Str.length]
  rw [hl] at h1 h4 h5
  have hn := Zgy
  exact tail_any (typeIs_str s z t) slot_str_getitem.lookup (getItem_str (c := c) (by
    have e1 : decide (i < -(2 ^ 63 : Int)) = false := decide_eq_false (by omega)
    have e2 : decide (i ≥ 2 ^ 63) = false := decide_eq_false (by omega)
    rw [e1, e2, Bool.or_false]) (by rw [h1]; simpa using h2) ⟨.str ⟨#[c]⟩, H, I.tok _, ⟨_, rfl⟩, q⟩) hs
noncomputable def rIx (K : PySem.W.Frag) : R2 := fun x y H Q => Z3f K x y H Q ∨ Z5l K x y H Q ∨ Z4w x y H Q
theorem Zz3 : IxR X (rIx X.K) := Zpo.or (Zz9.or Z00)
theorem Zmn (its : List Value) (n j : Nat) (u : Value) : Obj.mapSeq (·.setIfInBounds j u) { cls := .type "list", data := .seq its.toArray n } = { cls := .type "list", data := .seq (its.set j u).toArray n } := by
  simp [Obj.mapSeq]
theorem Inv.lst {pins : List (Addr × Obj)} {σ : St} {H : Hp} {s : Shared} {p : Addr} {xs : List V} (I : Inv X pins σ H s) (h : H p = some (.lst xs)) :
    ∃ (its : List Value) (n : Nat), Vals xs its ∧ s.heap.get? p = some { cls := .type "list", data := .seq its.toArray n } ∧ xs.length ≤ sizeLine := by
  obtain ⟨z, its, n, r, e⟩ := I.hok p _ h
  exact ⟨its, n, r, e, z⟩
theorem Inv.lstUpd {pins : List (Addr × Obj)} {σ : St} {H : Hp} {s : Shared} {p : Addr} {xs ys : List V} {its its' : List Value} {n n' : Nat} {f : Obj → Obj} (I : Inv X pins σ H s) (h : H p = some (.lst xs))
    (ho : s.heap.get? p = some { cls := .type "list", data := .seq its.toArray n }) (hf : f { cls := .type "list", data := .seq its.toArray n } = { cls := .type "list", data := .seq its'.toArray n' }) (r : Vals ys its') (hz : ys.length ≤ sizeLine) (t : Nat) :
    Inv X pins σ (upd H p (.lst ys)) { s with heap := s.heap.update p f, toks := t } := by
  have e : (s.heap.update p f).get? p = some { cls := .type "list", data := .seq its'.toArray n' } := by
    rw [Heap.get?_update_self f ho (by rw [hf] <;> rfl), hf]
  refine I.write (x := p) (e := p) (by rw [h]; trivial) (.inl rfl) (fun b u hb q => (Heap.get?_update_other _ _ (Ne.symm hb)).trans q) ⟨_, e⟩ ?_
  exact ⟨hz, its', n', r, e⟩
noncomputable def Zym : V → V → V → Hp → (Hp → Prop) → Prop := fun o i v H Q => ∃ p xs k j, o = .ref p ∧ i = .int k ∧ H p = some (.lst xs) ∧ ixN xs.length k = some j ∧ Q (upd H p (.lst (xs.set j v)))
theorem set_list : Z52 X Zym := by
  intro pins s σ H o i v ov iv u Q I ro ri rv h
  obtain ⟨p, xs, k, j, rfl, rfl, hp, hj, q⟩ := h
  cases ro
  obtain ⟨t, rfl⟩ := ri
  obtain ⟨its, n, r, ho, hz⟩ := I.lst hp
  obtain ⟨h1, h2, h3, h4⟩ := Zk9 hj
  have hl := r.length
  have hn := Zgy
  have I' : Inv X pins σ (upd H p (.lst (xs.set j v))) { s with heap := s.heap.update p (Obj.mapSeq (·.setIfInBounds j u)) } :=
    I.lstUpd hp ho (Zmn its n j u) (r.set rv j) (by rw [List.length_set]; exact hz) s.toks
  by_cases h0 : 0 ≤ k
  · have hk : k.toNat = j := by
      rw [seqIndex_of h0 h4] at h1
      exact Option.some.inj h1
    exact PySem.W.ki_setAt ho h0 (by omega) (by rw [List.size_toArray, ← hl]; exact h4) (by rw [hk]; exact ⟨_, I', q⟩)
  · have hk : (k + (its.toArray.size : Int)).toNat = j := by
      rw [seqIndex_neg (by omega) h3] at h1
      rw [List.size_toArray, ← hl]
      exact Option.some.inj h1
    exact PySem.W.ki_setBack ho (by omega) (by rw [List.size_toArray, ← hl]; exact h3) (by omega) (by rw [hk]; exact ⟨_, I', q⟩)
theorem Zja (lo hi : Option Int) (n : Nat) : (sliceBounds lo hi none n).1 = ((HT.sIx n 0 lo : Nat) : Int) ∧ (sliceBounds lo hi none n).2.1 = ((HT.sIx n n hi : Nat) : Int) ∧ (sliceBounds lo hi none n).2.2 = 1 := by
  refine ⟨?_, ?_, rfl⟩
  · cases lo with
    | none => simp [sliceBounds, HT.sIx]
    | some i =>
      simp only [sliceBounds, HT.sIx, Option.getD_none, show (1 : Int) > 0 by decide, if_true]
      by_cases h : i < 0
      · simp only [h, if_true] <;> omega
      · simp only [h, if_false] <;> omega
  · cases hi with
    | none => simp [sliceBounds, HT.sIx]
    | some i =>
      simp only [sliceBounds, HT.sIx, Option.getD_none, show (1 : Int) > 0 by decide, if_true]
      by_cases h : i < 0
      · simp only [h, if_true] <;> omega
      · simp only [h, if_false] <;> omega
theorem Zie (its : List Value) (lo hi : Option Int) : slicePick its.toArray lo hi none = ((its.drop (HT.sIx its.length 0 lo)).take (HT.sIx its.length its.length hi - HT.sIx its.length 0 lo)).toArray := by
  obtain ⟨h1, h2, h3⟩ := Zja lo hi its.toArray.size
  unfold slicePick
  rw [h1, h2, h3]
  simp only [sliceRange_one, pick_run, List.size_toArray] <;> rfl
noncomputable def Z4v (K : PySem.W.Frag) : V → Option Int → Option Int → Hp → VK → Prop := fun x lo hi H Q => ∃ a xs, x = .ref a ∧ SqL K H a xs ∧ ∀ p, H p = none → Q (.ref p) (upd H p (.lst (Zxa xs lo hi)))
theorem Zv0 : SlR X (Z4v X.K) := by
  intro pins s σ H x v vl vu lo hi sl Q I rx hs pl pu h
  obtain ⟨a, xs, rfl, hx, q⟩ := h
  cases rx
  obtain ⟨its, r, ht, hz⟩ := I.list hx
  have hlen := r.length
  refine ⟨"list", _, slot_list_getitem.lookup, ht.isList.typeIs, ?_⟩
  refine wpAny_getItem_list_slice ht.isList hs pl pu .none (by simp) ?_ (by rw [List.size_toArray] <;> omega)
  rw [Zie, ← hlen]
  refine ⟨.ref s.heap.objs.size, _, I.laid (t' := s.toks) (o := .lst (Zxa xs lo hi)) (fun b ob q => Heap.get?_push_of_some _ q) (Nat.le_refl _) ?_, rfl, q _ (I.hok.fresh (Nat.le_refl _))⟩
  exact ⟨Nat.le_trans (Zkn xs lo hi) hz, _, 0, (r.drop (HT.sIx xs.length 0 lo)).take (HT.sIx xs.length xs.length hi - HT.sIx xs.length 0 lo), Heap.get?_push_size _ rfl⟩
noncomputable def Zf1 : V → Bool
  | .non => true
  | .bl _ => true
  | .int _ => true
  | .str _ => true
  | _ => false
noncomputable def eqV : V → V → Bool
  | .non, .non => true
  | .bl a, .bl b => a == b
  | .bl a, .int b => (if a then 1 else 0) == b
  | .int a, .bl b => a == (if b then 1 else 0)
  | .int a, .int b => a == b
  | .str a, .str b => a == b
  | _, _ => false
theorem Zz5 {A : Around} {s : Shared} {y x : V} {u v : Value} (ry : RelV y u) (rx : RelV x v) (fy : Zf1 y = true) (fx : Zf1 x = true) : SeqAt.EqAt A s u v (eqV y x) := by
  cases y with
  | non =>
    cases ry
    cases x with
    | non => cases rx; exact SeqAt.EqAt.same _
    | bl b => cases rx; exact SeqAt.EqAt.none_bool b
    | int b => obtain ⟨t, rfl⟩ := rx; exact SeqAt.EqAt.none_int b t
    | str b => obtain ⟨t, rfl⟩ := rx; exact SeqAt.EqAt.none_str b t
    | _ => exact absurd (show false = true from fx) Bool.false_ne_true
  | bl a =>
    cases ry
    cases x with
    | non => cases rx; exact SeqAt.EqAt.bool_none a
    | bl b => cases rx; exact SeqAt.EqAt.bool_bool a b
    | int b => obtain ⟨t, rfl⟩ := rx; exact SeqAt.EqAt.bool_int a b t
    | str b => obtain ⟨t, rfl⟩ := rx; exact SeqAt.EqAt.bool_str a b t
    | _ => exact absurd (show false = true from fx) Bool.false_ne_true
  | int a =>
    obtain ⟨t', rfl⟩ := ry
    cases x with
    | non => cases rx; exact SeqAt.EqAt.int_none a t'
    | bl b => cases rx; exact SeqAt.EqAt.int_bool a t' b
    | int b => obtain ⟨t, rfl⟩ := rx; exact SeqAt.EqAt.int_int a t' b t
    | str b => obtain ⟨t, rfl⟩ := rx; exact SeqAt.EqAt.int_str a t' b t
    | _ => exact absurd (show false = true from fx) Bool.false_ne_true
  | str a =>
    obtain ⟨t', rfl⟩ := ry
    cases x with
    | non => cases rx; exact SeqAt.EqAt.str_none a t'
    | bl b => cases rx; exact SeqAt.EqAt.str_bool a t' b
    | int b => obtain ⟨t, rfl⟩ := rx; exact SeqAt.EqAt.str_int a t' b t
    | str b => obtain ⟨t, rfl⟩ := rx; exact SeqAt.EqAt.str_str a t' b t
    | _ => exact absurd (show false = true from fx) Bool.false_ne_true
  | _ => exact absurd (show false = true from fy) Bool.false_ne_true
noncomputable def eqU (x : V) (u : Value) : Bool := match u with
  | .none => eqV .non x
  | .bool b => eqV (.bl b) x
  | .int i _ => eqV (.int i) x
  | .str z _ => eqV (.str z) x
  | _ => false
theorem Zt4 {x y : V} {u : Value} (r : RelV y u) (f : Zf1 y = true) : eqU x u = eqV y x := by
  cases y with
  | non => cases r; rfl
  | bl b => cases r; rfl
  | int i => obtain ⟨t, rfl⟩ := r; rfl
  | str z => obtain ⟨t, rfl⟩ := r; rfl
  | _ => exact absurd (show false = true from f) Bool.false_ne_true
theorem Zoj {x : V} {xs : List V} {us : List Value} (h : Vals xs us) (f : xs.all Zf1 = true) : us.any (eqU x) = xs.any fun y => eqV y x := by
  induction h with
  | nil => rfl
  | cons r t ih =>
    rw [List.all_cons, Bool.and_eq_true] at f
    rw [List.any_cons, List.any_cons, Zt4 r f.1, ih f.2]
theorem Zlm {A : Around} {s : Shared} {x : V} {v : Value} (rx : RelV x v) (fx : Zf1 x = true) {xs : List V} {us : List Value} (h : Vals xs us) (f : xs.all Zf1 = true) : ∀ u ∈ us, SeqAt.EqAt A s u v (eqU x u) := by
  induction h with
  | nil => intro u hu; cases hu
  | cons r t ih =>
    intro u' hu
    rw [List.all_cons, Bool.and_eq_true] at f
    rcases List.mem_cons.mp hu with rfl | hu
    · rw [Zt4 r f.1]; exact Zz5 r rx f.1 fx
    · exact ih f.2 u' hu
noncomputable def inV (x : V) (xs : List V) : Bool := xs.any fun y => eqV y x
noncomputable def rIn (K : PySem.W.Frag) (neg : Bool) : R2 := fun x y H Q => ∃ p xs, y = .ref p ∧ (SqL K H p xs ∨ SqT K H p xs) ∧ Zf1 x = true ∧ xs.all Zf1 = true ∧ Q (.bl (if neg then !inV x xs else inV x xs)) H
theorem Zok : OpR X (compareOp .In) (rIn X.K false) := by
  intro pins s σ H x y v u Q I rx ry h
  obtain ⟨p, xs, rfl, hq, fx, fs, q⟩ := h
  cases ry
  rcases hq with hq | hq
  · obtain ⟨its, r, pl, hz⟩ := I.list hq
    refine SeqAt.in_listAt (eqU x) pl.isList (fun w hw => Zlm rx fx r fs w (by simpa using hw)) ⟨.bl _, H, I, rfl, ?_⟩
    rw [show its.toArray.any (eqU x) = its.any (eqU x) by simp, Zoj r fs]
    exact q
  · obtain ⟨its, r, pl, hz⟩ := I.tuple hq
    refine SeqAt.in_tupleAt (eqU x) pl (fun w hw => Zlm rx fx r fs w (by simpa using hw)) ⟨.bl _, H, I, rfl, ?_⟩
    rw [show its.toArray.any (eqU x) = its.any (eqU x) by simp, Zoj r fs]
    exact q
theorem Zi4 : Zeo X (.builtin "len") (fun xs H Q => ∃ p ys, xs = [.ref p] ∧ (SqL X.K H p ys ∨ SqT X.K H p ys) ∧ Q (.int ys.length) H) := by
  intro pins s σ H xs us Q I r h
  obtain ⟨p, ys, rfl, hq, q⟩ := h
  obtain ⟨u, rfl, rx⟩ := vals1 r
  cases rx
  have hn := Zgy
  rcases hq with hq | hq
  · obtain ⟨its, r', pl, hz⟩ := I.list hq
    have hlen := r'.length
    exact Calls.call_len_list pl.isList (by simp only [List.size_toArray] <;> omega) ⟨.int ys.length, H, I.tok _, ⟨s.toks + 1, by rw [List.size_toArray, hlen]⟩, q⟩
  · obtain ⟨its, r', pl, hz⟩ := I.tuple hq
    have hlen := r'.length
    exact len_tuple pl (by simp only [List.size_toArray] <;> omega) ⟨.int ys.length, H, I.tok _, ⟨s.toks + 1, by rw [List.size_toArray, hlen]⟩, q⟩
noncomputable def tyV (K : PySem.W.Frag) (T : String) (x : V) (H : Hp) : Prop := match x with
  | .str _ => T = "str"
  | .int _ => T = "int"
  | .ref p => (T = "list" ∧ ∃ xs, SqL K H p xs) ∨ (T = "tuple" ∧ ∃ o, K.lookup p = some o ∧ o.cls = .type "tuple" ∧ o.dict = none) ∨
      (T = "dict" ∧ ((∃ kvs, H p = some (.dK kvs)) ∨ ∃ kvs, H p = some (.dT kvs))) ∨ (T = "set" ∧ ∃ S n, H p = some (.set S n))
  | _ => False
theorem Zzr {pins : List (Addr × Obj)} {σ : St} {H : Hp} {s : Shared} {T : String} {x : V} {v : Value} (I : Inv X pins σ H s) (r : RelV x v) (ty : tyV X.K T x H) :
    s.TypeIs v T ∧ ∀ a, v = .ref a → ∃ ob, s.heap.get? a = some ob ∧ ob.dict = none := by
  cases x with
  | str z =>
    obtain ⟨t, rfl⟩ := r
    cases (show T = "str" from ty)
    exact ⟨typeIs_str s z t, fun _ e => nomatch e⟩
  | int i =>
    obtain ⟨t, rfl⟩ := r
    cases (show T = "int" from ty)
    exact ⟨typeIs_int s i t, fun _ e => nomatch e⟩
  | ref p =>
    cases r
    rcases ty with ⟨rfl, xs, hq⟩ | ⟨rfl, o, hk, hc, hd⟩ | ⟨rfl, hk⟩ | ⟨rfl, S, n, hk⟩
    · obtain ⟨its, _, pl, _⟩ := I.list hq
      refine ⟨pl.isList.typeIs, fun a e => ?_⟩
      cases e
      obtain ⟨o, n, e, c, hd, _⟩ := pl
      exact ⟨o, e, hd⟩
    · refine ⟨⟨o, I.kIn p o hk, hc⟩, fun a e => ?_⟩
      cases e
      exact ⟨o, I.kIn _ o hk, hd⟩
    · have z : ∃ o, s.heap.get? p = some o ∧ o.ExactDict := by
        rcases hk with ⟨kvs, hk⟩ | ⟨kvs, hk⟩
        · obtain ⟨_, _, _, _, o, _, _, e, ex, _⟩ := I.hok p _ hk
          exact ⟨o, e, ex⟩
        · obtain ⟨_, _, _, _, o, _, _, e, ex, _⟩ := I.hok p _ hk
          exact ⟨o, e, ex⟩
      obtain ⟨o, e, ex⟩ := z
      refine ⟨⟨o, e, ex.1⟩, fun a e2 => ?_⟩
      cases e2
      exact ⟨o, e, ex.2.1⟩
    · obtain ⟨o, _, _, _, e, ex, _⟩ := I.hok p _ hk
      refine ⟨⟨o, e, ex.1⟩, fun a e2 => ?_⟩
      cases e2
      exact ⟨o, e, ex.2.1⟩
  | _ => exact False.elim ty
noncomputable def tBM (K : PySem.W.Frag) (T : String) (r : V → List V → Hp → VK → Prop) (to : TE) (t : TA) : TE := fun σ H Q => to σ H fun x H1 => tyV K T x H1 ∧ t σ H1 fun xs H2 => r x xs H2 Q
variable {o e : Expr} {es : List Expr} {to : TE} {t : TA} {name : Str} {apos cpos : Pos} {T id : String} {r : V → List V → Hp → VK → Prop}
theorem Zq7 (pa : PlainAttrs T) (slot : Slot T name id) (hty : typeOf (.builtin id) = pure (.type "method_descriptor")) (hm : MtR X id r) (ho : PE X o to) (ha : PA X (e :: es) t)
    (hbase : attributeBase o name X.env (eval o X.env) = eval o X.env := by rfl)
    (hfew : ((backTo cpos (starEach (e :: es) X.env)).all (fun x => !x.1) && (backToKw cpos (keywordEach [] X.env)).all (fun x => x.1.isSome)
      && decide ((e :: es).length + ([] : List Keyword).length + (if ([] : List Keyword).isEmpty then 0 else 1) < 30)) = true := by rfl)
    (hline : (apos.endLine == cpos.line) = true := by rfl) (hs : starEach (e :: es) X.env = (false, eval e X.env) :: starEach es X.env := by rfl) (hplain : (backTo cpos (starEach es X.env)).any (·.1) = false := by rfl) :
    PE X (.Call (.Attribute o name apos) (e :: es) [] cpos) (tBM X.K T r to t) := by
  intro pins s σ H Q I h
  refine wpAny_Call_method_late hbase hfew hline rfl (thn (ho pins s σ H _ I h) fun v s1 qz9 => ?_)
  obtain ⟨x, H1, I1, r1, ty, q1⟩ := qz9
  obtain ⟨h1, h2⟩ := Zzr I1 r1 ty
  refine ⟨T, id, pa, slot, hty, h1, h2, ?_⟩
  have hA := ha cpos pins s1 σ H1 _ I1 q1
  rw [hs] at hA ⊢
  refine Calls.callWith_builtin (by show (false || (backTo cpos (starEach es X.env)).any (·.1)) = false; rw [hplain] <;> rfl) (Calls.evalArgs_plain ?_)
  refine thn hA fun us s2 qz9 => ?_
  obtain ⟨vs, H2, I2, r2, q2⟩ := qz9
  exact hm pins s2 σ H2 x vs v us Q I2 r1 r2 q2
end
end L2
namespace L2
open PySem PySem.Spec PyProof.Rows
noncomputable def MtM (X : Cx) (id : String) (r : V → List V → Hp → VK → Prop) : Prop :=
  ∀ (pins : List (Addr × Obj)) (s : Shared) (σ : St) (H : Hp) (x : V) (xs : List V) (v : Value) (us : List Value) (Q : VK), Inv X pins σ H s → RelV x v → Vals xs us → r x xs H Q →
    wpAny (model X.prog X.w) X.A (call (.builtin id) (v :: us)) (EP X pins σ Q) X.xe s
theorem Vals.one {x : V} {us : List Value} (h : Vals [x] us) : ∃ u, us = [u] ∧ RelV x u := by
  cases h with
  | cons r t => cases t; exact ⟨_, rfl, r⟩
theorem Vals.eraseIdx : ∀ {xs : List V} {us : List Value} (i : Nat), Vals xs us → Vals (xs.eraseIdx i) (us.eraseIdx i)
  | _, _, _, .nil => .nil
  | _, _, 0, .cons _ t => t
  | _, _, i + 1, .cons r t => .cons r (Vals.eraseIdx i t)
theorem Vals.rep {xs : List V} {us : List Value} (h : Vals xs us) : ∀ k : Nat, Vals (List.replicate k xs).flatten (List.replicate k us).flatten
  | 0 => .nil
  | k + 1 => by
    rw [List.replicate_succ, List.replicate_succ, List.flatten_cons, List.flatten_cons]
    exact Vals.append h (Vals.rep h k)
theorem Zi3 {α : Type} : ∀ (l : List α) (i : Nat), (l.eraseIdx i).length ≤ l.length
  | [], _ => Nat.le_refl _
  | _ :: _, 0 => Nat.le_succ _
  | _ :: r, i + 1 => Nat.succ_le_succ (Zi3 r i)
theorem foldl_rep (its : List Value) : ∀ (k : Nat) (acc : List Value),
    List.foldl (fun x1 x2 => x1 ++ x2) acc.toArray (List.replicate k its.toArray) = (acc ++ (List.replicate k its).flatten).toArray
  | 0, acc => by simp
  | k + 1, acc => by
    have e : acc.toArray ++ its.toArray = (acc ++ its).toArray := by simp
    have e2 : (acc ++ its) ++ (List.replicate k its).flatten = acc ++ (List.replicate (k + 1) its).flatten := by
      rw [List.replicate_succ, List.flatten_cons, List.append_assoc]
    rw [← e2, ← foldl_rep its k (acc ++ its), ← e, List.replicate_succ, List.foldl_cons]
section
variable {X : Cx} {pins : List (Addr × Obj)} {σ : St} {H : Hp} {s : Shared} {l b : Addr} {xs ys zs : List V}
theorem Inv.lset {its its' : List Value} {n : Nat} {f : Array Value → Array Value} {t' : Nat} (I : Inv X pins σ H s) (hH : H l = some (.lst xs))
    (e : s.heap.get? l = some { cls := .type "list", data := .seq its.toArray n }) (hf : f its.toArray = its'.toArray) (hv : Vals ys its') (hz : ys.length ≤ sizeLine) :
    Inv X pins σ (upd H l (.lst ys)) { s with heap := s.heap.update l (Obj.mapSeq f), toks := t' } := by
  have q := PySem.IsL.update e f
  rw [hf] at q
  refine I.write (x := l) (e := l) (by rw [hH]; exact trivial) (.inl rfl) (fun b' u hb hu => (Heap.get?_update_other s.heap (Obj.mapSeq f) (Ne.symm hb)).trans hu) ⟨_, q⟩ ?_
  exact ⟨hz, its', _, hv, q⟩
theorem Inv.lnew {its : List Value} {t' : Nat} (I : Inv X pins σ H s) (hv : Vals ys its) (hz : ys.length ≤ sizeLine) :
    Inv X pins σ (upd H s.heap.objs.size (.lst ys)) { s with heap := s.heap.push { cls := .type "list", data := .seq its.toArray }, toks := t' } :=
  I.laid (fun _ _ q => Heap.get?_push_of_some _ q) (Nat.le_refl _) ⟨hz, its, 0, hv, Heap.get?_push_size _ rfl⟩
theorem Inv.fresh (I : Inv X pins σ H s) : H s.heap.objs.size = none := I.hok.fresh (Nat.le_refl _)
theorem Inv.lstM (I : Inv X pins σ H s) (hH : H l = some (.lst xs)) : xs.length ≤ sizeLine ∧ ∃ (its : List Value) (n : Nat), Vals xs its ∧ xs.length = its.length ∧ s.heap.get? l = some { cls := .type "list", data := .seq its.toArray n } := by
  obtain ⟨z, its, n, r, e⟩ := I.hok l _ hH
  exact ⟨z, its, n, r, r.length, e⟩
theorem Zmg {n : Nat} (h : n ≤ sizeLine) : Builtin.List.listTooLong n = false := by
  unfold Builtin.List.listTooLong
  exact decide_eq_false (by omega)
end
section
variable {X : Cx}
noncomputable def Zv3 : V → List V → Hp → VK → Prop := fun x vs H Q => ∃ l xs y, x = .ref l ∧ vs = [y] ∧ H l = some (.lst xs) ∧ xs.length < sizeLine ∧ Q .non (upd H l (.lst (xs ++ [y])))
theorem Zi9 : MtM X "list.append" Zv3 := by
  intro pins s σ H x vs v us Q I rx rv h
  obtain ⟨l, xs, y, rfl, rfl, hH, hz, q⟩ := h
  cases rx
  obtain ⟨u, rfl, ru⟩ := rv.one
  obtain ⟨z, its, n, r, hl, e⟩ := I.lstM hH
  refine call_meets F.slot_list_append ⟨_, e, rfl⟩ F.entry_list_append (F.args_list_append_2 _ _) (PySem.list_append l its.toArray n u (by rw [List.size_toArray]; omega)) ⟨e, ?_⟩
  refine ⟨.non, _, I.lset (its' := its ++ [u]) hH e (by simp) (r.append (.cons ru .nil)) ?_, rfl, q⟩
  rw [List.length_append, List.length_singleton]
  omega
noncomputable def Zv4 : V → List V → Hp → VK → Prop := fun x vs H Q => ∃ l b xs zs, x = .ref l ∧ vs = [.ref b] ∧ H l = some (.lst xs) ∧ H b = some (.lst zs) ∧ xs.length + zs.length ≤ sizeLine ∧ Q .non (upd H l (.lst (xs ++ zs)))
theorem Zpu : MtM X "list.extend" Zv4 := by
  intro pins s σ H x vs v us Q I rx rv h
  obtain ⟨l, b, xs, zs, rfl, rfl, hH, hB, hz, q⟩ := h
  cases rx
  obtain ⟨u, rfl, ru⟩ := rv.one
  cases ru
  obtain ⟨z, its, n, r, hl, e⟩ := I.lstM hH
  obtain ⟨z2, its2, n2, r2, hl2, e2⟩ := I.lstM hB
  have hsz : its.toArray.size + its2.toArray.size ≤ sizeLine := by rw [List.size_toArray, List.size_toArray]; omega
  have hlong : ¬ (!its.toArray.isEmpty && Builtin.List.listTooLong (its.toArray.size + its2.toArray.size)) = true := by
    rw [Zmg hsz, Bool.and_false]
    exact Bool.false_ne_true
  refine call_meets F.slot_list_extend ⟨_, e, rfl⟩ F.entry_list_extend (F.args_list_extend_2 _ _)
    (AutoSeq1.list_extend_list_list_0 l its.toArray n b its2.toArray n2 hlong (by rw [List.size_toArray]; omega) (by omega)) ⟨e, e2, ?_⟩
  refine ⟨.non, _, I.lset (its' := its ++ its2) hH e (by simp) (r.append r2) ?_, rfl, q⟩
  rw [List.length_append]
  omega
noncomputable def Z0b : V → List V → Hp → VK → Prop := fun x vs H Q => ∃ l xs i k y, x = .ref l ∧ vs = [.int i] ∧ H l = some (.lst xs) ∧ -(2 ^ 63) ≤ i ∧ i < 2 ^ 63 ∧ seqIndex? i xs.length = some k ∧ xs[k]? = some y ∧ Q y (upd H l (.lst (xs.eraseIdx k)))
theorem Zqz : MtM X "list.pop" Z0b := by
  intro pins s σ H x vs v us Q I rx rv h
  obtain ⟨l, xs, i, k, y, rfl, rfl, hH, h1, h2, hk, hy, q⟩ := h
  cases rx
  obtain ⟨u, rfl, ru⟩ := rv.one
  obtain ⟨t, rfl⟩ := ru
  obtain ⟨z, its, n, r, hl, e⟩ := I.lstM hH
  obtain ⟨w, hw, rw'⟩ := r.get hy
  refine call_meets F.slot_list_pop ⟨_, e, rfl⟩ F.entry_list_pop (F.args_list_pop_2 _ _)
    (MeetsSeq.list_pop_at l its.toArray n i t k w (fitsIndex_both h1 h2) (by rw [List.size_toArray, ← hl]; exact hk) (by rw [← Array.getElem?_toList]; exact hw) (by rw [List.size_toArray]; omega)) ⟨e, ?_⟩
  refine ⟨y, _, I.lset (its' := its.eraseIdx k) hH e ?_ (r.eraseIdx k) ?_, rw', q⟩
  · show its.toArray.eraseIdxIfInBounds k = (its.eraseIdx k).toArray
    rw [List.eraseIdxIfInBounds_toArray]
  · have := Zi3 xs k
    omega
noncomputable def Z7x : R2 := fun x y H Q => ∃ l k xs, x = .ref l ∧ y = .int k ∧ H l = some (.lst xs) ∧ -(2 ^ 63) ≤ k ∧ k < 2 ^ 63 ∧ xs.length * k.toNat ≤ sizeLine ∧
  ∀ p, H p = none → Q (.ref p) (upd H p (.lst (List.replicate k.toNat xs).flatten))
theorem len_rep {α : Type} (xs : List α) (k : Nat) : (List.replicate k xs).flatten.length = k * xs.length := by
  induction k with
  | zero => simp
  | succ k ih => rw [List.replicate_succ, List.flatten_cons, List.length_append, ih, Nat.succ_mul, Nat.add_comm]
theorem Zy3 : OpR X (binaryOp .Mult) Z7x := by
  intro pins s σ H x y v u Q I rx ry h
  obtain ⟨l, k, xs, rfl, rfl, hH, h1, h2, hz, q⟩ := h
  cases rx
  obtain ⟨t, rfl⟩ := ry
  obtain ⟨z, its, n, r, hl, e⟩ := I.lstM hH
  have hlen : its.toArray.size * k.toNat ≤ sizeLine := by rw [List.size_toArray, ← hl]; exact hz
  have hcap : ¬ its.toArray.size * k.toNat > (2 ^ 63 - 1) / 8 := by
    have : (sizeLine : Nat) ≤ (2 ^ 63 - 1) / 8 := by decide
    omega
  have hfit : ¬ (!Builtin.List.listFitsIndex k) = true := by
    rw [fitsIndex_both h1 h2]
    exact Bool.false_ne_true
  have hlong : ¬ Builtin.List.listTooLong (its.toArray.size * k.toNat) = true := by
    rw [Zmg hlen]
    exact Bool.false_ne_true
  have hnew : List.foldl (fun x1 x2 => x1 ++ x2) #[] (List.replicate (if its.toArray.isEmpty = true then 0 else k.toNat) its.toArray) = (List.replicate k.toNat its).flatten.toArray := by
    have f0 : ∀ m : Nat, List.foldl (fun x1 x2 => x1 ++ x2) #[] (List.replicate m its.toArray) = (List.replicate m its).flatten.toArray := fun m => by
      have := foldl_rep its m []
      rw [List.nil_append] at this
      exact this
    rw [f0]
    cases its with
    | nil => simp
    | cons a r' => rw [if_neg (by simp)]
  refine wpAny_binaryOp_repeat_ref (T := "list") (U := "int") (by decide) ⟨_, e, rfl⟩ (fun s' => typeIs_int s' k t) noFill_list_mul F.fills_int_mul F.slot_int_rmul repeat_list F.slot_int_index.lookup
    (call_meets F.slot_int_rmul (typeIs_int s k t) F.entry_int_rmul (F.args_int_rmul_2 _ _) (int___rmul___int_list k t l its.toArray n)
      ⟨e, rfl, ⟨_, e, rfl⟩, call_meets F.slot_list_mul ⟨_, e, rfl⟩ F.entry_list_mul (F.args_list_mul_2 _ _) (AutoListH.list___mul___list_int_3 l its.toArray n k t hfit hcap hlong) ⟨e, ?_⟩⟩)
  rw [hnew]
  exact ⟨.ref _, _, I.lnew (t' := s.toks) (r.rep k.toNat) (by rw [len_rep, Nat.mul_comm]; exact hz), rfl, q _ I.fresh⟩
end
section
variable {prog : Program} {w : World} {A : Around} {E : Value → Shared → Prop} {s : Shared}
end
section
variable {X : Cx}
end
end L2
namespace Att
open PySem PySem.W PySem.Calls PyProof.Rows
theorem Zfp {P : Params} {h : Heap} : ∀ (ns : List Int) (vs : List Value), WellAll P h vs (ns.map WData.int) → IntsAre vs ns := by
  intro ns
  induction ns with
  | nil =>
    intro vs w
    rw [List.map_nil] at w
    cases w
    exact .nil
  | cons n ns ih =>
    intro vs w
    rw [List.map_cons] at w
    cases w with
    | cons a b =>
      cases a
      exact .cons _ _ (ih _ b)
theorem Znj {l : OpenLaw} {n : Nat} (hn : l.most = some n) {P : Params} {h : Heap} {args : List WData} {vals : List Value}
    (hpre : l.row.toRowW.claim.pre args = true) (hwl : WellAll P h vals args) :
    ∃ a vs ns, vals = [Value.ref a] ∧ args = [WData.list (ns.map WData.int)] ∧ h.get? a = some { cls := .type "list", data := .seq vs.toArray } ∧ IntsAre vs ns ∧ ns.length ≤ n := by
  have hsh : WShape.hasAll [] args [.list .int] = true := (pre_splitW hpre).1
  have hc : l.pre.holds [] { args := args } = true := (pre_splitW hpre).2
  obtain ⟨d, r, rfl, h1, h2⟩ := hasAllW_cons hsh
  obtain rfl := hasAllW_nil h2
  obtain ⟨xs, rfl, h3⟩ := hasW_list h1
  obtain ⟨ns, rfl⟩ := items_int h3
  have hlen : ns.length ≤ n := by
    unfold OpenLaw.pre at hc
    have h4 : (WTm.not (.lt (.lit (.int (n : Int))) (.len (.arg 0)))).holds [] { args := [.list (ns.map .int)] } = true := by
      have h4 := (holds_andW hc).1
      rw [hn] at h4
      exact h4
    have h5 := condW_of h4 (w_not (w_lt w_lit (w_len_list (w_arg rfl))))
    rw [List.length_map] at h5
    refine Nat.le_of_not_lt fun q => ?_
    have q' : (n : Int) < ((ns.length : Nat) : Int) := by omega
    first
      | (rw [decide_eq_true q'] at h5; exact absurd h5 (by decide))
      | (simp at h5; omega)
  cases hwl with
  | cons w1 w2 =>
    cases w2
    cases w1 with
    | list ho hall => exact ⟨_, _, ns, rfl, rfl, ho, Zfp ns _ hall, hlen⟩
theorem Zqa (l : OpenLaw) (args : List WData) : l.row.toRowW.claim.post args (.bool true) args = true :=
  postW_of (r := l.row.toRowW) (X := (true == true))
    (show WShape.has [] (.bool true) .bool = true by first | rfl | decide | simp [WShape.has, WShape.arms, WShape.armsAll])
    (show (WTm.eq .res (.lit (.bool true))).value [] { args := args, res := some (.bool true), after := args } = some (.bool (true == true)) from w_eq_bool (w_res rfl) w_lit) rfl
theorem attach_call {l : OpenLaw} {n : Nat} {q : Program} {loose : List Str} {XP : (Str → Option Value) → Heap → Prop} {YP : World → Heap → Prop} {d : DefRec}
    (hn : l.most = some n) (hdf : d.params.defaults = [])
    (call : ∀ (w : World) (s₀ s₁ : Shared) (mg mb : Str → Option Value) (fa : Addr) (o : Obj) (pm cd doc : Value) (a : Addr) (vs : List Value) (ns : List Int),
      Ground q loose [] XP w s₀ mg mb s₁.heap → YP w s₁.heap →
      s₁.heap.get? fa = some o → o.data = .func (docDef d.name d.params d.body d.scope pm cd doc) → s₁.heap.CodeRec cd d.name → mg d.name = some (.ref fa) →
      s₁.heap.get? a = some { cls := .type "list", data := .seq vs.toArray } → IntsAre vs ns → ns.length ≤ n → s₁.gens = #[] →
      codeAny (model l.prog w) callerA (.call (.ref fa) ⟨[.ref a], []⟩) (fun r s' => r = .ok (.ret (.bool true)) ∧ OldK s₁.heap s'.heap ∧ s'.os = s₁.os ∧ AllBare s'.gens) s₁) :
    WalkO q loose XP YP l.row.toRowW d [] (fun f vs => PySem.call f vs) := by
  intro w s₀ s₁ mg mb G Y fa o pm cd doc dV kV ho hd hcd hD hmg hg args vals as hpre hlay hrd hwl hlo
  obtain rfl : dV = .none := Dflts.none hD hdf
  obtain rfl : kV = .none := Dflts.noKw hD
  obtain ⟨a, vs, ns, rfl, rfl, hobj, hints, hlen⟩ := Znj hn hpre hwl
  refine enter_call (codeAny_mono (call w s₀ s₁ mg mb fa o pm cd doc a vs ns G Y ho (fd_plain hd) hcd hmg hobj hints hlen hg) fun r s' hq => ?_)
  obtain ⟨rfl, h2, h3, h4⟩ := hq
  exact ⟨.inl ⟨.bool true, .bool true, [], rfl, fun _ => rfl, .bool true, Zqa l _, fun _ => ⟨List.Pairwise.nil, fun _ hm => (nomatch hm)⟩⟩, h2, h3, h4⟩
section
variable {prog : Program} {w : World} {A : Around} {E : Value → Shared → Prop} {s : Shared} {K : Frag}
end
end Att
namespace L2
open PySem PySem.Spec PyProof.Rows
theorem Zo5 {vs : List Value} {ns : List Int} (h : IntsAre vs ns) : Vals (ns.map V.int) vs := by
  induction h with
  | nil => exact .nil
  | cons n t h ih => exact .cons ⟨t, rfl⟩ ih
noncomputable def Only (H : Hp) : Prop := ∀ b, H b = none ∨ ∃ o xs, H b = some (.frz o (.lst xs))
theorem Zr5 {P : Program} {w : World} {K : PySem.W.Frag} {mg mb : Str → Option Value} {CX : CXT} {k : Nat} {fa a : Addr} {fd : FuncData} {x : Str} {sp : Sp} {s₁ : Shared} {vs : List Value} {ns : List Int}
    (KX : K.In s₁.heap) (hns : s₁.heap.Ns mainGlobals mg) (hb : s₁.heap.Ns builtinsNs mb) (hbb : ∀ x : Str, x ≠ "__name__" → mb x = bootBuiltins x) (hlim : s₁.heap.NoLimit) (hg : s₁.gens = #[])
    (ha : s₁.heap.get? a = some { cls := .type "list", data := .seq vs.toArray }) (hi : IntsAre vs ns) (hl : ns.length ≤ sizeLine) (hr : Room k callerA)
    (F : ∀ base : Heap, K.In base → base.Ns mainGlobals mg → FnOk P w K mg base CX k fa fd [x] sp) (hbind : ∀ (s : Shared) (u : Value), BindsTo s fd ⟨[u], []⟩ [(x, u)])
    (hsp : ∀ H : Hp, Only H → SqL K H a (ns.map V.int) → sp [.ref a] H (fun v _ => v = .bl true) fun _ _ _ => False)
    (hCX : ∀ H e s', CX [] H s₁ (fun _ _ _ => False) e s' → False) :
    codeAny (model P w) callerA (.call (.ref fa) ⟨[.ref a], []⟩) (fun r s' => r = .ok (.ret (.bool true)) ∧ OldK s₁.heap s'.heap ∧ s'.os = s₁.os ∧ AllBare s'.gens) s₁ := by
  have rv := Zo5 hi
  have lenV := hi.length
  -- from an abstract heap in which nothing but the script may be tracked
  have core : ∀ H : Hp, Only H → SqL K H a (ns.map V.int) → HOk P w H s₁.heap → (∀ b, H b ≠ none → b = a) → (H a ≠ none → K.lookup a = none) →
      codeAny (model P w) callerA (.call (.ref fa) ⟨[.ref a], []⟩) (fun r s' => r = .ok (.ret (.bool true)) ∧ OldK s₁.heap s'.heap ∧ s'.os = s₁.os ∧ AllBare s'.gens) s₁ := by
    intro H hO hS hok hA hK
    have base_of : ∀ {b : Addr} {o : Obj}, s₁.heap.get? b = some o → H b = none → (Zrq s₁.heap H).get? b = some o := fun e n => Zq8 e n
    have noA : ∀ {b : Addr} {o : Obj} {es : Array DictEntry} {ep : Nat}, s₁.heap.get? b = some o → o.data = .dict es ep → H b = none := fun {b o es ep} e d => by
      cases q : H b with
      | none => rfl
      | some u =>
        have e' : b = a := hA b (by rw [q]; simp)
        subst e'
        rw [ha] at e; cases e
        have d' : Data.seq vs.toArray _ = Data.dict es ep := d
        cases d'
    have nsK : ∀ {b : Addr} {m : Str → Option Value}, s₁.heap.Ns b m → (Zrq s₁.heap H).Ns b m := fun {b m} ⟨o, es, ep, e, d, r⟩ => ⟨o, es, ep, base_of e (noA e d), d, r⟩
    have hKb : K.In (Zrq s₁.heap H) := fun b o e => base_of (KX b o e) (by
      cases q : H b with
      | none => rfl
      | some u =>
        have e' : b = a := hA b (by rw [q]; simp)
        subst e'
        rw [hK (by rw [q]; simp)] at e; cases e)
    have hM : Mod K mg (Zrq s₁.heap H) := ⟨hKb, nsK hns, ⟨mb, nsK hb, hbb⟩, let ⟨mc, h1, h2⟩ := hlim; ⟨mc, nsK h1, h2⟩⟩
    have e0 : Z14 P w K mg (Zrq s₁.heap H) callerA [] s₁ H := ⟨rfl, hM, fun b o e => Zu6 e, Nat.le_of_eq (Zn4 _ _), trivial, fun b hb => absurd (show b ∈ ([] : List Addr) from hb) (by simp), hok, .of_eq hg⟩
    refine codeAny_mono ((F _ hKb (nsK hns)).run callerA [] s₁ H ⟨[.ref a], []⟩ [.ref a] [.ref a] _ _ hr e0 (hbind s₁ (.ref a)) (.cons rfl .nil) (hsp H hO hS)) fun r s' h => ?_
    cases r with
    | error e => exact (hCX H e s' h).elim
    | ok fl =>
      cases fl with
      | next => exact False.elim h
      | brk => exact False.elim h
      | cont => exact False.elim h
      | ret u =>
        obtain ⟨v, H', os, bare, un, hok', r', q⟩ := h
        have q' : v = .bl true := q
        subst q'
        obtain rfl : u = Value.bool true := r'
        refine ⟨rfl, OldK.of_keep fun b o e => ?_, os, bare⟩
        cases q : H b with
        | none => exact un.keep b o e q (by intro z; exact absurd (show b ∈ ([] : List Addr) from z) (by simp)) (by simp)
        | some u =>
          rcases hO b with z | ⟨ob, xs, z⟩
          · rw [q] at z; cases z
          · have z2 := un.frzs b ob _ z
            obtain ⟨e1, _⟩ := hok b _ z
            obtain ⟨e2, _⟩ := hok' b _ z2
            rw [e] at e1; cases e1
            exact e2
  cases hk : K.lookup a with
  | some o =>
    -- the script is one of the module's own objects
    have e := KX a o hk
    rw [ha] at e
    cases e
    refine core (fun _ => none) (fun _ => .inl rfl) (.inr ⟨_, vs.toArray, _, hk, rfl, rfl, rfl, by rw [List.size_toArray, lenV]; exact hl, by simpa using rv⟩) (fun b u z => by have z' : (none : Option HO) = some u := z; cases z') (fun b z => absurd rfl z) fun z => absurd rfl z
  | none =>
    refine core (fun b => if b = a then some (.frz { cls := .type "list", data := .seq vs.toArray } (.lst (ns.map V.int))) else none) (fun b => ?_) (.inl (.inr ⟨{ cls := .type "list", data := .seq vs.toArray }, if_pos rfl⟩)) (fun b u z => ?_) (fun b z => ?_) fun _ => hk
    · by_cases hb : b = a
      · exact .inr ⟨_, _, if_pos hb⟩
      · exact .inl (if_neg hb)
    · by_cases hb : b = a
      · have z' := (if_pos hb).symm.trans z
        cases z'
        subst hb
        exact ⟨ha, by rw [List.length_map]; exact hl, vs, _, rv, ha⟩
      · have z' := (if_neg hb).symm.trans z
        cases z'
    · by_cases hb : b = a
      · exact hb
      · exact absurd (if_neg hb) z
end L2
namespace L2
open PySem PySem.Spec PyProof.Rows
noncomputable abbrev KOf {K : PySem.W.Frag} {h : Heap} (_ : K.In h) : PySem.W.Frag := K
theorem Zui {l : PySem.W.OpenLaw} {n k : Nat} {q : Program} {loose : List Str} {XP : (Str → Option Value) → Heap → Prop} {YP : World → Heap → Prop} {d : DefRec} {K : Params → PySem.W.Frag} {CX : World → CXT} {sp : World → Sp} {x : Str}
    (hn : l.most = some n) (hn2 : n ≤ sizeLine) (hdf : d.params.defaults = []) (hr : Room k callerA)
    (hY : ∀ (w : World) (h : Heap), YP w h → (K w.params).In h)
    (F : ∀ (w : World) (mg : Str → Option Value) (fa : Addr) (h : Heap), (K w.params).In h → h.Ns mainGlobals mg → mg d.name = some (.ref fa) →
      ∃ fd : FuncData, (∀ (s : Shared) (u : Value), BindsTo s fd ⟨[u], []⟩ [(x, u)]) ∧
        ∀ base : Heap, (K w.params).In base → base.Ns mainGlobals mg → FnOk l.prog w (K w.params) mg base (CX w) k fa fd [x] (sp w))
    (hsp : ∀ (w : World) (H : Hp) (a : Addr) (ns : List Int), ns.length ≤ n → Only H → SqL (K w.params) H a (ns.map V.int) → sp w [.ref a] H (fun v _ => v = .bl true) fun _ _ _ => False)
    (hCX : ∀ (w : World) (H : Hp) (s : Shared) (e : Value) (s' : Shared), CX w [] H s (fun _ _ _ => False) e s' → False) :
    PySem.W.WalkO q loose XP YP l.row.toRowW d [] (fun f vs => PySem.call f vs) := by
  refine Att.attach_call hn hdf fun w s₀ s₁ mg mb fa o pm cd doc a vs ns G Y ho hd hcd hmg hobj hints hlen hg => ?_
  have KX := hY w _ Y
  obtain ⟨fd, hb, hF⟩ := F w mg fa _ KX G.T.g hmg
  exact Zr5 KX G.T.g G.T.b G.T.builtins G.T.nolimit hg hobj hints (Nat.le_trans hlen hn2) hr hF hb (fun H hO hS => hsp w H a ns hlen hO hS) fun H e s' => hCX w H s₁ e s'
end L2
namespace L2
open PySem PySem.Spec PyProof.Rows
noncomputable def Yb (s : Stmt) : Arguments := match s with
  | .FunctionDef _ a _ _ _ _ _ _ _ _ => a
  | _ => { posonlyargs := [], args := [], vararg := none, kwonlyargs := [], kw_defaults := [], kwarg := none, defaults := [] }
noncomputable def Z6 (s : Stmt) : List Stmt := match s with
  | .FunctionDef _ _ b _ _ _ _ _ _ _ => b
  | _ => []
noncomputable def Zi (s : Stmt) : Scope := match s with
  | .FunctionDef _ _ _ _ _ _ sc _ _ _ => sc
  | _ => { kind := .function, names := [], isGenerator := false, isCoroutine := false }
noncomputable abbrev CX0 : CXT := fun _ _ _ _ _ _ => False
noncomputable abbrev E0 : XK := fun _ _ _ => False
theorem Yp {X : Cx} : Zl8 CX0 X E0 := fun _ _ _ _ _ _ _ h => h.elim
structure Fun (K : PySem.W.Frag) (x qual : Str) (st : Stmt) (f : Addr) (fd : FuncData) : Prop where
  ex : ∃ (oc : Value) (od : Option Addr) (kV doc pm : Value) (an : Option Addr) (cdv ct : Value) (osl : Array (Option Value)),
    fd = PySem.W.fnOf x qual (Yb st) (Z6 st) (Zi st) .none kV doc pm an cdv ct ∧ K.lookup f = some ⟨oc, od, .func fd, osl⟩ ∧ PySem.W.codeIn K cdv qual = true
  kp : PySem.W.keepIn K (.ref f) = true
section
variable {P : Program} {w : World} {K : PySem.W.Frag} {mg : Str → Option Value} {base : Heap}
theorem Fun.ok {x qual : Str} {st : Stmt} {f : Addr} {fd : FuncData} {N ps : List Str} {k : Nat} {sp : Sp} (F : Fun K x qual st f fd) (S : Z8 N ps (Zi st)) (len : ∀ vs H Q E, sp vs H Q E → vs.length = ps.length)
    (hbody : ∀ (cdv : Value) (A : Around) (outer : List Env) (s : Shared) (H : Hp) (vs : List V) (Q : VK) (E : XK), Room k (A.deeper (envOfC qual (Zi st) s.heap.objs.size f cdv)) → sp vs H Q E →
      ∃ t, PSs (Zqx CX0 P w K mg base N qual (Zi st) f cdv A outer s H E).nox (Z6 st) t ∧ t { nx := fun _ H' => Q .non H', rt := Q } (start N vs) H) : FnOk P w K mg base CX0 (k + 1) f fd ps sp := by
  obtain ⟨oc, od, kV, doc, pm, an, cdv, ct, osl, rfl, lk, hcd⟩ := F.ex
  refine Zx7 lk hcd S len fun A outer s H vs Q E hr hsp => ?_
  obtain ⟨t, h, q⟩ := hbody cdv A outer s H vs Q E hr hsp
  exact ⟨t, h.nox, q⟩
theorem Fun.binds {x qual : Str} {st : Stmt} {f : Addr} {fd : FuncData} {ps : List Str} (F : Fun K x qual st f fd)
    (h : ∀ (kV doc pm : Value) (an : Option Addr) (cdv ct : Value) (us : List Value), us.length = ps.length → bindArgs (PySem.W.fnOf x qual (Yb st) (Z6 st) (Zi st) .none kV doc pm an cdv ct) ⟨us, []⟩ = pure (ps.zip us)) : Binds K fd ps [] := by
  obtain ⟨oc, od, kV, doc, pm, an, cdv, ct, osl, rfl, lk, hcd⟩ := F.ex
  exact .all (h kV doc pm an cdv ct)
theorem Wv {x qual : Str} {st : Stmt} {f : Addr} {oc : Value} {od an : Option Addr} {osl : Array (Option Value)} {kV doc pm cdv ct : Value} (l : K.lookup f = some ⟨oc, od, .func (PySem.W.fnOf x qual (Yb st) (Z6 st) (Zi st) .none kV doc pm an cdv ct), osl⟩)
    (c : PySem.W.codeIn K cdv qual = true) (k : PySem.W.keepIn K (.ref f) = true) : Fun K x qual st f (PySem.W.fnOf x qual (Yb st) (Z6 st) (Zi st) .none kV doc pm an cdv ct) := ⟨⟨oc, od, kV, doc, pm, an, cdv, ct, osl, rfl, l, c⟩, k⟩
end
section
variable {X : Cx}
theorem pv (i : Nat) {x : Str} {pos : Pos} (hN : X.N[i]? = some x := by rfl) (hv : Vis X.env.scope x := by first | exact Or.inl rfl | exact Or.inr (Or.inl rfl) | exact Or.inr (Or.inr rfl)) (hd : (x == ("__debug__" : Str)) = false := by decide)
    (hcd : (x == ("__classdict__" : Str)) = false := by decide) : PE X (.Name x pos) (Z5x i) := Zyv hN hv hd hcd
end
noncomputable def Same (H H' : Hp) : Prop := ∀ b o, H b = some o → H' b = some o
theorem Same.refl (H : Hp) : Same H H := fun _ _ h => h
theorem Same.trans {H H1 H2 : Hp} (a : Same H H1) (b : Same H1 H2) : Same H H2 := fun c o h => b c o (a c o h)
theorem Same.free {H H' : Hp} (e : Same H H') {l : Addr} (h : H' l = Option.none) : H l = Option.none := by
  cases q : H l with
  | none => rfl
  | some o =>
    rw [e l o q] at h
    cases h
end L2
set_option maxHeartbeats 4000000
namespace L2
open PySem PySem.Spec PyProof.Rows
noncomputable def Bt (n : Nat) (x : Int) : Prop := x.natAbs < 2 ^ n
theorem Bt.mono {m n : Nat} {x : Int} (h : Bt m x) (hn : m ≤ n) : Bt n x := Nat.lt_of_lt_of_le h (Nat.pow_le_pow_right (by decide) hn)
theorem Bt.mul {m n : Nat} {x y : Int} (h : Bt m x) (k : Bt n y) : Bt (m + n) (x * y) := by
  unfold Bt at *
  rw [Int.natAbs_mul, Nat.pow_add]
  exact Nat.mul_lt_mul'' h k
theorem Bt.neg {m : Nat} {x : Int} (h : Bt m x) : Bt m (-x) := by
  unfold Bt at *
  rw [Int.natAbs_neg]
  exact h
theorem Bt.add {m n : Nat} {x y : Int} (h : Bt m x) (k : Bt n y) : Bt (m + n + 1) (x + y) := by
  unfold Bt at *
  have h1 : 2 ^ m ≤ 2 ^ (m + n) := Nat.pow_le_pow_right (by decide) (by omega)
  have h2 : 2 ^ n ≤ 2 ^ (m + n) := Nat.pow_le_pow_right (by decide) (by omega)
  have h3 : 2 ^ (m + n + 1) = 2 * 2 ^ (m + n) := by rw [Nat.pow_succ]; omega
  have h4 := Int.natAbs_add_le x y
  omega
theorem Bt.add' {m : Nat} {x y : Int} (h : Bt m x) (k : Bt m y) : Bt (m + 1) (x + y) := by
  unfold Bt at *
  have h3 : 2 ^ (m + 1) = 2 * 2 ^ m := by rw [Nat.pow_succ]; omega
  have h4 := Int.natAbs_add_le x y
  omega
theorem Bt.sub' {m : Nat} {x y : Int} (h : Bt m x) (k : Bt m y) : Bt (m + 1) (x - y) := by
  rw [Int.sub_eq_add_neg]
  exact h.add' k.neg
theorem Bt.of_le {m : Nat} {x y : Int} (h : Bt m x) (k : y.natAbs ≤ x.natAbs) : Bt m y := Nat.lt_of_le_of_lt k h
theorem Bt.of_lt {m : Nat} {x : Int} (h1 : -(2 ^ m) < x) (h2 : x < 2 ^ m) : Bt m x := by
  unfold Bt
  have e : ((2 ^ m : Nat) : Int) = 2 ^ m := by simp
  omega
theorem Bt.bits {m : Nat} {x : Int} (h : Bt m x) : Builtin.Int.intBits x ≤ m := by
  unfold Builtin.Int.intBits
  split
  · exact Nat.zero_le _
  · rename_i hx
    have hp : x.natAbs ≠ 0 := by
      intro e
      apply hx
      have : x = 0 := by omega
      subst this
      rfl
    have := (Nat.log2_lt hp).mpr h
    omega
theorem Bt.mulOk {m n : Nat} {x y : Int} (h : Bt m x) (k : Bt n y) (hmn : m + n ≤ 100000000 := by decide) : IntMulOk x y := by
  have h1 := h.bits
  have h2 := k.bits
  have h3 : Builtin.Int.intTooBig (Builtin.Int.intBits x + Builtin.Int.intBits y) = false := by
    unfold Builtin.Int.intTooBig bitsLine
    exact decide_eq_false (by omega)
  unfold IntMulOk
  rw [h3]
  simp
noncomputable def DivOk (_ j : Int) : Prop := j ≠ 0 ∧ j.natAbs.log2 < 9000
theorem DivOk.of {i j : Int} {n : Nat} (h0 : j ≠ 0) (h : Bt n j) (hn : n ≤ 9000 := by decide) : DivOk i j := by
  refine ⟨h0, ?_⟩
  have hp : j.natAbs ≠ 0 := by omega
  have := (Nat.log2_lt hp).mpr h
  omega
section
variable {X : Cx}
theorem Wo : OpR X (binaryOp .Mult) (rI IntMulOk fun i j => .int (i * j)) := opI fun _ _ _ _ _ _ _ hc q => mul_int q hc
theorem Wn : OpR X (binaryOp .FloorDiv) (rI DivOk fun i j => .int (i.fdiv j)) := opI fun _ _ _ _ _ _ _ hc q => floordiv_int hc.1 q (.inl (PyProof.noPylong_of_log2 hc.2))
theorem Zky : OpR X (binaryOp .Pow) (rI Z1s fun i j => .int (i ^ j.toNat)) := Zxl
end
theorem Zgk (elt target iter : Expr) (ifs : List Expr) (scope : Scope) (pos : Pos) (it acc : Value) (env : Env) :
    compTurn (.ListComp elt [⟨target, iter, ifs, 0⟩] scope pos) 0 it acc env = (standAt iter.pos >>= fun _ => pyNext it >>= fun r => match r with
      | none => pure (.done .next)
      | some v => letOwnedTupleGo target it v >>= fun _ => assign target env v >>= fun _ =>
        (forIn ifs true fun c r => if r = true then do let ok ← isTrue c env (eval c env); pure (ForInStep.yield ok) else pure (ForInStep.yield r)) >>= fun ok =>
          if ok = true then ((eval elt env >>= fun x => call (.builtin "list.append") [acc, x] >>= fun _ => pure ()) >>= fun _ =>
            again (.compLoop (.ListComp elt [⟨target, iter, ifs, 0⟩] scope pos) 0 it acc env))
          else again (.compLoop (.ListComp elt [⟨target, iter, ifs, 0⟩] scope pos) 0 it acc env)) := by rfl
end L2
namespace L2
open PySem PySem.Spec PyProof.Rows
theorem Zj6 {prog : Program} {w : World} {A : Around} {R : Result → Shared → Prop} {s : Shared} {elt target iter : Expr} {ifs : List Expr} {scope : Scope} {pos : Pos} {it acc : Value} {env : Env} (I : Nat → Shared → Prop)
    (turn : ∀ n s, I n s → wpAny (model prog w) A (pyNext it) (fun r s₁ => match r with
      | none => R (.ok .next) s₁
      | some v => wpAny (model prog w) A (letOwnedTupleGo target it v) (fun _ s₁ => wpAny (model prog w) A (assign target env v) (fun _ s₂ =>
          wpAny (model prog w) A (forIn ifs true fun c r => if r = true then do let ok ← isTrue c env (eval c env); pure (ForInStep.yield ok) else pure (ForInStep.yield r)) (fun ok s₃ =>
            if ok = true then wpAny (model prog w) A (eval elt env) (fun x s₄ =>
              wpAny (model prog w) A (call (.builtin "list.append") [acc, x]) (fun _ s₅ => ∃ m, m < n ∧ I m s₅) (notedBy (model prog w) A env fun e s' => R (.error e) s') s₄) (notedBy (model prog w) A env fun e s' => R (.error e) s') s₃
            else ∃ m, m < n ∧ I m s₃) (notedBy (model prog w) A env fun e s' => R (.error e) s') s₂) (notedBy (model prog w) A env fun e s' => R (.error e) s') s₁) (notedBy (model prog w) A env fun e s' => R (.error e) s') s₁) (notedBy (model prog w) A env fun e s' => R (.error e) s') s)
    (n : Nat) (h : I n s) :
    codeAny (model prog w) A (.compLoop (.ListComp elt [⟨target, iter, ifs, 0⟩] scope pos) 0 it acc env) R s := by
  refine codeAny_loop rfl I (fun n s hI => ?_) n h
  show wpAny _ A ((compTurn (.ListComp elt [⟨target, iter, ifs, 0⟩] scope pos) 0 it acc env).onRaise (fun x => do noteFrame x env; theTreesLotGoes x)) _ _ s
  refine wpAny_noted ?_
  rw [Zgk]
  refine wpAny_bind (wpAny_standAt (wpAny_bind (wpAny_mono (turn n s hI) (fun r s₁ h₁ => ?_) fun _ _ h' => h')))
  cases r with
  | none => exact wpAny_pure h₁
  | some v =>
    refine wpAny_bind (wpAny_mono h₁ (fun _ s₂ h₂ => ?_) fun _ _ h' => h')
    refine wpAny_bind (wpAny_mono h₂ (fun _ s₂ h₂ => wpAny_bind (wpAny_mono h₂ (fun ok s₃ h₃ => ?_) fun _ _ h' => h')) fun _ _ h' => h')
    cases ok with
    | false => exact wpAny_pure ⟨rfl, h₃⟩
    | true =>
      exact wpAny_bind (wpAny_bind (wpAny_mono h₃ (fun x s₄ h₄ => wpAny_bind (wpAny_mono h₄ (fun _ s₅ h₅ => wpAny_pure (wpAny_pure ⟨rfl, h₅⟩)) fun _ _ h' => h')) fun _ _ h' => h'))
noncomputable def Zgd (env : Env) : List (Str × NameKind) → List (Str × Addr) → List (Str × Addr)
  | [], acc => acc
  | (n, k) :: r, acc => if k == .free then Zgd env r ((n, (env.cells.lookup n).getD 0) :: acc) else Zgd env r acc
theorem Zh0 {env : Env} : ∀ (names : List (Str × NameKind)) (acc : List (Str × Addr)), (∀ y ∈ names, y.2 = .free → ∃ c, env.cells.lookup y.1 = some c) →
    (forIn names acc (fun (y : Str × NameKind) cs => (if y.2 == .free then (cellOf env y.1 >>= fun c => pure (ForInStep.yield ((y.1, c) :: cs))) else pure (ForInStep.yield cs) : Sem (ForInStep (List (Str × Addr)))))) = pure (Zgd env names acc)
  | [], acc, _ => by rw [List.forIn_nil]; rfl
  | (n, k) :: r, acc, h => by
    by_cases hk : k = .free
    · subst hk
      obtain ⟨c, hc⟩ := h (n, .free) (.head _) rfl
      have hc' : env.cells.lookup n = some c := hc
      have e := Zh0 (env := env) r ((n, c) :: acc) fun y hy => h y (.tail _ hy)
      have ec : cellOf env n = pure c := by
        unfold cellOf
        rw [hc']
      rw [List.forIn_cons]
      simp only [beq_self_eq_true, if_true]
      rw [ec]
      simp only [Zgd, beq_self_eq_true, if_true, hc', Option.getD_some]
      exact e
    · have e := Zh0 (env := env) r acc fun y hy => h y (.tail _ hy)
      have hb : (k == NameKind.free) = false := by simpa using hk
      rw [List.forIn_cons]
      simp only [Zgd, hb, Bool.false_eq_true, if_false]
      exact e
theorem Zdi {scope : Scope} {env : Env} (h : ∀ y ∈ scope.names, y.2 = .free → ∃ c, env.cells.lookup y.1 = some c) : closureFor scope env = pure (Zgd env scope.names []) := by
  have e := Zh0 scope.names [] h
  have e' : (forIn scope.names ([] : List (Str × Addr)) (fun (y : Str × NameKind) cs => (match y with | (name, kind) => do
      if kind == .free then do let a ← cellOf env name; pure (ForInStep.yield ((name, a) :: cs)) else pure (ForInStep.yield cs) : Sem (ForInStep (List (Str × Addr)))))) = pure (Zgd env scope.names []) := e
  exact congrArg (fun (m : Sem (List (Str × Addr))) => m >>= fun x => pure x) e'
theorem Zii {env : Env} : ∀ (names : List (Str × NameKind)) (acc : List (Str × Addr)), (∀ y ∈ names, y.2 = .free → ∃ c, env.cells.lookup y.1 = some c) →
    ∀ n c, (n, c) ∈ Zgd env names acc → (n, c) ∈ acc ∨ ((n, NameKind.free) ∈ names ∧ env.cells.lookup n = some c)
  | [], acc, _, n, c, h => .inl h
  | (m, k) :: r, acc, h, n, c, hm => by
    by_cases hk : k = .free
    · subst hk
      obtain ⟨d, hd⟩ := h (m, .free) (.head _) rfl
      have hd' : env.cells.lookup m = some d := hd
      simp only [Zgd, beq_self_eq_true, if_true, hd', Option.getD_some] at hm
      rcases Zii r _ (fun y hy => h y (.tail _ hy)) n c hm with z | ⟨z1, z2⟩
      · rcases List.mem_cons.mp z with z | z
        · cases z; exact .inr ⟨.head _, hd'⟩
        · exact .inl z
      · exact .inr ⟨.tail _ z1, z2⟩
    · have hb : (k == NameKind.free) = false := by simpa using hk
      simp only [Zgd, hb, Bool.false_eq_true, if_false] at hm
      refine (Zii r _ (fun y hy => h y (.tail _ hy)) n c hm).imp id fun qz9 => ?_
      obtain ⟨z1, z2⟩ := qz9
      exact ⟨.tail _ z1, z2⟩
theorem Zh9 {env : Env} : ∀ (names : List (Str × NameKind)) (acc : List (Str × Addr)), ∀ p ∈ acc, p ∈ Zgd env names acc
  | [], _, _, h => h
  | (m, k) :: r, acc, p, h => by
    unfold Zgd
    split
    · exact Zh9 r _ p (.tail _ h)
    · exact Zh9 r _ p h
theorem Zil {env : Env} : ∀ (names : List (Str × NameKind)) (acc : List (Str × Addr)) (n : Str), (n, NameKind.free) ∈ names → ∃ c, (n, c) ∈ Zgd env names acc
  | [], _, _, h => nomatch h
  | (m, k) :: r, acc, n, h => by
    rcases List.mem_cons.mp h with z | z
    · cases z
      exact ⟨_, by
        simp only [Zgd, beq_self_eq_true, if_true]
        exact Zh9 _ _ _ (.head _)⟩
    · unfold Zgd
      split
      · exact Zil r _ n z
      · exact Zil r _ n z
theorem Zek {env : Env} (inj : ∀ x y c, env.cells.lookup x = some c → env.cells.lookup y = some c → x = y) : ∀ (names : List (Str × NameKind)) (acc : List (Str × Addr)),
    (∀ y ∈ names, y.2 = .free → ∃ c, env.cells.lookup y.1 = some c) → (names.map (·.1)).Nodup → (∀ p ∈ acc, env.cells.lookup p.1 = some p.2) → (∀ p ∈ acc, p.1 ∉ names.map (·.1)) → (acc.Pairwise fun x y => x.2 ≠ y.2) →
    (Zgd env names acc).Pairwise fun x y => x.2 ≠ y.2
  | [], _, _, _, _, _, h => h
  | (m, k) :: r, acc, hf, hn, ha, hd, hp => by
    rw [List.map_cons, List.nodup_cons] at hn
    have hf' : ∀ y ∈ r, y.2 = .free → ∃ c, env.cells.lookup y.1 = some c := fun y hy => hf y (.tail _ hy)
    have hd' : ∀ p ∈ acc, p.1 ∉ r.map (·.1) := fun p hp z => hd p hp (by rw [List.map_cons]; exact .tail _ z)
    by_cases hk : k = .free
    · subst hk
      obtain ⟨d, hd0⟩ := hf (m, .free) (.head _) rfl
      have hd1 : env.cells.lookup m = some d := hd0
      simp only [Zgd, beq_self_eq_true, if_true, hd1, Option.getD_some]
      refine Zek inj r _ hf' hn.2 (fun p hp' => ?_) (fun p hp' => ?_) (List.pairwise_cons.mpr ⟨fun p hp' z => ?_, hp⟩)
      · rcases List.mem_cons.mp hp' with rfl | hp'
        · exact hd1
        · exact ha p hp'
      · rcases List.mem_cons.mp hp' with rfl | hp'
        · exact hn.1
        · exact hd' p hp'
      · have e : m = p.1 := inj m p.1 d hd1 (by rw [ha p hp', ← z])
        exact hd p hp' (by rw [List.map_cons, ← e]; exact .head _)
    · have hb : (k == NameKind.free) = false := by simpa using hk
      simp only [Zgd, hb, Bool.false_eq_true, if_false]
      exact Zek inj r _ hf' hn.2 ha hd' hp
structure Zmr (h : Heap) (lo : Nat) (names : List (Str × NameKind)) (acc cs : List (Str × Addr)) : Prop where
  mem : ∀ n c, (n, c) ∈ cs → (n, c) ∈ acc ∨ (h.IsCell c none ∧ lo ≤ c ∧ (n, NameKind.cell) ∈ names)
  has : ∀ n, (n, NameKind.cell) ∈ names → ∃ c, (n, c) ∈ cs
  old : ∀ p ∈ acc, p ∈ cs
theorem Zel : ∀ (names : List (Str × NameKind)) (h : Heap) (lo : Nat) (acc : List (Str × Addr)), lo ≤ h.objs.size → Zmr (pushCells h names) lo names acc (cellsFrom h.objs.size names acc)
  | [], _, _, _, _ => ⟨fun _ _ m => .inl m, (fun _ m => nomatch m), fun _ m => m⟩
  | (name, kind) :: r, h, lo, acc, hlo => by
    by_cases hk : (kind == NameKind.cell) = true
    · have ek : kind = .cell := by simpa using hk
      subst ek
      have ih := Zel r (h.push { cls := .type "cell", data := .cell none }) lo ((name, h.objs.size) :: acc) (by rw [Heap.size_push]; omega)
      rw [Heap.size_push] at ih
      have e1 : cellsFrom h.objs.size ((name, .cell) :: r) acc = cellsFrom (h.objs.size + 1) r ((name, h.objs.size) :: acc) := by
        rw [cellsFrom, if_pos hk]
      have e2 : pushCells h ((name, .cell) :: r) = pushCells (h.push { cls := .type "cell", data := .cell none }) r := by
        rw [pushCells, if_pos hk]
      rw [e1, e2]
      refine ⟨fun n c m => ?_, fun n m => ?_, fun p m => ih.old p (.tail _ m)⟩
      · rcases ih.mem n c m with z | ⟨z1, z2, z3⟩
        · rcases List.mem_cons.mp z with z | z
          · cases z
            exact .inr ⟨⟨_, pushCells_keeps _ _ _ _ (Heap.get?_push_size _ rfl), rfl⟩, hlo, .head _⟩
          · exact .inl z
        · exact .inr ⟨z1, z2, .tail _ z3⟩
      · rcases List.mem_cons.mp m with z | z
        · cases z
          exact ⟨_, ih.old _ (.head _)⟩
        · exact ih.has n z
    · have ih := Zel r h lo acc hlo
      have e1 : cellsFrom h.objs.size ((name, kind) :: r) acc = cellsFrom h.objs.size r acc := by
        rw [cellsFrom, if_neg hk]
      have e2 : pushCells h ((name, kind) :: r) = pushCells h r := by
        rw [pushCells, if_neg hk]
      rw [e1, e2]
      refine ⟨fun n c m => (ih.mem n c m).imp id fun ⟨z1, z2, z3⟩ => ⟨z1, z2, .tail _ z3⟩, fun n m => ?_, ih.old⟩
      rcases List.mem_cons.mp m with z | z
      · cases z
        exact absurd rfl hk
      · exact ih.has n z
theorem Zfw (names : List (Str × NameKind)) : ∀ (h : Heap) (acc : List (Str × Addr)), (acc.Pairwise fun x y => x.2 ≠ y.2) → (∀ p ∈ acc, p.2 < h.objs.size) → (cellsFrom h.objs.size names acc).Pairwise fun x y => x.2 ≠ y.2 := by
  induction names with
  | nil => intro h acc ha _; exact ha
  | cons y r ih =>
    intro h acc ha hb
    obtain ⟨name, kind⟩ := y
    unfold cellsFrom
    split
    · have := ih (h.push { cls := .type "cell", data := .cell none }) ((name, h.objs.size) :: acc) (List.pairwise_cons.mpr ⟨fun p hp => Nat.ne_of_gt (hb p hp), ha⟩) (fun p hp => by
        rw [Heap.size_push]
        rcases List.mem_cons.mp hp with rfl | hp
        · exact Nat.lt_succ_self _
        · exact Nat.lt_succ_of_lt (hb p hp))
      rwa [Heap.size_push] at this
    · exact ih h acc ha hb
theorem Zgf {M : Model} {A : Around} {E : Value → Shared → Prop} {s : Shared} {scope : Scope} {globals : Addr} {cl : List (Str × Addr)} {qual : Str} {env : Env} {Q : Env → Shared → Prop}
    (hQ : Q (newEnv scope s.heap.objs.size globals (cellsFrom (s.heap.objs.size + 1) scope.names cl) qual none .none (some env) builtinsNs)
      { s with heap := pushCells (s.heap.push { cls := .type "dict", data := .dict #[] }) scope.names }) :
    wpAny M A (newFunctionEnv scope globals cl [] qual none .none (some env)) Q E s := by
  simp only [newFunctionEnv, Option.isSome_some, if_true]
  refine wpAny_bind (wpAny_alloc ?_)
  refine wpAny_bind (wpAny_layCells _ (fun name kind cells => by cases hkc : kind == NameKind.cell <;> simp [hkc]) _ _ _ _ ?_)
  rw [show ({ s with heap := s.heap.push { cls := .type "dict", data := .dict #[] } } : Shared).heap.objs.size = s.heap.objs.size + 1 from Heap.size_push ..]
  rw [List.forIn_nil]
  exact wpAny_bind (wpAny_pure (wpAny_pure hQ))
end L2
namespace L2
open PySem PySem.Spec PyProof.Rows
noncomputable def Jh (X : Cx) (N' : List Str) (sc : Scope) (C : Addr) (cells : List (Str × Addr)) (s₂ : Shared) (H₂ : Hp) (fp : List Addr) : Cx :=
  { X with N := N', s₀ := s₂, H₀ := H₂, env := compEnvC sc cells C X.env, outer := X.stack, stack := X.stack, ex := fp, fn := fun x => sc.names.lookup x == some .cell, pn := [], xe := fun _ _ => False }
theorem Zdd {env : Env} : ∀ {names : List (Str × NameKind)} {x : Str} {k : NameKind}, names.lookup x = some k →
    (names.map fun (n, k) => if (k == NameKind.free && env.scope.kind == .function && env.kindOf n == some .cell) then (n, NameKind.cell) else (n, k)).lookup x =
      some (if (k == NameKind.free && env.scope.kind == .function && env.kindOf x == some .cell) then NameKind.cell else k)
  | [], _, _, h => by simp at h
  | (n, k') :: r, x, k, h => by
    have ih := @Zdd env r x k
    show List.lookup x ((if (k' == NameKind.free && env.scope.kind == .function && env.kindOf n == some .cell) = true then (n, NameKind.cell) else (n, k')) :: _) = _
    cases hx : x == n with
    | true =>
      simp only [List.lookup_cons, hx] at h
      cases h
      have e := beq_iff_eq.mp hx
      subst e
      split <;> simp [List.lookup_cons]
    | false =>
      simp only [List.lookup_cons, hx] at h
      split
      · simp only [List.lookup_cons, hx]; exact ih h
      · simp only [List.lookup_cons, hx]; exact ih h
theorem Ze6 {env : Env} : ∀ {names : List (Str × NameKind)} {x : Str}, names.lookup x = none →
    (names.map fun (n, k) => if (k == NameKind.free && env.scope.kind == .function && env.kindOf n == some .cell) then (n, NameKind.cell) else (n, k)).lookup x = none
  | [], _, _ => rfl
  | (n, k') :: r, x, h => by
    have ih := @Ze6 env r x
    show List.lookup x ((if (k' == NameKind.free && env.scope.kind == .function && env.kindOf n == some .cell) = true then (n, NameKind.cell) else (n, k')) :: _) = _
    cases hx : x == n with
    | true =>
      simp only [List.lookup_cons, hx] at h
      cases h
    | false =>
      simp only [List.lookup_cons, hx] at h
      split
      · simp only [List.lookup_cons, hx]; exact ih h
      · simp only [List.lookup_cons, hx]; exact ih h
theorem Zd9 {α : Type} : ∀ {l : List (Str × α)} {n : Str} {c : α}, (l.map (·.1)).Nodup → (n, c) ∈ l → l.lookup n = some c
  | (k, v) :: r, n, c, hd, h => by
    rw [List.map_cons, List.nodup_cons] at hd
    rcases List.mem_cons.mp h with e | hr
    · cases e
      simp [List.lookup_cons]
    · have hne : (n == k) = false := by
        refine Bool.eq_false_iff.mpr fun z => hd.1 ?_
        have e : n = k := beq_iff_eq.mp z
        rw [← e]
        exact List.mem_map.mpr ⟨(n, c), hr, rfl⟩
      rw [List.lookup_cons, hne]
      exact Zd9 hd.2 hr
theorem Y4 {α : Type} : ∀ {l : List (Str × α)} {n : Str} {c : α}, (n, c) ∈ l → ∃ d, l.lookup n = some d ∧ (n, d) ∈ l
  | (k, v) :: r, n, c, h => by
    by_cases e : n = k
    · subst e
      exact ⟨v, by simp [List.lookup_cons], List.mem_cons_self⟩
    · have hne : (n == k) = false := by simpa using e
      rcases List.mem_cons.mp h with z | z
      · cases z; exact absurd rfl e
      · obtain ⟨d, h1, h2⟩ := Y4 z
        exact ⟨d, by rw [List.lookup_cons, hne]; exact h1, .tail _ h2⟩
structure CompScope (X : Cx) (own : List Str) (caps : List Nat) (N' : List Str) (sc : Scope) : Prop where
  kind : sc.kind = .function
  nd : N'.Nodup
  names : N' = own ++ caps.map fun i => X.N.getD i Str.empty
  nn : (sc.names.map (·.1)).Nodup
  free : (sc.names.all fun y => y.2 != .free || (X.env.kindOf y.1 == some .cell || X.env.kindOf y.1 == some .free)) = true
  caps : (caps.all fun i => sc.names.lookup (X.N.getD i Str.empty) == some .free) = true
noncomputable def Zao (own : List Str) (caps : List Nat) (σ : St) : St := own.map (fun _ => none) ++ caps.map fun i => (σ[i]?).getD none
section
variable {X : Cx} {own : List Str} {caps : List Nat} {N' : List Str} {sc : Scope}
theorem CompScope.lk (S : CompScope X own caps N' sc) {n : Str} {k : NameKind} (h : (n, k) ∈ sc.names) : sc.names.lookup n = some k := Zd9 S.nn h
theorem CompScope.fr (S : CompScope X own caps N' sc) {n : Str} (h : (n, NameKind.free) ∈ sc.names) : X.env.kindOf n = some .cell ∨ X.env.kindOf n = some .free := by
  have := List.all_eq_true.mp S.free _ h
  simpa using this
theorem Zm5 {pins : List (Addr × Obj)} {σ : St} {H : Hp} {s : Shared} {fp : List Addr} {cl : List (Str × Addr)} (S : CompScope X own caps N' sc) (I : Inv X pins σ H s)
    (f : ∀ b ∈ fp, Zo4 X pins H b) (fo : ∀ b ∈ fp, ∃ o, s.heap.get? b = some o)
    (hcl : ∀ n c, (n, c) ∈ cl → (n, NameKind.free) ∈ sc.names ∧ X.env.cells.lookup n = some c) (hcl2 : ∀ n, (n, NameKind.free) ∈ sc.names → ∃ c, (n, c) ∈ cl) (hapart : cl.Pairwise fun x y => x.2 ≠ y.2) :
    Inv (Jh X N' sc (s.heap.objs.size + 1) (cellsFrom (s.heap.objs.size + 2) sc.names cl) s H fp) [] (Zao own caps σ) (upd H s.heap.objs.size (.lst []))
      { s with heap := pushCells ((s.heap.push { cls := .type "list", data := .seq #[] }).push { cls := .type "dict", data := .dict #[] }) sc.names } := by
  generalize hh1 : s.heap.push { cls := .type "list", data := .seq #[] } = h1
  have z1 : h1.objs.size = s.heap.objs.size + 1 := by rw [← hh1, Heap.size_push]
  generalize hh2 : h1.push { cls := .type "dict", data := .dict #[] } = h2
  have z2 : h2.objs.size = s.heap.objs.size + 2 := by rw [← hh2, Heap.size_push, z1]
  have BC := Zel sc.names h2 (s.heap.objs.size + 2) cl (by omega)
  have AP := Zfw sc.names h2 cl hapart (fun p hp => by
    obtain ⟨v, hv⟩ := I.cell p.1 p.2 (hcl p.1 p.2 hp).2
    exact Nat.lt_of_lt_of_le hv.lt (by omega))
  rw [z2] at BC AP
  have keep : ∀ b o, s.heap.get? b = some o → (pushCells h2 sc.names).get? b = some o := fun b o e => pushCells_keeps _ _ _ _ (by
    rw [← hh2]
    refine Heap.get?_push_of_some _ ?_
    rw [← hh1]
    exact Heap.get?_push_of_some _ e)
  have hD : (pushCells h2 sc.names).get? s.heap.objs.size = some { cls := .type "list", data := .seq #[] } := pushCells_keeps _ _ _ _ (by
    rw [← hh2]
    refine Heap.get?_push_of_some _ ?_
    rw [← hh1]
    exact Heap.get?_push_size _ rfl)
  have hC : (pushCells h2 sc.names).Ns (s.heap.objs.size + 1) (fun _ => none) := by
    refine Heap.Ns.keeps ?_ (pushCells_keeps _ _)
    have := Heap.Ns.new h1 (.type "dict")
    rw [hh2, z1] at this
    exact this
  have cellOld : ∀ n c, X.env.cells.lookup n = some c → c < s.heap.objs.size := fun n c e => by
    obtain ⟨v, hv⟩ := I.cell n c e
    exact hv.lt
  have lk' : ∀ n c, (cellsFrom (s.heap.objs.size + 2) sc.names cl).lookup n = some c → (n, c) ∈ cellsFrom (s.heap.objs.size + 2) sc.names cl := fun n c e => PySem.mem_of_lookup e
  have hnD : H s.heap.objs.size = none := I.fresh
  have fresh : ∀ c, s.heap.objs.size < c → upd H s.heap.objs.size (.lst []) c = none := fun c hc => by
    rw [Yc (Nat.ne_of_gt hc)]
    exact I.hok.fresh (Nat.le_of_lt hc)
  have isc : ∀ n c, (n, c) ∈ cellsFrom (s.heap.objs.size + 2) sc.names cl → ∃ v, (pushCells h2 sc.names).IsCell c v := fun n c m => by
    rcases BC.mem n c m with z | ⟨z, _⟩
    · obtain ⟨v, hv⟩ := I.cell n c (hcl n c z).2
      exact ⟨v, hv.keeps keep⟩
    · exact ⟨none, z⟩
  have okH : HOk X.prog X.w (upd H s.heap.objs.size (.lst [])) (pushCells h2 sc.names) := by
    refine I.hok.laid keep (Nat.le_refl _) ?_
    exact ⟨Nat.zero_le _, [], 0, .nil, hD⟩
  have kinds : ∀ x k, sc.names.lookup x = some k → (relabel sc X.env).names.lookup x = some (if (k == NameKind.free && X.env.scope.kind == .function && X.env.kindOf x == some .cell) then NameKind.cell else k) := fun x k e => Zdd e
  have kindsR : ∀ x k, (relabel sc X.env).names.lookup x = some k → ∃ k', (x, k') ∈ sc.names ∧ k = (if (k' == NameKind.free && X.env.scope.kind == .function && X.env.kindOf x == some .cell) then NameKind.cell else k') := fun x k e => by
    cases q : sc.names.lookup x with
    | none =>
      have := Ze6 (env := X.env) q
      rw [show (relabel sc X.env).names.lookup x = _ from this] at e
      cases e
    | some k' =>
      refine ⟨k', PySem.mem_of_lookup q, ?_⟩
      rw [kinds x k' q] at e
      exact (Option.some.inj e).symm
  refine ⟨⟨I.ok.mod, S.kind, I.ok.glob, I.ok.blt, ?_, ?_, ?_, ?_, I.ok.hd, I.ok.frames, .inl rfl, ?_, ?_, ?_, ?_, ?_, ?_, ?_⟩, rfl, I.bare, ?_, ?_, ?_, ?_, ?_, (fun p hp => nomatch hp), okH, ?_⟩
  · show s.heap.objs.size ≤ s.heap.objs.size + 1; omega
  · intro x y c e1 e2
    exact name_of_addr AP (lk' x c e1) (lk' y c e2)
  · intro x hx
    rcases hx with hx | hx
    · obtain ⟨k', hm, hk'⟩ := kindsR x _ hx
      cases k' with
      | cell =>
        obtain ⟨c, hc⟩ := BC.has x hm
        obtain ⟨d, h1, _⟩ := Y4 hc
        exact ⟨d, h1⟩
      | free =>
        obtain ⟨c, hc⟩ := hcl2 _ hm
        obtain ⟨d, h1, _⟩ := Y4 (BC.old _ hc)
        exact ⟨d, h1⟩
      | _ => simp at hk'
    · obtain ⟨k', hm, hk'⟩ := kindsR x _ hx
      cases k' with
      | free =>
        obtain ⟨c, hc⟩ := hcl2 _ hm
        obtain ⟨d, h1, _⟩ := Y4 (BC.old _ hc)
        exact ⟨d, h1⟩
      | _ => simp at hk'
  · intro x c hf e
    have hf' : sc.names.lookup x = some .cell := by simpa [Jh] using hf
    rcases BC.mem x c (lk' x c e) with z | ⟨_, z, _⟩
    · -- a free one and a cell at once: the name stands once
      exfalso
      have q := S.lk (hcl x c z).1
      rw [hf'] at q
      cases q
    · show s.heap.objs.size ≤ c; omega
  · intro b hb
    obtain ⟨o, ho⟩ := fo b hb
    have hlt := Heap.lt_size ho
    refine ⟨Nat.ne_of_lt (Nat.lt_trans hlt (Nat.lt_succ_self _)), fun x c e z => ?_⟩
    rcases BC.mem x c (lk' x c e) with q | ⟨_, q, _⟩
    · exact (f b hb).2.2.2.2.1 x c (hcl x c q).2 z
    · subst z
      exact absurd hlt (Nat.not_lt.mpr (Nat.le_trans (Nat.le_add_right _ 2) q))
  · exact I.bs
  · exact Nat.le_trans I.ok.bsz I.sz
  · intro b o e hb
    rcases (f b hb).2.2.2.1 with z | z
    · exact I.ok.noex b o e z
    · exact absurd (Nat.lt_of_lt_of_le (Heap.lt_size e) I.ok.bsz) (Nat.not_lt.mpr z)
  · intro b hb z
    rcases List.mem_cons.mp (I.stkSub b z) with q | q
    · exact (f b hb).2.1 q
    · exact (f b hb).2.2.1 q
  · exact I.stack
  · exact I.stkFree
  · exact Un.laid keep (Nat.le_refl _) hnD
  · refine ⟨_, hC, fun i x v e1 e2 e3 => ?_⟩
    have e1' : (own ++ caps.map fun i => X.N.getD i Str.empty)[i]? = some x := by rw [← S.names]; exact e1
    have e2' : (own.map (fun _ => (none : Option V)) ++ caps.map fun i => (σ[i]?).getD none)[i]? = some (some v) := e2
    by_cases hi : i < own.length
    · rw [List.getElem?_append_left (by simpa using hi), List.getElem?_map] at e2'
      cases q : own[i]? with
      | none => rw [q] at e2'; cases e2'
      | some y => rw [q] at e2'; cases e2'
    · rw [List.getElem?_append_right (by simpa using hi), List.getElem?_map] at e2'
      rw [List.getElem?_append_right (by omega), List.getElem?_map] at e1'
      rw [List.length_map] at e2'
      cases q : caps[i - own.length]? with
      | none => rw [q] at e2'; cases e2'
      | some j =>
        rw [q] at e1' e2'
        have e1 : X.N.getD j Str.empty = x := Option.some.inj e1'
        have e2 : (σ[j]?).getD none = some v := Option.some.inj e2'
        have e4 : σ[j]? = some (some v) := by
          cases r : σ[j]? with
          | none => rw [r] at e2; cases e2
          | some o => rw [r] at e2; exact congrArg some e2
        have hj : j < X.N.length := by rw [← I.len]; exact (List.getElem?_eq_some_iff.mp e4).1
        have e5 : X.N[j]? = some x := by rw [← e1]; simp [List.getD_eq_getElem?_getD, hj]
        have hc := List.all_eq_true.mp S.caps j (List.mem_of_getElem? q)
        have e6 : sc.names.lookup x = some .free := by rw [← e1]; simpa using hc
        have hm := PySem.mem_of_lookup e6
        have kx := S.fr hm
        obtain ⟨m, hn, hl⟩ := I.loc
        obtain ⟨u, ru, lo⟩ := hl j x v e5 e4 (by rcases kx with z | z; exact .inr (.inl z); exact .inr (.inr z))
        refine ⟨u, ru, .inr ⟨?_, ?_⟩⟩
        · have := kinds x _ e6
          show (relabel sc X.env).names.lookup x = _ ∨ (relabel sc X.env).names.lookup x = _
          rw [this]
          split
          · exact .inl rfl
          · exact .inr rfl
        · rcases lo with ⟨z, _⟩ | ⟨_, c, hc1, hc2⟩
          · rcases kx with w | w <;> (rw [w] at z; cases z)
          · obtain ⟨d, hd⟩ := hcl2 x hm
            obtain ⟨d', h1, h2⟩ := Y4 (BC.old _ hd)
            refine ⟨d', h1, ?_⟩
            rcases BC.mem x d' h2 with w | ⟨_, _, w⟩
            · have w' := (hcl x d' w).2
              rw [hc1] at w'
              cases w'
              exact hc2.keeps keep
            · have := S.lk w
              rw [e6] at this
              cases this
  · intro x c e
    exact isc x c (lk' x c e)
  · exact fresh _ (Nat.lt_succ_self _)
  · intro x c e
    rcases BC.mem x c (lk' x c e) with z | ⟨_, z, _⟩
    · have e' := (hcl x c z).2
      have hlt := cellOld x c e'
      rw [Yc (Nat.ne_of_lt hlt)]
      exact I.freeC x c e'
    · exact fresh c (by omega)
  · show (Zao own caps σ).length = N'.length
    rw [S.names]
    unfold Zao
    simp
end
end L2
namespace L2
open PySem PySem.Spec PyProof.Rows
noncomputable def Zwh (J : It) (g : TG) (tt : TT) (te : TE) (σ0 : St) (D : Addr) (Q : Hp → Prop) (H1 : Hp) : Prop :=
  ∃ W : Nat → Nat → St → Hp → Prop, (∃ m, W 0 m σ0 (upd H1 D (.lst []))) ∧ ∀ i m σ' H', W i m σ' H' →
    (J.stop i H' ∧ Q H') ∨ (J.go i H' ∧ ∀ x H2, J.yld i H' x H2 → g x σ' H2 fun σ2 H3 => tt σ2 H3 fun b H4 =>
      if b = true then te σ2 H4 fun y H5 => ∃ ys, H5 D = some (.lst ys) ∧ ys.length < sizeLine ∧ ∃ m', m' < m ∧ W (i + 1) m' σ2 (upd H5 D (.lst (ys ++ [y])))
      else ∃ m', m' < m ∧ W (i + 1) m' σ2 H4)
noncomputable def Zvg (own : List Str) (caps : List Nat) (wi : TI) (g : TG) (tt : TT) (te : TE) : TE := fun σ H Q => wi σ H fun J H1 => ∀ D, H1 D = none → Zwh J g tt te (Zao own caps σ) D (Q (.ref D)) H1
noncomputable def Z23 : TT := fun _ H Q => Q true H
noncomputable def Zw7 (X : Cx) (ifs : List Expr) (t : TT) : Prop :=
  ∀ (pins : List (Addr × Obj)) (s : Shared) (σ : St) (H : Hp) (Q : Bool → Hp → Prop), Inv X pins σ H s → t σ H Q →
    wpAny (model X.prog X.w) X.A (forIn ifs true fun c r => if r = true then do let ok ← isTrue c X.env (eval c X.env); pure (ForInStep.yield ok) else pure (ForInStep.yield r)) (TP X pins σ Q) X.xe s
theorem Zwr {X : Cx} : Zw7 X [] Z23 := fun pins s σ H Q I h => by
  rw [List.forIn_nil]
  exact wpAny_pure ⟨H, I, h⟩
theorem Zwx {M : Model} {A : Around} {α : Type} {t : Sem α} {Q Q' : α → Shared → Prop} {E : Value → Shared → Prop} {s : Shared} (h : wpAny M A t Q (fun _ _ => False) s) (hQ : ∀ a s, Q a s → Q' a s) : wpAny M A t Q' E s :=
  wpAny_mono h hQ fun _ _ z => z.elim
section
variable {X : Cx} {own : List Str} {caps : List Nat} {N' : List Str} {sc : Scope} {tg elt iter : Expr} {ifs : List Expr} {pos : Pos} {wi : TI} {g : TG} {tt : TT} {te : TE}
theorem Zlt {pins p' : List (Addr × Obj)} {σ σ' : St} {H H' : Hp} {s s' : Shared} {fp : List Addr} {C : Addr} {cells : List (Str × Addr)} {h' : Heap} (I : Inv X pins σ H s) (f : ∀ b ∈ fp, Zo4 X pins H b)
    (I' : Inv (Jh X N' sc C cells s H fp) p' σ' H' s') (hs : Heap.SameBut C s'.heap h') : Inv X pins σ H' { s' with heap := h' } := by
  have hC : s.heap.objs.size ≤ C := I'.ok.above
  have B := I'.base
  have ne : ∀ b o, s.heap.get? b = some o → b ≠ C := fun b o e => Nat.ne_of_lt (Nat.lt_of_lt_of_le (Heap.lt_size e) hC)
  obtain ⟨m, ⟨oC, _, _, hoC, _⟩, _⟩ := I'.loc
  refine I.call' (ch := fp) (s' := { s' with heap := h' }) I'.os ⟨fun b o e n hb hx => ?_, fun b o e n hb hx => ?_, B.free, fun b o e hx => ?_, B.tups, B.frzs, B.tbls⟩ (fun b ob e => ?_) I'.bare fun b hb => ?_
  · exact (hs.2 b (ne b o e)).trans (B.keep b o e n hb hx)
  · obtain ⟨sl, q⟩ := B.slot b o e n hb hx
    exact ⟨sl, (hs.2 b (ne b o e)).trans q⟩
  · obtain ⟨o', q⟩ := B.there b o e hx
    exact ⟨o', (hs.2 b (ne b o e)).trans q⟩
  · have hfree : H' C = none := I'.free
    refine (I'.hok b ob e).stay (fun c w' hc q => (hs.2 c ?_).trans q) (fun _ q => q) fun _ _ q => q
    rintro rfl
    rcases hc with rfl | hc
    · rw [hfree] at e; cases e
    · rw [hfree] at hc; cases hc
  · obtain ⟨_, f1, _, f3, f4, f5⟩ := f b hb
    exact ⟨f3, f1, f4, f5⟩
theorem Zg5 {Qf : Result → Shared → Prop} (S : CompScope X own caps N' sc) (hc : X.calm = true)
    (hg : ∀ C cells s₂ H₂ fp, PG (Jh X N' sc C cells s₂ H₂ fp) tg g) (ht : ∀ C cells s₂ H₂ fp, Zw7 (Jh X N' sc C cells s₂ H₂ fp) ifs tt) (he : ∀ C cells s₂ H₂ fp, PE (Jh X N' sc C cells s₂ H₂ fp) elt te)
    {pins : List (Addr × Obj)} {σ : St} {H : Hp} {s : Shared} {fp : List Addr} {it : Addr} {tn : Nat → Heap → Prop} {J : It} {Q : Hp → Prop} (I : Inv X pins σ H s) (T : Turn X.prog X.w X.K tg J fp it tn) (st : tn 0 s.heap) (f : ∀ b ∈ fp, Zo4 X pins H b)
    (h : Zwh J g tt te (Zao own caps σ) s.heap.objs.size Q H)
    (fin : ∀ s' σ' H' p' C cells, Inv (Jh X N' sc C cells s H fp) p' σ' H' s' → C = s.heap.objs.size + 1 → Q H' → Qf (.ok .next) s') :
    wpAny (model X.prog X.w) X.A (newFunctionEnv sc X.env.globals (Zgd X.env sc.names []) [] X.env.qual none .none (some X.env)) (fun cenv s₄ =>
      cenv.locals = s.heap.objs.size + 1 ∧ codeAny (model X.prog X.w) X.A (.compStart (.ListComp elt [⟨tg, iter, ifs, 0⟩] sc pos) 0 (.ref it) (.ref s.heap.objs.size) { cenv with scope := relabel sc X.env }) Qf s₄) X.xe
        { s with heap := s.heap.push { cls := .type "list", data := .seq #[] } } := by
  have hf : ∀ y ∈ sc.names, y.2 = .free → ∃ c, X.env.cells.lookup y.1 = some c := fun y hy e => by
    obtain ⟨n, k⟩ := y
    have e' : k = .free := e
    subst e'
    exact I.ok.has n (S.fr hy)
  have hcl : ∀ n c, (n, c) ∈ Zgd X.env sc.names [] → (n, NameKind.free) ∈ sc.names ∧ X.env.cells.lookup n = some c := fun n c m => (Zii sc.names [] hf n c m).elim (fun z => nomatch z) id
  have hap := Zek I.ok.inj sc.names [] hf S.nn (fun _ z => nomatch z) (fun _ z => nomatch z) .nil
  have I0 := Zm5 (cl := Zgd X.env sc.names []) S I f (fun b hb => let ⟨o, e, _⟩ := T.obj _ _ st b hb; ⟨o, e⟩) hcl (fun n m => Zil sc.names [] n m) hap
  refine Zgf ?_
  rw [show ({ s with heap := s.heap.push { cls := .type "list", data := .seq #[] } } : Shared).heap.objs.size = s.heap.objs.size + 1 from Heap.size_push ..]
  refine ⟨rfl, ?_⟩
  dsimp only
  generalize hs0 : ({ s with heap := pushCells ((s.heap.push { cls := .type "list", data := .seq #[] }).push { cls := .type "dict", data := .dict #[] }) sc.names } : Shared) = s0 at I0 ⊢
  have st0 : tn 0 s0.heap := T.keep _ _ _ st fun b hb o e => by
    rw [← hs0]
    exact pushCells_keeps _ _ _ _ (Heap.get?_push_of_some _ (Heap.get?_push_of_some _ e))
  generalize hcells : cellsFrom (s.heap.objs.size + 1 + 1) sc.names (Zgd X.env sc.names []) = cells at I0 ⊢
  -- the loop
  obtain ⟨W, ⟨m0, w0⟩, turn⟩ := h
  have loop : codeAny (model X.prog X.w) X.A (.compLoop (.ListComp elt [⟨tg, iter, ifs, 0⟩] sc pos) 0 (.ref it) (.ref s.heap.objs.size) (Jh X N' sc (s.heap.objs.size + 1) cells s H fp).env) Qf s0 := by
    generalize hX' : Jh X N' sc (s.heap.objs.size + 1) cells s H fp = X' at I0 ⊢
    have hg' := hg (s.heap.objs.size + 1) cells s H fp
    have ht' := ht (s.heap.objs.size + 1) cells s H fp
    have he' := he (s.heap.objs.size + 1) cells s H fp
    have fin' := fun s' σ' H' p' (z : Inv (Jh X N' sc (s.heap.objs.size + 1) cells s H fp) p' σ' H' s') => fin s' σ' H' p' _ _ z rfl
    rw [hX'] at hg' ht' he' fin'
    have hxe : X'.xe = fun _ _ => False := by rw [← hX']; rfl
    have hpr : X'.prog = X.prog := by rw [← hX']; rfl
    have hw : X'.w = X.w := by rw [← hX']; rfl
    have hK : X'.K = X.K := by rw [← hX']; rfl
    have hA : X'.A = X.A := by rw [← hX']; rfl
    have hcm : X'.calm = true := by rw [← hX']; exact hc
    have hex : X'.ex = fp := by rw [← hX']; rfl
    have hpn : X'.pn = [] := by rw [← hX']; rfl
    have stat : ∀ {H' : Hp}, (∀ b ∈ fp, H' b = none) → ∀ b ∈ fp, Zo4 X' [] H' b := fun hn b hb => by
      have e1 := I0.ok.exf b (by rw [hex]; exact hb)
      have e2 := I0.ok.exfs b (by rw [hex]; exact hb)
      exact ⟨hn b hb, e1.1, e2, .inl (by rw [hex]; exact hb), e1.2, fun p hp => by rw [hpn] at hp; exact nomatch hp⟩
    have frD : ∀ b ∈ fp, (upd H s.heap.objs.size (.lst [])) b = none := fun b hb => by
      obtain ⟨o, e, _⟩ := T.obj _ _ st b hb
      rw [Yc (Nat.ne_of_lt (Heap.lt_size e))]
      exact (f b hb).1
    have T' : Turn X'.prog X'.w X'.K tg J fp it tn := by rw [hpr, hw, hK]; exact T
    rw [← hpr, ← hw, ← hA]
    refine Zj6 (fun n s' => ∃ i σ' H', Inv X' [] σ' H' s' ∧ tn i s'.heap ∧ (∀ b ∈ fp, H' b = none) ∧ W i n σ' H') ?_ m0 ⟨0, _, _, I0, st0, frD, w0⟩
    rintro n s3 ⟨i, σ3, H3, I3, st3, fr3, w3⟩
    rcases turn i n σ3 H3 w3 with ⟨stop, qn⟩ | ⟨go, step⟩
    · refine Zwx (T'.done X' rfl rfl rfl hcm i [] s3 σ3 H3 _ I3 (stat fr3) st3 stop) fun r s4 qz9 => ?_
      obtain ⟨hr, I4⟩ := qz9
      subst hr
      exact fin' s4 σ3 H3 [] I4 qn
    · refine Zwx (T'.item X' rfl rfl rfl hcm i [] s3 σ3 H3 _ I3 (stat fr3) st3 go) fun r s4 qz9 => ?_
      obtain ⟨u, hr, h4⟩ := qz9
      subst hr
      refine Zwx h4 fun _ s5 qz9 => ?_
      obtain ⟨x, H5, I5, r5, y5, st5, fr5⟩ := qz9
      have I5' := I5.pinned (stat fr5) (T.obj _ _ st5)
      have hgg := hg' _ s5 σ3 H5 x u _ I5' r5 (step x H5 y5)
      rw [hxe] at hgg
      refine Zwx hgg fun _ s6 qz9 => ?_
      obtain ⟨σ6, H6, I6, q6⟩ := qz9
      have htt := ht' _ s6 σ6 H6 _ I6 q6
      rw [hxe] at htt
      refine Zwx htt fun ok s7 qz9 => ?_
      obtain ⟨H7, I7, q7⟩ := qz9
      have again : ∀ {σ7 : St} {H7 : Hp} {s7 : Shared} {m : Nat}, Inv X' ([] ++ Zhc fp s5.heap) σ7 H7 s7 → W (i + 1) m σ7 H7 → m < n → ∃ m, m < n ∧ ∃ i σ' H', Inv X' [] σ' H' s7 ∧ tn i s7.heap ∧ (∀ b ∈ fp, H' b = none) ∧ W i m σ' H' := fun {σ7 H7 s7 m} I7 w7 hm => by
        refine ⟨m, hm, i + 1, σ7, H7, I7.unpinned, T.keep _ _ _ st5 fun b hb o e => (I7.pin (b, o) (List.mem_append_right _ (List.mem_append_right _ (Zay hb e)))).1, fun b hb => ?_, w7⟩
        obtain ⟨o, e, d⟩ := T.obj _ _ st5 b hb
        exact (I7.pin (b, o) (List.mem_append_right _ (List.mem_append_right _ (Zay hb e)))).2.1
      cases ok with
      | false =>
        obtain ⟨m', hm, w7⟩ := q7
        rw [if_neg Bool.false_ne_true]
        exact again I7 w7 hm
      | true =>
        rw [if_pos rfl]
        have hee := he' _ s7 σ6 H7 _ I7 q7
        rw [hxe] at hee
        refine Zwx hee fun y s8 qz9 => ?_
        obtain ⟨vy, H8, I8, r8, ys, hD, hlen, m', hm, w8⟩ := qz9
        have hap := Zi9 (X := X') _ s8 σ6 H8 (.ref s.heap.objs.size) [vy] (.ref s.heap.objs.size) [y] (fun _ H' => W (i + 1) m' σ6 H') I8 rfl (.cons r8 .nil) ⟨_, ys, vy, rfl, rfl, hD, hlen, w8⟩
        rw [hxe] at hap
        refine Zwx hap fun z s9 qz9 => ?_
        obtain ⟨_, H9, I9, _, w9⟩ := qz9
        exact again I9 w9 hm
  exact codeAny_compStart_list loop (T.self _ 0 _ _ _ st0 loop)
theorem Zul (S : CompScope X own caps N' sc) (hc : X.calm = true) (hi : PI X tg iter wi)
    (hg : ∀ C cells s₂ H₂ fp, PG (Jh X N' sc C cells s₂ H₂ fp) tg g) (ht : ∀ C cells s₂ H₂ fp, Zw7 (Jh X N' sc C cells s₂ H₂ fp) ifs tt) (he : ∀ C cells s₂ H₂ fp, PE (Jh X N' sc C cells s₂ H₂ fp) elt te)
    (hs : ∀ x, foldedSetIterable iter X.env x = pure x := by intro _; rfl) : PE X (.ListComp elt [⟨tg, iter, ifs, 0⟩] sc pos) (Zvg own caps wi g tt te) := by
  intro pins s σ H Q I h
  rw [eval_ListComp]
  have hf : ∀ y ∈ sc.names, y.2 = .free → ∃ c, X.env.cells.lookup y.1 = some c := fun y hy e => by
    obtain ⟨n, k⟩ := y
    have e' : k = .free := e
    subst e'
    exact I.ok.has n (S.fr hy)
  refine wpAny_comprehension_free (use := none) rfl hs (Zdi hf) S.kind (fun y hy e => by obtain ⟨n, k⟩ := y; have e' : k = .local := e; subst e'; exact S.lk hy) ?_
  refine thn (hi pins s σ H _ I h) fun v s1 h1 => thn h1 fun itv s2 h2 => ?_
  obtain ⟨it, fp, tn, J, H2, e, I2, T, st2, f2, q⟩ := h2
  subst e
  refine wpAny_newObj_type ?_
  refine thn (Zg5 (iter := iter) (pos := pos) (Qf := compPost (model X.prog X.w) X.A X.xe none (EP X pins σ Q) (.ref s2.heap.objs.size) (s2.heap.objs.size + 1)) S hc hg ht he I2 T st2 f2 (q s2.heap.objs.size I2.fresh) ?_) fun cenv s4 ⟨hl, hr⟩ => ?_
  · intro s' σ' H' p' C cells I' eC q'
    subst eC
    obtain ⟨m, hn, _⟩ := id I'.loc
    exact ⟨m, hn, fun h' hs' => ⟨.ref s2.heap.objs.size, H', Zlt I2 f2 I' hs', rfl, q'⟩⟩
  · rw [← hl] at hr
    exact hr
end
end L2
namespace L2
open PySem PySem.Spec PyProof.Rows
section
variable {X : Cx} {own : List Str} {caps : List Nat} {N' : List Str} {sc : Scope} {tg elt iter : Expr} {ifs : List Expr} {pos : Pos} {wi : TI} {g : TG} {tt : TT} {te : TE}
theorem Zm8 {i : Nat} {y : Str} {py spos : Pos} (hN : X.N.Nodup) (hy : X.N[i]? = some y) (hx : Loc X.env.scope y) (S : CompScope X own caps N' sc) (hc : X.calm = true) (hi : PI X tg iter wi)
    (hg : ∀ C cells s₂ H₂ fp, PG (Jh X N' sc C cells s₂ H₂ fp) tg g) (ht : ∀ C cells s₂ H₂ fp, Zw7 (Jh X N' sc C cells s₂ H₂ fp) ifs tt) (he : ∀ C cells s₂ H₂ fp, PE (Jh X N' sc C cells s₂ H₂ fp) elt te)
    (hsw : swapsWith (.ListComp elt [⟨tg, iter, ifs, 0⟩] sc pos) (some (.Name y py)) spos.line X.env = pure true := by rfl)
    (hs : ∀ x, foldedSetIterable iter X.env x = pure x := by intro _; rfl) (hf : X.fn y = true ∨ X.env.scope.names.lookup y = some .local := by first | exact .inl rfl | exact .inr rfl | assumption) :
    PS X (.Assign [.Name y py] (.ListComp elt [⟨tg, iter, ifs, 0⟩] sc pos) spos) (Z0i (Zvg own caps wi g tt te) (Zop i)) := by
  intro pins s σ H D I h
  have hfr : ∀ y ∈ sc.names, y.2 = .free → ∃ c, X.env.cells.lookup y.1 = some c := fun y hy e => by
    obtain ⟨n, k⟩ := y
    have e' : k = .free := e
    subst e'
    exact I.ok.has n (S.fr hy)
  rw [exec_Assign_Name_used _ _ _ _ hsw]
  refine wpAny_bind (wpAny_standAt (wpAny_bind ?_))
  show wpAny _ X.A (do let _ ← comprehension (.ListComp elt [⟨tg, iter, ifs, 0⟩] sc pos) sc X.env _ (newList []) false (eval iter X.env) (some (assign (.Name y py) X.env))) _ _ s
  refine wpAny_bind (wpAny_mono (wpAny_comprehension_free (use := some (assign (.Name y py) X.env)) (Q := fun _ s' => SP X pins D .next s') rfl hs (Zdi hfr) S.kind (fun y hy e => by obtain ⟨n, k⟩ := y; have e' : k = .local := e; subst e'; exact S.lk hy) ?_) (fun _ s' hq => wpAny_pure (wpAny_pure hq)) fun _ _ e => e)
  refine thn (hi pins s σ H _ I h) fun v s1 h1 => thn h1 fun itv s2 h2 => ?_
  obtain ⟨it, fp, tn, J, H2, e, I2, T, st2, f2, q⟩ := h2
  subst e
  refine wpAny_newObj_type ?_
  refine thn (Zg5 (iter := iter) (pos := pos) (Qf := compPost (model X.prog X.w) X.A X.xe (some (assign (.Name y py) X.env)) (fun _ s' => SP X pins D .next s') (.ref s2.heap.objs.size) (s2.heap.objs.size + 1)) S hc hg ht he I2 T st2 f2 (q s2.heap.objs.size I2.fresh) ?_) fun cenv s4 ⟨hl, hr⟩ => ?_
  · intro s' σ' H' p' C cells I' eC q'
    subst eC
    obtain ⟨m, hn, _⟩ := id I'.loc
    have I3 : Inv X pins σ H' s' := Zlt I2 f2 I' (.refl ..)
    show wpAny _ X.A (assign (.Name y py) X.env (.ref s2.heap.objs.size)) _ _ s'
    refine wpAny_assign_Name (Zi6 (v := .ref s2.heap.objs.size) I3 hN hy hx rfl (fun s5 I5 hsb => ?_) hf)
    have hC : s2.heap.objs.size < s2.heap.objs.size + 1 := Nat.lt_succ_self _
    have ltL : X.env.locals < s2.heap.objs.size := I2.lt
    have ltC : ∀ x c, X.env.cells.lookup x = some c → c < s2.heap.objs.size := fun x c e => by
      obtain ⟨w', z⟩ := I2.cell x c e
      exact z.lt
    refine ⟨m, ?_, fun h' hs' => ⟨σ.set i (some (.ref s2.heap.objs.size)), H', ?_, q'⟩⟩
    · obtain ⟨a, hsa, ha⟩ := hsb
      refine hn.sameBut hsa ?_
      rcases ha with ha | ha
      · rw [ha]; exact Nat.ne_of_gt (Nat.lt_trans ltL hC)
      · exact Nat.ne_of_gt (Nat.lt_trans (ltC _ _ ha) hC)
    · refine I5.turned (t' := s5.toks) (it := s2.heap.objs.size + 1) (fun b o hb e => (hs'.2 b hb).trans e) I'.free (Nat.ne_of_gt (Nat.lt_trans ltL hC)) (.inr (Nat.le_trans I2.sz (Nat.le_of_lt hC))) (fun x c e => Nat.ne_of_lt (Nat.lt_trans (ltC x c e) hC)) fun p hp => ?_
      obtain ⟨e, _⟩ := I2.pin p hp
      exact Nat.ne_of_lt (Nat.lt_trans (Heap.lt_size e) hC)
  · rw [← hl] at hr
    exact hr
end
section
variable (n : Nat) (D : Addr) (Pv : Nat → List V → St → Hp → Prop)
variable {n D Pv}
end
end L2
namespace L2
open PySem PySem.Spec PyProof.Rows
mutual
inductive Is (H : Hp) (L : Addr → Prop) : V → PyData → Prop where
  | non : Is H L .non .none
  | bl (b : Bool) : Is H L (.bl b) (.bool b)
  | int (i : Int) : Is H L (.int i) (.int i)
  | str (x : Str) : Is H L (.str x) (.str x)
  | lst {a : Addr} {xs : List V} {ds : List PyData} : L a → H a = some (.lst xs) → IsAll H L xs ds → Is H L (.ref a) (.list ds)
  | tup {a : Addr} {xs : List V} {ds : List PyData} : H a = some (.tup xs) → IsAll H L xs ds → Is H L (.ref a) (.tuple ds)
inductive IsAll (H : Hp) (L : Addr → Prop) : List V → List PyData → Prop where
  | nil : IsAll H L [] []
  | cons {x : V} {xs : List V} {d : PyData} {ds : List PyData} : Is H L x d → IsAll H L xs ds → IsAll H L (x :: xs) (d :: ds)
end
section
variable {H H' : Hp} {L L' : Addr → Prop}
theorem IsAll.ind {Q : List V → List PyData → Prop} (n : Q [] []) (c : ∀ {x : V} {xs : List V} {d : PyData} {ds : List PyData}, Is H L x d → IsAll H L xs ds → Q xs ds → Q (x :: xs) (d :: ds)) : ∀ {xs ds}, IsAll H L xs ds → Q xs ds := fun h =>
  IsAll.rec (motive_1 := fun _ _ _ => True) (motive_2 := fun xs ds _ => Q xs ds) trivial (fun _ => trivial) (fun _ => trivial) (fun _ => trivial) (fun _ _ _ _ => trivial) (fun _ _ _ => trivial) n (fun p q _ r => c p q r) h
theorem IsAll.length {xs : List V} {ds : List PyData} (h : IsAll H L xs ds) : xs.length = ds.length := IsAll.ind (Q := fun xs ds => xs.length = ds.length) rfl (fun _ _ r => congrArg (· + 1) r) h
theorem IsAll.set {xs : List V} {ds : List PyData} {x : V} {d : PyData} (i : Nat) (h : IsAll H L xs ds) (k : Is H L x d) : IsAll H L (xs.set i x) (ds.set i d) :=
  IsAll.ind (Q := fun xs ds => ∀ i, IsAll H L (xs.set i x) (ds.set i d)) (fun _ => .nil) (fun h q r i => Nat.casesOn i (.cons k q) fun i => .cons h (r i)) h i
end
section
variable {X : Cx} {pins : List (Addr × Obj)} {σ : St} {H : Hp} {s : Shared} {L L' : Addr → Prop}
end
noncomputable abbrev Shp (d : PyData) : Prop := SeqAt.shaped d = true
section
variable {X : Cx}
end
mutual
noncomputable def Ji : PyData → Bool
  | .none => true
  | .int _ => true
  | .str _ => true
  | .list ds => Zdq ds
  | .tuple ds => Zdq ds
  | _ => false
noncomputable def Zdq : List PyData → Bool
  | [] => true
  | d :: ds => Ji d && Zdq ds
end
mutual
theorem Zik : ∀ (d e : PyData), Ji d = true → Ji e = true → (PyData.eqv d e = true ↔ d = e)
  | .none, e, _, he => by cases e <;> simp_all [PyData.eqv, Ji]
  | .int i, e, _, he => by cases e <;> simp_all [PyData.eqv, Ji]
  | .str i, e, _, he => by cases e <;> simp_all [PyData.eqv, Ji]
  | .list ds, e, hd, he => by
    cases e with
    | list es =>
      rw [Ji] at hd he
      rw [PyData.eqv, PyData.list.injEq]
      exact Zer ds es hd he
    | _ => simp_all [PyData.eqv, Ji]
  | .tuple ds, e, hd, he => by
    cases e with
    | tuple es =>
      rw [Ji] at hd he
      rw [PyData.eqv, PyData.tuple.injEq]
      exact Zer ds es hd he
    | _ => simp_all [PyData.eqv, Ji]
  | .bool b, e, hd, _ => by simp [Ji] at hd
  | .dict b, e, hd, _ => by simp [Ji] at hd
theorem Zer : ∀ (ds es : List PyData), Zdq ds = true → Zdq es = true → (PyData.eqvAll ds es = true ↔ ds = es)
  | [], [], _, _ => by simp [PyData.eqvAll]
  | [], _ :: _, _, _ => by simp [PyData.eqvAll]
  | _ :: _, [], _, _ => by simp [PyData.eqvAll]
  | d :: ds, e :: es, hd, he => by
    rw [Zdq, Bool.and_eq_true] at hd he
    rw [PyData.eqvAll, Bool.and_eq_true, Zik d e hd.1 he.1, Zer ds es hd.2 he.2, List.cons.injEq]
end
theorem Zth {d e : PyData} (h : Ji d = true) (k : Ji e = true) (q : d = e) : PyData.eqv d e = true := (Zik d e h k).mpr q
theorem Zz4 {d e : PyData} (h : Ji d = true) (k : Ji e = true) (q : d ≠ e) : PyData.eqv d e = false := Bool.eq_false_iff.mpr fun z => q ((Zik d e h k).mp z)
noncomputable def fr (a b : Int) : PyData := .tuple [.int a, .int b]
theorem Zfk (a b : Int) : Ji (fr a b) = true := rfl
theorem Zzt {a b c d : Int} : fr a b = fr c d ↔ a = c ∧ b = d := by
  unfold fr
  simp
end L2
namespace L2
open PySem PySem.Spec PyProof.Rows
theorem Zed {t b : Int} (hb : b ≠ 0) : 0 < (Int.gcd t b : Int) := by
  have := Int.gcd_pos_of_ne_zero_right t hb
  omega
theorem Wl {t g : Int} (hg : 0 < g) : t.fdiv g = t / g := Int.fdiv_eq_ediv_of_nonneg t (by omega)
theorem Zc0 {t g : Int} (hg : 0 < g) (h : g ∣ t) : t.fdiv (-g) = -(t / g) := by
  obtain ⟨k, rfl⟩ := h
  rw [Int.mul_ediv_cancel_left _ (by omega)]
  have e : g * k = (-k) * (-g) := by rw [Int.neg_mul_neg, Int.mul_comm]
  rw [e, Int.mul_fdiv_cancel _ (by omega)]
noncomputable def shr (t b : Int) : Int := if b < 0 then -(Int.gcd t b : Int) else (Int.gcd t b : Int)
theorem Zwa {t b : Int} (hb : b ≠ 0) : t.fdiv (shr t b) = (Rat.divInt t b).num := by
  have hg := Zed (t := t) hb
  have hd : (Int.gcd t b : Int) ∣ t := Int.gcd_dvd_left ..
  rw [Rat.num_divInt, Int.gcd_comm b t]
  unfold shr
  by_cases h : b < 0
  · rw [if_pos h, Zc0 hg hd, Int.sign_eq_neg_one_of_neg h, Int.neg_one_mul, Int.neg_ediv_of_dvd hd]
  · rw [if_neg h, Wl hg, Int.sign_eq_one_of_pos (by omega), Int.one_mul]
theorem Zvh {t b : Int} (hb : b ≠ 0) : b.fdiv (shr t b) = ((Rat.divInt t b).den : Int) := by
  have hg := Zed (t := t) hb
  have hd : (Int.gcd t b : Int) ∣ b := Int.gcd_dvd_right ..
  rw [Rat.den_divInt, if_neg hb, Int.gcd_comm b t]
  unfold shr
  by_cases h : b < 0
  · have e : (b.natAbs : Int) = -b := by omega
    rw [if_pos h, Zc0 hg hd, Int.natCast_ediv, e, Int.neg_ediv_of_dvd hd]
  · have e : (b.natAbs : Int) = b := by omega
    rw [if_neg h, Wl hg, Int.natCast_ediv, e]
theorem Zsy {t b : Int} (hb : b ≠ 0) : shr t b ≠ 0 := by
  have hg := Zed (t := t) hb
  unfold shr
  split <;> omega
theorem Ztg {n : Nat} {t b : Int} (hb : b ≠ 0) (h : Bt n b) : Bt n (shr t b) := by
  have h1 : Bt n (Int.gcd t b : Int) := by
    refine Bt.of_le h ?_
    have := Int.gcd_le_natAbs_right t hb
    omega
  unfold shr
  split
  · exact h1.neg
  · exact h1
theorem Zqo {n : Nat} {t b : Int} (hb : b ≠ 0) (h : Bt n t) : Bt n (Rat.divInt t b).num := by
  rw [Rat.num_divInt]
  refine Bt.of_le h ?_
  refine Nat.le_trans (Int.natAbs_ediv_le_natAbs _ _) ?_
  rw [Int.natAbs_mul]
  have : b.sign.natAbs ≤ 1 := by
    rw [Int.natAbs_sign]
    split <;> omega
  calc b.sign.natAbs * t.natAbs ≤ 1 * t.natAbs := Nat.mul_le_mul_right _ this
    _ = t.natAbs := Nat.one_mul _
theorem Zo2 (q : Rat) : (q.den : Int) ≠ 0 := by
  have := q.den_pos
  omega
theorem Zbj (q : Rat) : (0 : Int) < (q.den : Int) := by
  have := q.den_pos
  omega
noncomputable def frD (q : Rat) : PyData := fr q.num (q.den : Int)
theorem Znp {q r : Rat} : frD q = frD r ↔ q = r := by
  unfold frD
  rw [Zzt]
  constructor
  · rintro ⟨h1, h2⟩
    exact Rat.ext h1 (by omega)
  · rintro rfl
    exact ⟨rfl, rfl⟩
theorem Zx3 (q r : Rat) : PyData.eqv (frD q) (frD r) = decide (q = r) := by
  by_cases h : q = r
  · rw [decide_eq_true h]
    exact Zth (Zfk _ _) (Zfk _ _) (Znp.mpr h)
  · rw [decide_eq_false h]
    exact Zz4 (Zfk _ _) (Zfk _ _) fun z => h (Znp.mp z)
noncomputable def BQ (n : Nat) (q : Rat) : Prop := Bt n q.num ∧ Bt n (q.den : Int)
end L2
namespace L2
open PySem PySem.Spec PyProof.Rows
section
variable {X : Cx}
end
end L2
namespace L2
open PySem PySem.Spec PyProof.Rows
section
variable {X : Cx} {K : PySem.W.Frag} {a b o e : Expr} {ta tb tl to : TE} {pos : Pos}
theorem Zr3 (hK : X.K = K) : IxR X (Z3f K) := hK ▸ Zpo
theorem Z2 (hK : X.K = K) : IxR X (rIx K) := hK ▸ Zz3
theorem Zr8 (hK : X.K = K) : SlR X (Z4v K) := hK ▸ Zv0
noncomputable def Z59 (K : PySem.W.Frag) : List V → Hp → VK → Prop := fun xs H Q => ∃ p ys, xs = [.ref p] ∧ (SqL K H p ys ∨ SqT K H p ys) ∧ Q (.int ys.length) H
theorem Yh (hK : X.K = K) : Zeo X (.builtin "len") (Z59 K) := by subst hK; exact Zi4
noncomputable def Z7e (K : PySem.W.Frag) (ta : TE) : TT := fun σ H Q => ta σ H fun x H' => ∃ k, Z36 K x H' k ∧ Q k H'
theorem Zu9 (hK : X.K = K) (ha : PE X a ta) (he : ∀ whole, isTrue a X.env whole = (do let v ← whole; standAt a.pos; holding [v] (truthy v))) : PT X a (Z7e K ta) := by subst hK; exact Zsk ha he
theorem Zq4 {tg l : Expr} (hK : X.K = K) (hl : PE X l tl) : PI X tg l (Z1f K tl) := by subst hK; exact Zww hl
theorem Zlk (hK : X.K = K) : OpR X (compareOp .In) (rIn K false) := by subst hK; exact Zok
end
end L2
namespace L2
open PySem PySem.Spec PyProof.Rows
theorem Wq {H : Hp} {p : Addr} (h : H p = none) (o : HO) : Same H (upd H p o) := fun b u q => by rw [Yc (Za0 q h)]; exact q
noncomputable def But (p : Addr) (H H' : Hp) : Prop := ∀ b o, b ≠ p → H b = some o → H' b = some o
theorem But.upd (p : Addr) (H : Hp) (o : HO) : But p H (upd H p o) := fun b u n e => by rw [Yc n]; exact e
namespace B
theorem boot_abs : bootBuiltins "abs" = some (.builtin "abs") := by decide +kernel
theorem boot_len : bootBuiltins "len" = some (.builtin "len") := by decide +kernel
theorem boot_isinstance : bootBuiltins "isinstance" = some (.builtin "isinstance") := by decide +kernel
theorem boot_sorted : bootBuiltins "sorted" = some (.builtin "sorted") := by decide +kernel
theorem boot_int : bootBuiltins "int" = some (.type "int") := by decide +kernel
theorem boot_bool : bootBuiltins "bool" = some (.type "bool") := by decide +kernel
theorem boot_list : bootBuiltins "list" = some (.type "list") := by decide +kernel
theorem boot_tuple : bootBuiltins "tuple" = some (.type "tuple") := by decide +kernel
theorem boot_range : bootBuiltins "range" = some (.type "range") := by decide +kernel
end B
theorem Zc4 {a b : Int} (hb : 0 < b) : a.fmod b = a % b := Int.fmod_eq_emod_of_nonneg a (by omega)
theorem Zr4 {x y : Int} (hx : 0 ≤ x) (hy : 0 < y) : Int.gcd y (x.fmod y) = Int.gcd x y := by
  rw [Zc4 hy, Int.gcd_comm x y]
  have e := Int.emod_add_mul_ediv x y
  conv => rhs; rw [← e]
  rw [Int.gcd_add_mul_left_right]
end L2
namespace L2
open PySem PySem.Spec PyProof.Rows
section
variable {X : Cx} {K : PySem.W.Frag} {pos : Pos}
end
end L2
namespace L2
open PySem PySem.Spec PyProof.Rows
theorem Zsa (q : Rat) : Rat.divInt q.num (q.den : Int) = q := Rat.num_divInt_den q
end L2
namespace L2
open PySem PySem.Spec PyProof.Rows
section
variable {X : Cx}
end
end L2
namespace L2
open PySem PySem.Spec PyProof.Rows
theorem BQ.n {n : Nat} {q : Rat} (h : BQ n q) : Bt n q.num := h.1
theorem BQ.d {n : Nat} {q : Rat} (h : BQ n q) : Bt n (q.den : Int) := h.2
theorem Z7b (q : Rat) : (((q.den : Int)) : Rat) ≠ 0 := by
  intro z
  exact Zo2 q (Rat.intCast_eq_zero_iff.mp z)
theorem Z7r (q : Rat) : ((q.num : Int) : Rat) = q * (((q.den : Int)) : Rat) := by
  have h := Zsa q
  rw [Rat.divInt_eq_div] at h
  have d := Z7b q
  conv => rhs; lhs; rw [← h]
  grind
end L2
namespace L2
end L2
namespace L2
end L2
namespace L2
open PySem PySem.Spec PyProof.Rows
variable {G : PySem.W.Frag}
noncomputable def KS (G : PySem.W.Frag) (a : Addr) (ns : List Int) : Prop := ∃ (o : Obj) (its : Array Value) (n : Nat), G.lookup a = some o ∧ o.cls = .type "list" ∧ o.dict = none ∧ o.data = .seq its n ∧ its.size ≤ sizeLine ∧ Vals (ns.map V.int) its.toList
theorem KS.sq {G : PySem.W.Frag} {H : Hp} {a : Addr} {ns : List Int} (h : KS G a ns) : SqL G H a (ns.map V.int) := .inr h
noncomputable def exD (x : Str) : PyData := .dict [(.str x, .none)]
noncomputable def fnD (x : Str) : PyData := .dict [(.str x, .bool true)]
noncomputable def Zgp : PyData → Bool | .dict ((_, .bool _) :: _) => true | _ => false
noncomputable def ClsAt (G : PySem.W.Frag) (x : Str) (C : Addr) : Prop := PySem.W.nsIn G mainGlobals x = some (some (.ref C))
structure Zh8 (G : PySem.W.Frag) (C : Addr) : Prop where
  ga : PySem.W.findIn G (.ref C) "__getattribute__" = some (some (.builtin "BaseException.__getattribute__"))
  gt : PySem.W.findIn G (.ref C) "__getattr__" = some none
  cl : PySem.W.findIn G (.ref C) "__class__" = some (some (.builtin "object.__class__"))
  isB : PySem.W.subIn G (.ref C) (.type "BaseException") = some true
  isO : PySem.W.subIn G (.ref C) (.type "object") = some true
  isC : (PySem.W.clsIn G C).isSome = true
  k1 : PySem.W.kitOne G (.ref C) (.type "int") = some false
  k2 : PySem.W.kitOne G (.ref C) (.type "bool") = some false
  k3 : PySem.W.kitOne G (.ref C) (.type "str") = some false
  k4 : PySem.W.kitOne G (.ref C) (.type "list") = some false
  k5 : PySem.W.kitOne G (.ref C) (.type "tuple") = some false
noncomputable def ExO (C a : Addr) (h : Heap) : Prop := ∃ o vs, h.get? a = some o ∧ o.cls = .ref C ∧ o.data = .fields vs
inductive ImO where
  | tup (xs : List V)
  | ext (φ : Heap → Prop)
noncomputable def ImO.ho : ImO → HO
  | .tup xs => .tup xs
  | .ext φ => .ext φ
inductive MuO where
  | lst (xs : List V)
  | dK (kvs : List (Key × V))
  | dT (kvs : List (List Key × V))
noncomputable def MuO.ho : MuO → HO
  | .lst xs => .lst xs
  | .dK kvs => .dK kvs
  | .dT kvs => .dT kvs
noncomputable def Zyk : Key → PyData
  | .inl i => .int i
  | .inr x => .str x
noncomputable def keyT (ks : List Key) : PyData := .tuple (ks.map Zyk)
noncomputable abbrev KY := Sum Key (List Key)
noncomputable def kyD : KY → PyData
  | .inl k => Zyk k
  | .inr ks => keyT ks
noncomputable def MuO.dic (t : Bool) (ks : List KY) (xs : List V) : MuO → Prop
  | .lst _ => False
  | .dK kvs => t = false ∧ ks = kvs.map (fun p => .inl p.1) ∧ xs = kvs.map (·.2)
  | .dT kvs => t = true ∧ ks = kvs.map (fun p => .inr p.1) ∧ xs = kvs.map (·.2)
noncomputable def dcD (t : Bool) (ks : List KY) (ds : List PyData) : PyData := .dict ((.none, .bool t) :: (ks.map kyD).zip ds)
theorem ImO.nm {H : Hp} {a : Addr} {x : ImO} {y : MuO} (h : H a = some x.ho) (h' : H a = some y.ho) : False := by
  rw [h] at h'
  cases x <;> cases y <;> cases h'
theorem ImO.nl {H : Hp} {a : Addr} {x : ImO} {ys : List V} (h : H a = some x.ho) (h' : H a = some (.lst ys)) : False := by
  rw [h] at h'
  cases x <;> cases h'
mutual
inductive Da (G : PySem.W.Frag) (H : Hp) (L : Addr → Prop) : V → PyData → Prop where
  | non : Da G H L .non .none
  | bl (b : Bool) : Da G H L (.bl b) (.bool b)
  | int (i : Int) : Da G H L (.int i) (.int i)
  | str (x : Str) : Da G H L (.str x) (.str x)
  | lst {a : Addr} {xs : List V} {ds : List PyData} : L a → Rd H a (.lst xs) → Das G H L xs ds → Da G H L (.ref a) (.list ds)
  | tup {a : Addr} {xs : List V} {ds : List PyData} : H a = some (.tup xs) → Das G H L xs ds → Da G H L (.ref a) (.tuple ds)
  | scr {a : Addr} {ns : List Int} : KS G a ns → Da G H L (.ref a) (.list (ns.map PyData.int))
  | exc {a C : Addr} {x : Str} : Zh8 G C → ClsAt G x C → H a = some (.ext (ExO C a)) → Da G H L (.ref a) (exD x)
  | fn {a : Addr} {x : Str} : ClsAt G x a → Da G H L (.ref a) (fnD x)
  | dic {a : Addr} {o : MuO} {t : Bool} {ks : List KY} {xs : List V} {ds : List PyData} : L a → Rd H a o.ho → o.dic t ks xs → Das G H L xs ds → Da G H L (.ref a) (dcD t ks ds)
inductive Das (G : PySem.W.Frag) (H : Hp) (L : Addr → Prop) : List V → List PyData → Prop where
  | nil : Das G H L [] []
  | cons {x : V} {xs : List V} {d : PyData} {ds : List PyData} : Da G H L x d → Das G H L xs ds → Das G H L (x :: xs) (d :: ds)
end
section
variable {H H' : Hp} {L L' : Addr → Prop}
theorem Da.both {P : V → PyData → Prop} {Q : List V → List PyData → Prop} (c1 : P .non .none) (c2 : ∀ b, P (.bl b) (.bool b)) (c3 : ∀ i, P (.int i) (.int i)) (c4 : ∀ x, P (.str x) (.str x))
    (c5 : ∀ {a : Addr} {xs : List V} {ds : List PyData}, L a → Rd H a (.lst xs) → Q xs ds → P (.ref a) (.list ds)) (c6 : ∀ {a : Addr} {xs : List V} {ds : List PyData}, H a = some (.tup xs) → Q xs ds → P (.ref a) (.tuple ds))
    (c7 : ∀ {a : Addr} {ns : List Int}, KS G a ns → P (.ref a) (.list (ns.map PyData.int))) (c8 : ∀ {a C : Addr} {x : Str}, Zh8 G C → ClsAt G x C → H a = some (.ext (ExO C a)) → P (.ref a) (exD x)) (c9 : ∀ {a : Addr} {x : Str}, ClsAt G x a → P (.ref a) (fnD x))
    (c10 : ∀ {a : Addr} {o : MuO} {t : Bool} {ks : List KY} {xs : List V} {ds : List PyData}, L a → Rd H a o.ho → o.dic t ks xs → Q xs ds → P (.ref a) (dcD t ks ds)) (n : Q [] []) (c : ∀ {x : V} {xs : List V} {d : PyData} {ds : List PyData}, P x d → Q xs ds → Q (x :: xs) (d :: ds)) : (∀ {v d}, Da G H L v d → P v d) ∧ ∀ {xs ds}, Das G H L xs ds → Q xs ds :=
  ⟨fun h => Da.rec (motive_1 := fun v d _ => P v d) (motive_2 := fun xs ds _ => Q xs ds) c1 c2 c3 c4 (fun p e _ r => c5 p e r) (fun e _ r => c6 e r) (fun k => c7 k) (fun k l m => c8 k l m) (fun k => c9 k) (fun p e k _ r => c10 p e k r) n (fun _ _ p q => c p q) h,
   fun h => Das.rec (motive_1 := fun v d _ => P v d) (motive_2 := fun xs ds _ => Q xs ds) c1 c2 c3 c4 (fun p e _ r => c5 p e r) (fun e _ r => c6 e r) (fun k => c7 k) (fun k l m => c8 k l m) (fun k => c9 k) (fun p e k _ r => c10 p e k r) n (fun _ _ p q => c p q) h⟩
theorem Das.ind {Q : List V → List PyData → Prop} (n : Q [] []) (c : ∀ {x : V} {xs : List V} {d : PyData} {ds : List PyData}, Da G H L x d → Das G H L xs ds → Q xs ds → Q (x :: xs) (d :: ds)) : ∀ {xs ds}, Das G H L xs ds → Q xs ds := fun h =>
  Das.rec (motive_1 := fun _ _ _ => True) (motive_2 := fun xs ds _ => Q xs ds) trivial (fun _ => trivial) (fun _ => trivial) (fun _ => trivial) (fun _ _ _ _ => trivial) (fun _ _ _ => trivial) (fun _ => trivial) (fun _ _ _ => trivial) (fun _ => trivial) (fun _ _ _ _ _ => trivial) n (fun p q _ r => c p q r) h
theorem Da.frame2 (hl : ∀ a (xs : MuO), L a → Rd H a xs.ho → L' a ∧ Rd H' a xs.ho) (ht : ∀ a (xs : ImO), H a = some xs.ho → H' a = some xs.ho) : (∀ {v : V} {d : PyData}, Da G H L v d → Da G H' L' v d) ∧ ∀ {xs : List V} {ds : List PyData}, Das G H L xs ds → Das G H' L' xs ds :=
  Da.both .non .bl .int .str (fun {_ xs _} p e r => .lst (hl _ (.lst xs) p e).1 (hl _ (.lst xs) p e).2 r) (fun {_ xs _} e r => .tup (ht _ (.tup xs) e) r) .scr (fun c n e => .exc c n (ht _ (.ext _) e)) .fn (fun p e k r => .dic (hl _ _ p e).1 (hl _ _ p e).2 k r) .nil .cons
theorem Da.frame (hl : ∀ a (xs : MuO), L a → Rd H a xs.ho → L' a ∧ Rd H' a xs.ho) (ht : ∀ a (xs : ImO), H a = some xs.ho → H' a = some xs.ho) {v : V} {d : PyData} (h : Da G H L v d) : Da G H' L' v d := (Da.frame2 hl ht).1 h
theorem Das.frame (hl : ∀ a (xs : MuO), L a → Rd H a xs.ho → L' a ∧ Rd H' a xs.ho) (ht : ∀ a (xs : ImO), H a = some xs.ho → H' a = some xs.ho) {xs : List V} {ds : List PyData} (h : Das G H L xs ds) : Das G H' L' xs ds := (Da.frame2 hl ht).2 h
theorem Rd.same {a : Addr} {u : HO} (s : Same H H') (h : Rd H a u) : Rd H' a u := h.imp (s _ _) fun ⟨o, h⟩ => ⟨o, s _ _ h⟩
theorem Rd.some {a : Addr} {u : HO} (h : Rd H a u) : H a ≠ Option.none := by
  rcases h with h | ⟨o, h⟩ <;> rw [h] <;> intro z <;> cases z
theorem Da.same (h : Same H H') {v : V} {d : PyData} (x : Da G H L v d) : Da G H' L v d := x.frame (fun a xs p e => ⟨p, e.same h⟩) fun a xs e => h _ _ e
theorem Das.same (h : Same H H') {v : List V} {d : List PyData} (x : Das G H L v d) : Das G H' L v d := x.frame (fun a xs p e => ⟨p, e.same h⟩) fun a xs e => h _ _ e
theorem Da.wide (h : ∀ a, L a → H a ≠ none → L' a) {v : V} {d : PyData} (x : Da G H L v d) : Da G H L' v d := x.frame (fun a xs p e => ⟨h a p e.some, e⟩) fun a xs e => e
theorem Das.wide (h : ∀ a, L a → H a ≠ none → L' a) {v : List V} {d : List PyData} (x : Das G H L v d) : Das G H L' v d := x.frame (fun a xs p e => ⟨h a p e.some, e⟩) fun a xs e => e
theorem Das.length {xs : List V} {ds : List PyData} (h : Das G H L xs ds) : xs.length = ds.length := Das.ind (Q := fun xs ds => xs.length = ds.length) rfl (fun _ _ r => congrArg (· + 1) r) h
theorem Das.append {xs ys : List V} {ds es : List PyData} (h : Das G H L xs ds) (k : Das G H L ys es) : Das G H L (xs ++ ys) (ds ++ es) := Das.ind (Q := fun xs ds => Das G H L (xs ++ ys) (ds ++ es)) k (fun h _ r => .cons h r) h
theorem Das.snoc {xs : List V} {ds : List PyData} {x : V} {d : PyData} (h : Das G H L xs ds) (k : Da G H L x d) : Das G H L (xs ++ [x]) (ds ++ [d]) := h.append (.cons k .nil)
theorem Das.get {xs : List V} {ds : List PyData} {i : Nat} {d : PyData} (h : Das G H L xs ds) : ds[i]? = some d → ∃ x, xs[i]? = some x ∧ Da G H L x d :=
  Das.ind (Q := fun xs ds => ∀ i, ds[i]? = some d → ∃ x, xs[i]? = some x ∧ Da G H L x d) (fun _ e => (Option.some_ne_none _ (e.symm.trans List.getElem?_nil)).elim) (fun {x _ _ _} h _ r i => Nat.casesOn i (fun e => ⟨x, rfl, Option.some.inj e ▸ h⟩) fun i e => r i e) h i
theorem Das.take {xs : List V} {ds : List PyData} (n : Nat) (h : Das G H L xs ds) : Das G H L (xs.take n) (ds.take n) :=
  Das.ind (Q := fun xs ds => ∀ n, Das G H L (xs.take n) (ds.take n)) (fun n => by rw [List.take_nil, List.take_nil]; exact .nil) (fun h _ r n => Nat.casesOn n .nil fun n => .cons h (r n)) h n
theorem Das.drop {xs : List V} {ds : List PyData} (n : Nat) (h : Das G H L xs ds) : Das G H L (xs.drop n) (ds.drop n) :=
  Das.ind (Q := fun xs ds => ∀ n, Das G H L (xs.drop n) (ds.drop n)) (fun n => by rw [List.drop_nil, List.drop_nil]; exact .nil) (fun h q r n => Nat.casesOn n (.cons h q) fun n => r n) h n
theorem Das.ints (ns : List Int) : Das G H L (ns.map V.int) (ns.map PyData.int) := by
  induction ns with
  | nil => exact .nil
  | cons n ns ih => exact .cons (.int n) ih
theorem Das.int_inv {xs : List V} {ns : List Int} (h : Das G H L xs (ns.map PyData.int)) : xs = ns.map V.int := by
  induction ns generalizing xs with
  | nil => cases h; rfl
  | cons n ns ih =>
    rw [List.map_cons] at h
    cases h with
    | cons h r => cases h; rw [ih r]; rfl
end
theorem Zm7 {h : Heap} (ns : List Int) {us : List Value} (v : Vals (ns.map V.int) us) : ∃ as, ReadsAll h us (ns.map PyData.int) as := by
  induction ns generalizing us with
  | nil => cases v; exact ⟨_, .nil⟩
  | cons n ns ih =>
    rw [List.map_cons] at v
    cases v with
    | cons r rs =>
      obtain ⟨t, e⟩ := (show ∃ t, _ = Value.int n t from r)
      subst e
      obtain ⟨bs, k'⟩ := ih rs
      exact ⟨_, .cons (.int n t) k'⟩
section
variable {X : Cx} {pins : List (Addr × Obj)} {σ : St} {H : Hp} {s : Shared} {L L' : Addr → Prop}
theorem Da.reads2 (hG : X.K = G) (I : Inv X pins σ H s) : (∀ {v : V} {d : PyData}, Da G H L v d → ∀ u, RelV v u → d.canLay0 = true → ∃ as, Reads s.heap u d as) ∧ ∀ {xs : List V} {ds : List PyData}, Das G H L xs ds → ∀ us, Vals xs us → PyData.canLayAll0 ds = true → ∃ as, ReadsAll s.heap us ds as := by
  refine Da.both ?_ ?_ ?_ ?_ ?_ ?_ ?_ ?_ ?_ ?_ ?_ ?_
  · intro u r _
    cases (show _ = Value.none from r)
    exact ⟨_, .none⟩
  · intro b u r _
    cases (show _ = Value.bool b from r)
    exact ⟨_, .bool b⟩
  · intro i u r _
    obtain ⟨t, e⟩ := (show ∃ t, _ = Value.int i t from r)
    subst e
    exact ⟨_, .int i t⟩
  · intro x u r _
    obtain ⟨t, e⟩ := (show ∃ t, _ = Value.str x t from r)
    subst e
    exact ⟨_, .str x t⟩
  · intro a xs ds _ e q u r hcl
    cases (show _ = Value.ref a from r)
    obtain ⟨_, its, n, vs, h1⟩ := (show ObjOk X.prog X.w H s.heap a (.lst xs) from e.ok I.hok)
    rw [PyData.canLay0] at hcl
    obtain ⟨as, k⟩ := q _ vs hcl
    exact ⟨_, Reads.list h1 rfl rfl k⟩
  · intro a xs ds e q u r hcl
    cases (show _ = Value.ref a from r)
    obtain ⟨_, its, vs, o, ho, hc, n, hd⟩ := (show ObjOk X.prog X.w H s.heap a (.tup xs) from I.hok a _ e)
    rw [PyData.canLay0] at hcl
    obtain ⟨as, k⟩ := q _ vs hcl
    exact ⟨_, Reads.tuple ho hc hd k⟩
  · intro a ns k u r _
    cases (show _ = Value.ref a from r)
    subst hG
    obtain ⟨its, vs, ⟨o, n, ho, hc, hd, hs⟩, _⟩ := I.list (k.sq (H := H))
    obtain ⟨as, q⟩ := Zm7 ns vs
    exact ⟨_, Reads.list ho hc hs q⟩
  · intro a C x _ _ e u r hc
    rw [exD, PyData.canLay0] at hc
    cases hc
  · intro a x _ u r hc
    rw [fnD, PyData.canLay0] at hc
    cases hc
  · intro a o t ks xs ds _ _ _ _ u r hc
    rw [dcD, PyData.canLay0] at hc
    cases hc
  · intro us v _
    cases v
    exact ⟨_, .nil⟩
  · intro x xs d ds h q us v hc
    cases v with
    | cons r rs =>
      rw [PyData.canLayAll0, Bool.and_eq_true] at hc
      obtain ⟨as, k⟩ := h _ r hc.1
      obtain ⟨bs, k'⟩ := q _ rs hc.2
      exact ⟨_, .cons k k'⟩
theorem Da.reads (hG : X.K = G) (I : Inv X pins σ H s) {v : V} {d : PyData} {u : Value} (h : Da G H L v d) (r : RelV v u) (c : d.canLay0 = true) : ∃ as, Reads s.heap u d as := (Da.reads2 hG I).1 h u r c
end
inductive OT where
  | fz (d : PyData)
  | nd (ts : List OT)
  | tp (ts : List OT)
  | dc (t : Bool) (ks : List KY) (ds : List PyData)
mutual
noncomputable def OT.data : OT → PyData
  | .fz d => d
  | .nd ts => .list (OT.datas ts)
  | .tp ts => .tuple (OT.datas ts)
  | .dc t ks ds => dcD t ks ds
noncomputable def OT.datas : List OT → List PyData
  | [] => []
  | t :: ts => t.data :: OT.datas ts
end
theorem OT.datas_map : ∀ (ts : List OT), OT.datas ts = ts.map OT.data
  | [] => rfl
  | t :: ts => by rw [OT.datas, OT.datas_map ts]; rfl
@[simp] theorem OT.data_fz (d : PyData) : (OT.fz d).data = d := by rw [OT.data]
@[simp] theorem OT.data_nd (ts : List OT) : (OT.nd ts).data = .list (ts.map OT.data) := by rw [OT.data, OT.datas_map]
@[simp] theorem OT.data_tp (ts : List OT) : (OT.tp ts).data = .tuple (ts.map OT.data) := by rw [OT.data, OT.datas_map]
theorem OT.data_dc (t : Bool) (ks : List KY) (ds : List PyData) : (OT.dc t ks ds).data = dcD t ks ds := by rw [OT.data]
@[simp] theorem OT.map_fz (ds : List PyData) : (ds.map OT.fz).map OT.data = ds := by
  rw [List.map_map]
  exact (List.map_congr_left fun d _ => OT.data_fz d).trans (List.map_id _)
mutual
inductive Own (G : PySem.W.Frag) (H : Hp) (L : Addr → Prop) : V → OT → List Addr → Prop where
  | fz {v : V} {d : PyData} : Da G H L v d → Own G H L v (.fz d) []
  | nd {a : Addr} {xs : List V} {ts : List OT} {bs : List Addr} : H a = some (.lst xs) → Owns G H L xs ts bs → Own G H L (.ref a) (.nd ts) (a :: bs)
  | tp {a : Addr} {xs : List V} {ts : List OT} {bs : List Addr} : H a = some (.tup xs) → Owns G H L xs ts bs → Own G H L (.ref a) (.tp ts) bs
  | dc {a : Addr} {o : MuO} {t : Bool} {ks : List KY} {xs : List V} {ds : List PyData} : H a = some o.ho → o.dic t ks xs → Das G H L xs ds → Own G H L (.ref a) (.dc t ks ds) [a]
inductive Owns (G : PySem.W.Frag) (H : Hp) (L : Addr → Prop) : List V → List OT → List Addr → Prop where
  | nil : Owns G H L [] [] []
  | cons {x : V} {xs : List V} {t : OT} {ts : List OT} {as bs : List Addr} : Own G H L x t as → Owns G H L xs ts bs → Owns G H L (x :: xs) (t :: ts) (as ++ bs)
end
section
variable {H H' : Hp} {L L' : Addr → Prop}
theorem Own.both {P : V → OT → List Addr → Prop} {Q : List V → List OT → List Addr → Prop} (c1 : ∀ {v : V} {d : PyData}, Da G H L v d → P v (.fz d) []) (c2 : ∀ {a : Addr} {xs : List V} {ts : List OT} {bs : List Addr}, H a = some (.lst xs) → Q xs ts bs → P (.ref a) (.nd ts) (a :: bs))
    (c3 : ∀ {a : Addr} {xs : List V} {ts : List OT} {bs : List Addr}, H a = some (.tup xs) → Q xs ts bs → P (.ref a) (.tp ts) bs) (c4 : ∀ {a : Addr} {o : MuO} {t : Bool} {ks : List KY} {xs : List V} {ds : List PyData}, H a = some o.ho → o.dic t ks xs → Das G H L xs ds → P (.ref a) (.dc t ks ds) [a]) (n : Q [] [] []) (c : ∀ {x : V} {xs : List V} {t : OT} {ts : List OT} {as bs : List Addr}, P x t as → Q xs ts bs → Q (x :: xs) (t :: ts) (as ++ bs)) :
    (∀ {v t as}, Own G H L v t as → P v t as) ∧ ∀ {xs ts as}, Owns G H L xs ts as → Q xs ts as :=
  ⟨fun h => Own.rec (motive_1 := fun v t as _ => P v t as) (motive_2 := fun xs ts as _ => Q xs ts as) c1 (fun e _ r => c2 e r) (fun e _ r => c3 e r) (fun e k r => c4 e k r) n (fun _ _ p q => c p q) h,
   fun h => Owns.rec (motive_1 := fun v t as _ => P v t as) (motive_2 := fun xs ts as _ => Q xs ts as) c1 (fun e _ r => c2 e r) (fun e _ r => c3 e r) (fun e k r => c4 e k r) n (fun _ _ p q => c p q) h⟩
theorem Own.frame2 (hl : ∀ a (xs : MuO), L a → Rd H a xs.ho → L' a ∧ Rd H' a xs.ho) (ht : ∀ a (xs : ImO), H a = some xs.ho → H' a = some xs.ho) :
    (∀ {v : V} {t : OT} {as : List Addr}, Own G H L v t as → (∀ a ∈ as, ∀ xs : MuO, H a = some xs.ho → H' a = some xs.ho) → Own G H' L' v t as) ∧ ∀ {xs : List V} {ts : List OT} {as : List Addr}, Owns G H L xs ts as → (∀ a ∈ as, ∀ xs : MuO, H a = some xs.ho → H' a = some xs.ho) → Owns G H' L' xs ts as :=
  Own.both (fun h _ => .fz (h.frame hl ht)) (fun {_ xs _ _} e r ha => .nd (ha _ (.head _) (.lst xs) e) (r fun a m => ha a (.tail _ m))) (fun {_ xs _ _} e r ha => .tp (ht _ (.tup xs) e) (r ha)) (fun e k r ha => .dc (ha _ (.head _) _ e) k (r.frame hl ht)) (fun _ => .nil) (fun h r ha => .cons (h fun a m => ha a (List.mem_append_left _ m)) (r fun a m => ha a (List.mem_append_right _ m)))
theorem Own.frame (hl : ∀ a (xs : MuO), L a → Rd H a xs.ho → L' a ∧ Rd H' a xs.ho) (ht : ∀ a (xs : ImO), H a = some xs.ho → H' a = some xs.ho) {v : V} {t : OT} {as : List Addr} (ha : ∀ a ∈ as, ∀ xs : MuO, H a = some xs.ho → H' a = some xs.ho) (h : Own G H L v t as) : Own G H' L' v t as := (Own.frame2 hl ht).1 h ha
theorem Owns.frame (hl : ∀ a (xs : MuO), L a → Rd H a xs.ho → L' a ∧ Rd H' a xs.ho) (ht : ∀ a (xs : ImO), H a = some xs.ho → H' a = some xs.ho) {xs : List V} {ts : List OT} {as : List Addr} (ha : ∀ a ∈ as, ∀ xs : MuO, H a = some xs.ho → H' a = some xs.ho) (h : Owns G H L xs ts as) : Owns G H' L' xs ts as := (Own.frame2 hl ht).2 h ha
theorem Own.same (h : Same H H') {v : V} {t : OT} {as : List Addr} (x : Own G H L v t as) : Own G H' L v t as := x.frame (fun a xs p e => ⟨p, e.same h⟩) (fun a xs e => h _ _ e) fun a _ xs e => h _ _ e
theorem Own.wide (h : ∀ a, L a → H a ≠ none → L' a) {v : V} {t : OT} {as : List Addr} (x : Own G H L v t as) : Own G H L' v t as := x.frame (fun a xs p e => ⟨h a p e.some, e⟩) (fun a xs e => e) fun a _ xs e => e
theorem Owns.wide (h : ∀ a, L a → H a ≠ none → L' a) {v : List V} {t : List OT} {as : List Addr} (x : Owns G H L v t as) : Owns G H L' v t as := x.frame (fun a xs p e => ⟨h a p e.some, e⟩) (fun a xs e => e) fun a _ xs e => e
theorem Owns.same (h : Same H H') {v : List V} {t : List OT} {as : List Addr} (x : Owns G H L v t as) : Owns G H' L v t as := x.frame (fun a xs p e => ⟨p, e.same h⟩) (fun a xs e => h _ _ e) fun a _ xs e => h _ _ e
theorem Own.da2 (h : ∀ a, L a → H a ≠ none → L' a) : (∀ {v : V} {t : OT} {as : List Addr}, Own G H L v t as → (∀ a ∈ as, L' a) → Da G H L' v t.data) ∧ ∀ {v : List V} {t : List OT} {as : List Addr}, Owns G H L v t as → (∀ a ∈ as, L' a) → Das G H L' v (OT.datas t) :=
  Own.both (fun k _ => by rw [OT.data_fz]; exact k.wide h) (fun e r ha => by rw [OT.data]; exact .lst (ha _ (.head _)) (.inl e) (r fun a m => ha a (.tail _ m))) (fun e r ha => by rw [OT.data]; exact .tup e (r ha)) (fun e k r ha => by rw [OT.data]; exact .dic (ha _ (.head _)) (.inl e) k (r.wide h)) (fun _ => .nil) (fun k r ha => .cons (k fun a m => ha a (List.mem_append_left _ m)) (r fun a m => ha a (List.mem_append_right _ m)))
theorem Own.da (h : ∀ a, L a → H a ≠ none → L' a) {v : V} {t : OT} {as : List Addr} (ha : ∀ a ∈ as, L' a) (k : Own G H L v t as) : Da G H L' v t.data := (Own.da2 h).1 k ha
theorem Owns.das (h : ∀ a, L a → H a ≠ none → L' a) {v : List V} {t : List OT} {as : List Addr} (ha : ∀ a ∈ as, L' a) (k : Owns G H L v t as) : Das G H L' v (OT.datas t) := (Own.da2 h).2 k ha
theorem Own.some2 : (∀ {v : V} {t : OT} {as : List Addr}, Own G H L v t as → ∀ a ∈ as, ∃ xs : MuO, H a = some xs.ho) ∧ ∀ {v : List V} {t : List OT} {as : List Addr}, Owns G H L v t as → ∀ a ∈ as, ∃ xs : MuO, H a = some xs.ho :=
  Own.both (fun _ _ m => nomatch m) (fun {_ xs _ _} e r a m => (List.mem_cons.mp m).elim (fun q => ⟨.lst xs, q ▸ e⟩) (r a)) (fun _ r => r) (fun {_ o _ _ _ _} e _ _ a m => ⟨o, List.mem_singleton.mp m ▸ e⟩) (fun _ m => nomatch m) (fun k r a m => (List.mem_append.mp m).elim (k a) (r a))
theorem Own.some {v : V} {t : OT} {as : List Addr} (h : Own G H L v t as) : ∀ a ∈ as, ∃ xs : MuO, H a = some xs.ho := Own.some2.1 h
theorem Owns.some {v : List V} {t : List OT} {as : List Addr} (h : Owns G H L v t as) : ∀ a ∈ as, ∃ xs : MuO, H a = some xs.ho := Own.some2.2 h
theorem Owns.length {xs : List V} {ts : List OT} {as : List Addr} (h : Owns G H L xs ts as) : xs.length = ts.length := (Own.both (P := fun _ _ _ => True) (Q := fun xs ts _ => xs.length = ts.length) (fun _ => trivial) (fun _ _ => trivial) (fun _ _ => trivial) (fun _ _ _ => trivial) rfl (fun _ r => congrArg (· + 1) r)).2 h
theorem Das.owns {xs : List V} {ds : List PyData} (h : Das G H L xs ds) : Owns G H L xs (ds.map OT.fz) [] := Das.ind (Q := fun xs ds => Owns G H L xs (ds.map OT.fz) []) .nil (fun h _ r => .cons (.fz h) r) h
end
end L2
namespace L2
open PySem PySem.Spec PyProof.Rows
variable {G : PySem.W.Frag}
noncomputable abbrev Zj := List (Option OT)
noncomputable abbrev Fp := Nat → List Addr
set_option genInjectivity false in
structure MC (G : PySem.W.Frag) where
  H₀ : Hp
  as₀ : Addr → Prop
  L : Addr → Prop
  σ₀ : St
noncomputable def Foot (fp : Fp) (a : Addr) : Prop := ∃ i, a ∈ fp i
noncomputable def Lf (C : MC G) (fp : Fp) (ex : Addr → Prop) (a : Addr) : Prop := ¬ Foot fp a ∧ ¬ ex a ∧ (C.L a ∨ C.H₀ a = none)
structure Rel (C : MC G) (io : List Nat) (H : Hp) (σ : St) (δ : Zj) (fp : Fp) (ex : Addr → Prop) : Prop where
  len : σ.length = δ.length
  own : ∀ (i : Nat) (t : OT), δ[i]? = some (some t) → ∃ v, σ[i]? = some (some v) ∧ Own G H (Lf C fp ex) v t (fp i)
  emp : ∀ i : Nat, (∀ t, δ[i]? ≠ some (some t)) → fp i = []
  nd : ∀ i, (fp i).Nodup
  dj : ∀ i j a, a ∈ fp i → a ∈ fp j → i = j
  dx : ∀ i a, a ∈ fp i → ¬ ex a
  xa : ∀ a, ex a → H a ≠ none
  fr : ∀ b o, C.H₀ b = some o → ¬ C.as₀ b → H b = some o
  al : ∀ b, H b = none → C.H₀ b = none
  new : ∀ i a, a ∈ fp i → (i ∈ io ∧ C.as₀ a) ∨ C.H₀ a = none
  io : ∀ i ∈ io, σ[i]? = C.σ₀[i]?
structure Stp (p : Bool) (H : Hp) (δ : Zj) (fp : Fp) (H' : Hp) (δ' : Zj) (fp' : Fp) : Prop where
  keep : ∀ b o, H b = some o → (p = true ∨ ¬ Foot fp b) → H' b = some o
  env : p = true → δ' = δ ∧ fp' = fp
  grow : ∀ a, Foot fp' a → Foot fp a ∨ H a = none
  al : ∀ b, H' b = none → H b = none
section
variable {C : MC G} {io : List Nat} {H H' H'' : Hp} {σ : St} {δ δ' δ'' : Zj} {fp fp' fp'' : Fp} {ex ex' : Addr → Prop} {p p' c : Bool} {v : V} {d : PyData} {r : OT} {new : List Addr}
theorem Rel.foot (R : Rel C io H σ δ fp ex) {a : Addr} (h : Foot fp a) : ∃ xs : MuO, H a = some xs.ho := by
  obtain ⟨i, h⟩ := h
  by_cases q : ∃ t, δ[i]? = some (some t)
  · obtain ⟨t, q⟩ := q
    obtain ⟨v, _, o⟩ := R.own i t q
    exact o.some a h
  · rw [R.emp i (fun t z => q ⟨t, z⟩)] at h
    exact nomatch h
theorem Rel.footSome (R : Rel C io H σ δ fp ex) {a : Addr} (h : H a = none) : ¬ Foot fp a := fun z => by
  obtain ⟨xs, e⟩ := R.foot z
  rw [h] at e
  cases e
theorem Stp.refl (p : Bool) (H : Hp) (δ : Zj) (fp : Fp) : Stp p H δ fp H δ fp := ⟨fun _ _ h _ => h, fun _ => ⟨rfl, rfl⟩, fun _ h => .inl h, fun _ h => h⟩
theorem Stp.same (h : Same H H') (hn : ∀ b, H' b = none → H b = none) : Stp p H δ fp H' δ fp := ⟨fun _ _ q _ => h _ _ q, fun _ => ⟨rfl, rfl⟩, fun _ h => .inl h, hn⟩
theorem Same.al (h : Same H H') : ∀ b, H' b = none → H b = none := fun _ q => h.free q
theorem Stp.trans (a : Stp p H δ fp H' δ' fp') (b : Stp p' H' δ' fp' H'' δ'' fp'') : Stp (p && p') H δ fp H'' δ'' fp'' where
  keep := fun x o e h => by
    rcases h with h | h
    · rw [Bool.and_eq_true] at h
      exact b.keep x o (a.keep x o e (.inl h.1)) (.inl h.2)
    · refine b.keep x o (a.keep x o e (.inr h)) (.inr fun z => ?_)
      rcases a.grow x z with z | z
      · exact h z
      · rw [e] at z; cases z
  env := fun h => by
    rw [Bool.and_eq_true] at h
    obtain ⟨e1, e2⟩ := a.env h.1
    obtain ⟨e3, e4⟩ := b.env h.2
    exact ⟨e3.trans e1, e4.trans e2⟩
  grow := fun x h => by
    rcases b.grow x h with h | h
    · exact a.grow x h
    · exact .inr (a.al x h)
  al := fun x h => a.al x (b.al x h)
theorem Rel.frameL (R : Rel C io H σ δ fp ex) (S : Stp p H δ fp H' δ' fp') (hc : p = true ∨ c = true) (hx : ∀ a, ex' a → ex a ∨ H a = none) :
    (∀ a (xs : MuO), (c = true → Lf C fp ex a) → Rd H a xs.ho → (c = true → Lf C fp' ex' a) ∧ Rd H' a xs.ho) ∧ (∀ a (xs : ImO), H a = some xs.ho → H' a = some xs.ho) := by
  have nf : ∀ a, Foot fp a → ∃ xs : MuO, H a = some xs.ho := fun a h => R.foot h
  refine ⟨fun a xs l q => ⟨fun hc' => ?_, ?_⟩, fun a xs q => S.keep a _ q (.inr fun z => ?_)⟩
  · obtain ⟨l1, l2, l3⟩ := l hc'
    refine ⟨fun z => ?_, fun z => ?_, l3⟩
    · rcases S.grow a z with z | z
      · exact l1 z
      · exact q.some z
    · rcases hx a z with z | z
      · exact l2 z
      · exact q.some z
  · have hk : p = true ∨ ¬ Foot fp a := by
      rcases hc with h | h
      · exact .inl h
      · exact .inr (l h).1
    rcases q with q | ⟨o, q⟩
    · exact .inl (S.keep a _ q hk)
    · exact .inr ⟨o, S.keep a _ q hk⟩
  · obtain ⟨ys, e⟩ := nf a z
    exact ImO.nm q e
theorem Rel.own_step (R : Rel C io H σ δ fp ex) (S : Stp p H δ fp H' δ' fp') (hc : p = true ∨ c = true) (hx : ∀ a, ex' a → ex a ∨ H a = none) (hn : ∀ a ∈ new, ex a)
    (x : Own G H (fun a => c = true → Lf C fp ex a) v r new) : Own G H' (fun a => c = true → Lf C fp' ex' a) v r new :=
  x.frame (R.frameL S hc hx).1 (R.frameL S hc hx).2 fun a m xs e => S.keep a _ e (.inr fun ⟨i, z⟩ => R.dx i a z (hn a m))
theorem Rel.owns_step (R : Rel C io H σ δ fp ex) (S : Stp p H δ fp H' δ' fp') (hc : p = true ∨ c = true) (hx : ∀ a, ex' a → ex a ∨ H a = none) (hn : ∀ a ∈ new, ex a) {vs : List V} {rs : List OT}
    (x : Owns G H (fun a => c = true → Lf C fp ex a) vs rs new) : Owns G H' (fun a => c = true → Lf C fp' ex' a) vs rs new :=
  x.frame (R.frameL S hc hx).1 (R.frameL S hc hx).2 fun a m xs e => S.keep a _ e (.inr fun ⟨i, z⟩ => R.dx i a z (hn a m))
theorem Rel.drop (R : Rel C io H σ δ fp ex) (h : ∀ a, ex' a → ex a) : Rel C io H σ δ fp ex' :=
  ⟨R.len, fun i t e => by
    obtain ⟨v, e1, o⟩ := R.own i t e
    exact ⟨v, e1, o.wide fun a l _ => ⟨l.1, fun z => l.2.1 (h a z), l.2.2⟩⟩, R.emp, R.nd, R.dj, fun i a m z => R.dx i a m (h a z), fun a z => R.xa a (h a z), R.fr, R.al, R.new, R.io⟩
theorem Rel.made (R : Rel C io H σ δ fp ex) (s : Same H H') (hn : ∀ a ∈ new, H a = none ∧ H' a ≠ none) : Rel C io H' σ δ fp (fun a => ex a ∨ a ∈ new) :=
  ⟨R.len, fun i t e => by
    obtain ⟨v, e1, o⟩ := R.own i t e
    refine ⟨v, e1, (o.wide fun a l q => ⟨l.1, fun z => ?_, l.2.2⟩).same s⟩
    rcases z with z | z
    · exact l.2.1 z
    · exact q (hn a z).1, R.emp, R.nd, R.dj, fun i a m z => by
      rcases z with z | z
      · exact R.dx i a m z
      · exact R.footSome (hn a z).1 ⟨i, m⟩, fun a z => by
      rcases z with z | z
      · intro q; exact R.xa a z (s.free q)
      · exact (hn a z).2, fun b o e n => s _ _ (R.fr b o e n), fun b q => R.al b (s.free q), R.new, R.io⟩
end
noncomputable abbrev MEt := Zj → (OT → Zj → Prop) → Prop
noncomputable abbrev MAt := Zj → (List OT → Zj → Prop) → Prop
noncomputable abbrev MTt := Zj → (Bool → Zj → Prop) → Prop
noncomputable abbrev exu (ex : Addr → Prop) (new : List Addr) : Addr → Prop := fun a => ex a ∨ a ∈ new
structure RE (C : MC G) (io : List Nat) (p c : Bool) (H : Hp) (σ : St) (δ : Zj) (fp : Fp) (ex : Addr → Prop) (H' : Hp) (v : V) (r : OT) (δ' : Zj) (fp' : Fp) (new : List Addr) : Prop where
  rel : Rel C io H' σ δ' fp' (exu ex new)
  stp : Stp p H δ fp H' δ' fp'
  own : Own G H' (fun a => c = true → Lf C fp' (exu ex new) a) v r new
  nd : new.Nodup
  fresh : ∀ a ∈ new, H a = none
structure RA (C : MC G) (io : List Nat) (p c : Bool) (H : Hp) (σ : St) (δ : Zj) (fp : Fp) (ex : Addr → Prop) (H' : Hp) (v : List V) (r : List OT) (δ' : Zj) (fp' : Fp) (new : List Addr) : Prop where
  rel : Rel C io H' σ δ' fp' (exu ex new)
  stp : Stp p H δ fp H' δ' fp'
  own : Owns G H' (fun a => c = true → Lf C fp' (exu ex new) a) v r new
  nd : new.Nodup
  fresh : ∀ a ∈ new, H a = none
noncomputable def SE (G : PySem.W.Frag) (io : List Nat) (p c : Bool) (t : TE) (m : MEt) : Prop := ∀ (C : MC G) (H : Hp) (σ : St) (δ : Zj) (fp : Fp) (ex : Addr → Prop) (K : OT → Zj → Prop) (Q : VK), Rel C io H σ δ fp ex → m δ K →
  (∀ H' v r δ' fp' new, RE C io p c H σ δ fp ex H' v r δ' fp' new → K r δ' → Q v H') → t σ H Q
noncomputable def SA (G : PySem.W.Frag) (io : List Nat) (p c : Bool) (t : TA) (m : MAt) : Prop := ∀ (C : MC G) (H : Hp) (σ : St) (δ : Zj) (fp : Fp) (ex : Addr → Prop) (K : List OT → Zj → Prop) (Q : List V → Hp → Prop), Rel C io H σ δ fp ex → m δ K →
  (∀ H' v r δ' fp' new, RA C io p c H σ δ fp ex H' v r δ' fp' new → K r δ' → Q v H') → t σ H Q
noncomputable def STt (G : PySem.W.Frag) (io : List Nat) (p : Bool) (t : TT) (m : MTt) : Prop := ∀ (C : MC G) (H : Hp) (σ : St) (δ : Zj) (fp : Fp) (ex : Addr → Prop) (K : Bool → Zj → Prop) (Q : Bool → Hp → Prop), Rel C io H σ δ fp ex → m δ K →
  (∀ H' b δ' fp', Rel C io H' σ δ' fp' ex → Stp p H δ fp H' δ' fp' → K b δ' → Q b H') → t σ H Q
noncomputable def ME (X : Cx) (io : List Nat) (p c : Bool) (e : Expr) (m : MEt) : Prop := ∃ t, PE X e t ∧ SE X.K io p c t m
noncomputable def MA (X : Cx) (io : List Nat) (p c : Bool) (e : List Expr) (m : MAt) : Prop := ∃ t, PA X e t ∧ SA X.K io p c t m
noncomputable def MT (X : Cx) (io : List Nat) (p : Bool) (e : Expr) (m : MTt) : Prop := ∃ t, PT X e t ∧ STt X.K io p t m
noncomputable def MW (X : Cx) (io : List Nat) (p : Bool) (e : Expr) (m : MTt) : Prop := ∃ t, PW X e t ∧ STt X.K io p t m
section
variable {C : MC G} {io : List Nat} {H H' H'' : Hp} {σ : St} {δ δ' δ'' : Zj} {fp fp' fp'' : Fp} {ex ex' : Addr → Prop} {p p' c : Bool} {v : V} {d : PyData} {r : OT} {vs : List V} {rs : List OT} {new : List Addr}
theorem Rel.newOk (R : Rel C io H σ δ fp ex) {a : Addr} (h : H a = none) : ¬ Foot fp a ∧ ¬ ex a ∧ C.H₀ a = none := ⟨R.footSome h, fun z => R.xa a z h, R.al a h⟩
theorem RE.da (R : RE C io p c H σ δ fp ex H' v r δ' fp' new) (R0 : Rel C io H σ δ fp ex) : Da G H' (fun a => c = true → Lf C fp' ex a) v r.data := by
  refine R.own.da (fun a l _ h => ?_) (fun a m _ => ?_)
  · exact ⟨(l h).1, fun z => (l h).2.1 (.inl z), (l h).2.2⟩
  · refine ⟨fun qz9 => ?_, (R0.newOk (R.fresh a m)).2.1, .inr (R0.newOk (R.fresh a m)).2.2⟩
    obtain ⟨i, z⟩ := qz9
    exact R.rel.dx i a z (.inr m)
theorem RA.das (R : RA C io p c H σ δ fp ex H' vs rs δ' fp' new) (R0 : Rel C io H σ δ fp ex) : Das G H' (fun a => c = true → Lf C fp' ex a) vs (OT.datas rs) := by
  refine R.own.das (fun a l _ h => ?_) (fun a m _ => ?_)
  · exact ⟨(l h).1, fun z => (l h).2.1 (.inl z), (l h).2.2⟩
  · refine ⟨fun qz9 => ?_, (R0.newOk (R.fresh a m)).2.1, .inr (R0.newOk (R.fresh a m)).2.2⟩
    obtain ⟨i, z⟩ := qz9
    exact R.rel.dx i a z (.inr m)
theorem RE.base (R : RE C io p c H σ δ fp ex H' v r δ' fp' new) : Rel C io H' σ δ' fp' ex := R.rel.drop fun a z => .inl z
theorem RA.base (R : RA C io p c H σ δ fp ex H' vs rs δ' fp' new) : Rel C io H' σ δ' fp' ex := R.rel.drop fun a z => .inl z
theorem Zb3 {a : Addr} : exu ex [] a ↔ ex a := by simp [exu]
theorem RE.fz (R : Rel C io H' σ δ' fp' ex) (S : Stp p H δ fp H' δ' fp') (h : Da G H' (fun a => c = true → Lf C fp' ex a) v d) : RE C io p c H σ δ fp ex H' v (.fz d) δ' fp' [] :=
  ⟨R.drop fun a z => Zb3.mp z, S, .fz (h.wide fun a l _ hc => ⟨(l hc).1, fun z => (l hc).2.1 (Zb3.mp z), (l hc).2.2⟩), .nil, fun a m => nomatch m⟩
theorem RE.tree {H1 : Hp} (R0 : Rel C io H σ δ fp ex) (R : Rel C io H1 σ δ' fp' ex) (S : Stp p H δ fp H1 δ' fp') (s : Same H1 H') (hn : ∀ a ∈ new, H1 a = none) (nd : new.Nodup)
    (o : Own G H' (fun a => ((c = true → Lf C fp' ex a) ∨ H1 a = none) ∧ a ∉ new) v r new) : RE C io p c H σ δ fp ex H' v r δ' fp' new := by
  refine ⟨R.made s fun a m => ⟨hn a m, fun z => ?_⟩, ?_, o.wide fun a l q hc => ?_, nd, fun a m => S.al a (hn a m)⟩
  · obtain ⟨xs, e⟩ := o.some a m
    rw [z] at e; cases e
  · have := S.trans (p' := true) (Stp.same (p := true) (δ := δ') (fp := fp') s s.al)
    rwa [Bool.and_true] at this
  · rcases l.1 with l1 | l1
    · exact ⟨(l1 hc).1, fun z => z.elim (l1 hc).2.1 l.2, (l1 hc).2.2⟩
    · exact ⟨R.footSome l1, fun z => z.elim (fun z => R.xa a z l1) l.2, .inr (R.al a l1)⟩
end
inductive ScD : V → PyData → Prop where
  | non : ScD .non .none
  | bl (b : Bool) : ScD (.bl b) (.bool b)
  | int (i : Int) : ScD (.int i) (.int i)
  | str (x : Str) : ScD (.str x) (.str x)
theorem ScD.da {H : Hp} {L : Addr → Prop} {v : V} {d : PyData} (h : ScD v d) : Da G H L v d := by
  cases h
  · exact .non
  · exact .bl _
  · exact .int _
  · exact .str _
section
variable {X : Cx} {io : List Nat} {p p' c c' : Bool} {e a b : Expr} {m ma mb : MEt} {es : List Expr}
noncomputable def Z1l (i : Nat) : MEt := fun δ K => match δ[i]? with | some (some (.fz d)) => K (.fz d) δ | _ => False
noncomputable def Z1y (i : Nat) : MEt := fun δ K => match δ[i]? with | some (some t) => K (.fz t.data) δ | _ => False
noncomputable def mC (d : PyData) : MEt := fun δ K => K (.fz d) δ
theorem mv (i : Nat) {x : Str} {pos : Pos} (hN : X.N[i]? = some x := by rfl) (hv : Vis X.env.scope x := by first | exact Or.inl rfl | exact Or.inr (Or.inl rfl) | exact Or.inr (Or.inr rfl)) (hd : (x == ("__debug__" : Str)) = false := by decide)
    (hcd : (x == ("__classdict__" : Str)) = false := by decide) : ME X io true true (.Name x pos) (Z1l i) := by
  refine ⟨_, pv i hN hv hd hcd, fun C H σ δ fp ex K Q R h k => ?_⟩
  unfold Z1l at h
  split at h
  · rename_i d hd
    obtain ⟨v, e, o⟩ := R.own i _ hd
    refine ⟨v, e, k H v _ δ fp [] (.fz R (.refl _ _ _ _) ?_) h⟩
    generalize fp i = as at o
    cases o with
    | fz q => exact q.wide fun a l _ _ => l
  · exact h.elim
theorem mo (i : Nat) {x : Str} {pos : Pos} (hN : X.N[i]? = some x := by rfl) (hv : Vis X.env.scope x := by first | exact Or.inl rfl | exact Or.inr (Or.inl rfl) | exact Or.inr (Or.inr rfl)) (hd : (x == ("__debug__" : Str)) = false := by decide)
    (hcd : (x == ("__classdict__" : Str)) = false := by decide) : ME X io true false (.Name x pos) (Z1y i) := by
  refine ⟨_, pv i hN hv hd hcd, fun C H σ δ fp ex K Q R h k => ?_⟩
  unfold Z1y at h
  split at h
  · rename_i d hd
    obtain ⟨v, e, o⟩ := R.own i _ hd
    exact ⟨v, e, k H v _ δ fp [] (.fz R (.refl _ _ _ _) (o.da (fun a _ _ z => (nomatch z)) fun a _ z => (nomatch z))) h⟩
  · exact h.elim
theorem Zk8 {t : V} {d : PyData} (h : PE X e (tC t)) (s : ScD t d) : ME X io true true e (mC d) :=
  ⟨_, h, fun C H σ δ fp ex K Q R h k => k H t _ δ fp [] (.fz R (.refl _ _ _ _) s.da) h⟩
theorem Zo {i j pos} : ME X io true true (.Constant (.int i) j pos) (mC (.int i)) := Zk8 Zy5 (.int i)
theorem Zkl {b j pos} : ME X io true true (.Constant (.bool b) j pos) (mC (.bool b)) := Zk8 Z2s (.bl b)
theorem Zjh {j pos} : ME X io true true (.Constant .none j pos) (mC .none) := Zk8 Zxt .non
theorem SE.two {ta tb : TE} (ha : SE G io p c ta ma) (hb : SE G io p' c' tb mb) (hc : p' = true ∨ c = true) {C : MC G} {H : Hp} {σ : St} {δ : Zj} {fp : Fp} {ex : Addr → Prop} {K : OT → OT → Zj → Prop} {Q : V → V → Hp → Prop}
    (R : Rel C io H σ δ fp ex) (h : ma δ fun x δ1 => mb δ1 fun y δ2 => K x y δ2)
    (k : ∀ H' x y u v δ' fp', Rel C io H' σ δ' fp' ex → Stp (p && p') H δ fp H' δ' fp' → Da G H' (fun a => (c && c') = true → Lf C fp' ex a) x u.data → Da G H' (fun a => (c && c') = true → Lf C fp' ex a) y v.data → K u v δ' → Q x y H') :
    ta σ H fun x H1 => tb σ H1 fun y H2 => Q x y H2 := by
  refine ha C H σ δ fp ex _ _ R h fun H1 x u δ1 fp1 new1 r1 h1 => ?_
  refine hb C H1 σ δ1 fp1 (exu ex new1) _ _ r1.rel h1 fun H2 y v δ2 fp2 new2 r2 h2 => ?_
  have o1 := r1.rel.own_step (ex' := exu (exu ex new1) new2) r2.stp (c := c) hc (fun a z => z.imp id fun z => r2.fresh a z) (fun a m => .inr m) r1.own
  have R2 : Rel C io H2 σ δ2 fp2 ex := r2.rel.drop fun a z => .inl (.inl z)
  have q1 : Da G H2 (fun a => c = true → Lf C fp2 ex a) x u.data := by
    refine o1.da (fun a l _ z => ?_) (fun a m z => ?_)
    · exact ⟨(l z).1, fun w => (l z).2.1 (.inl (.inl w)), (l z).2.2⟩
    · have := R.newOk (r1.fresh a m)
      refine ⟨fun qz9 => ?_, this.2.1, .inr this.2.2⟩
      obtain ⟨i, w⟩ := qz9
      exact r2.rel.dx i a w (.inl (.inr m))
  have q2 := r2.da r1.rel
  refine k H2 x y u v δ2 fp2 R2 (r1.stp.trans r2.stp) (q1.wide fun a l _ z => l (by rw [Bool.and_eq_true] at z; exact z.1)) (q2.wide fun a l _ z => ?_) h2
  have l := l (by rw [Bool.and_eq_true] at z; exact z.2)
  exact ⟨l.1, fun w => l.2.1 (.inl w), l.2.2⟩
noncomputable def P2s (G : PySem.W.Frag) (r : R2) (rp : PyData → PyData → (PyData → Prop) → Prop) : Prop := ∀ (H : Hp) (L : Addr → Prop) (x y : V) (d e : PyData) (k : PyData → Prop) (Q : VK), Da G H L x d → Da G H L y e → rp d e k → (∀ v d', ScD v d' → k d' → Q v H) → r x y H Q
noncomputable def P2 (G : PySem.W.Frag) (r : R2) (rp : PyData → PyData → (OT → Prop) → Prop) : Prop := ∀ (H : Hp) (L : Addr → Prop) (x y : V) (d e : PyData) (k : OT → Prop) (Q : VK), Da G H L x d → Da G H L y e → rp d e k →
  (∀ H' v o new, Same H H' → Own G H' (fun a => (L a ∨ H a = none) ∧ a ∉ new) v o new → new.Nodup → (∀ a ∈ new, H a = none) → k o → Q v H') → r x y H Q
noncomputable def Zk5 (rp : PyData → PyData → (PyData → Prop) → Prop) (ma mb : MEt) : MEt := fun δ K => ma δ fun x δ1 => mb δ1 fun y δ2 => rp x.data y.data fun d => K (.fz d) δ2
noncomputable def Z0d (rp : PyData → PyData → (OT → Prop) → Prop) (ma mb : MEt) : MEt := fun δ K => ma δ fun x δ1 => mb δ1 fun y δ2 => rp x.data y.data fun d => K d δ2
theorem Zux {r : R2} {rp} {ta tb : TE} (P : P2s G r rp) (ha : SE G io p c ta ma) (hb : SE G io p' c' tb mb) (hc : p' = true ∨ c = true) : SE G io (p && p') true (tOp r ta tb) (Zk5 rp ma mb) := by
  intro C H σ δ fp ex K Q R h k
  refine SE.two (K := fun x y δ2 => rp x.data y.data fun d => K (.fz d) δ2) (Q := fun x y H2 => r x y H2 Q) ha hb hc R h fun H' x y u v δ' fp' R' S q1 q2 h' => ?_
  exact P H' _ x y _ _ _ _ q1 q2 h' fun w d' sc h'' => k H' w _ δ' fp' [] (.fz R' S sc.da) h''
theorem Z2f {r : R2} {rp} {ta tb : TE} (P : P2 G r rp) (ha : SE G io p c ta ma) (hb : SE G io p' c' tb mb) (hc : p' = true ∨ c = true) : SE G io (p && p') (c && c') (tOp r ta tb) (Z0d rp ma mb) := by
  intro C H σ δ fp ex K Q R h k
  refine SE.two (K := fun x y δ2 => rp x.data y.data fun d => K d δ2) (Q := fun x y H2 => r x y H2 Q) ha hb hc R h fun H' x y u v δ' fp' R' S q1 q2 h' => ?_
  exact P H' _ x y _ _ _ _ q1 q2 h' fun H2 w o new s ow nd hn h'' => k H2 w o δ' fp' new (RE.tree R R' S s hn nd ow) h''
theorem Zx {op : Operator} {r : R2} {rp} {pos : Pos} (ho : OpR X (binaryOp op) r) (P : P2s X.K r rp) (ha : ME X io p c a ma) (hb : ME X io p' c' b mb) (hc : p' = true ∨ c = true := by first | exact Or.inl rfl | exact Or.inr rfl) : ME X io (p && p') true (.BinOp a op b pos) (Zk5 rp ma mb) := by
  obtain ⟨_, A, sa⟩ := ha
  obtain ⟨_, B, sb⟩ := hb
  exact ⟨_, Zuy ho A B, Zux P sa sb hc⟩
theorem Z20 {op : Operator} {r : R2} {rp} {pos : Pos} (ho : OpR X (binaryOp op) r) (P : P2 X.K r rp) (ha : ME X io p c a ma) (hb : ME X io p' c' b mb) (hc : p' = true ∨ c = true := by first | exact Or.inl rfl | exact Or.inr rfl) : ME X io (p && p') (c && c') (.BinOp a op b pos) (Z0d rp ma mb) := by
  obtain ⟨_, A, sa⟩ := ha
  obtain ⟨_, B, sb⟩ := hb
  exact ⟨_, Zuy ho A B, Z2f P sa sb hc⟩
theorem Zju {op : CmpOp} {r : R2} {rp} {pos : Pos} (ho : OpR X (compareOp op) r) (P : P2s X.K r rp) (ha : ME X io p c a ma) (hb : ME X io p' c' b mb) (hc : p' = true ∨ c = true := by first | exact Or.inl rfl | exact Or.inr rfl) (hm : behindInMarks op b = false) : ME X io (p && p') true (.Compare a [op] [b] pos) (Zk5 rp ma mb) := by
  obtain ⟨_, A, sa⟩ := ha
  obtain ⟨_, B, sb⟩ := hb
  exact ⟨_, Zuf ho A B hm, Zux P sa sb hc⟩
theorem Zca {r : R2} {rp} {pos : Pos} (ho : IxR X r) (P : P2 X.K r rp) (ha : ME X io p c a ma) (hb : ME X io p' c' b mb) (hc : p' = true ∨ c = true := by first | exact Or.inl rfl | exact Or.inr rfl) (hs : Zk3 b) : ME X io (p && p') (c && c') (.Subscript a b pos) (Z0d rp ma mb) := by
  obtain ⟨_, A, sa⟩ := ha
  obtain ⟨_, B, sb⟩ := hb
  exact ⟨_, Zy6 ho A B hs, Z2f P sa sb hc⟩
noncomputable def kB (K : Bool → Zj → Prop) : OT → Zj → Prop := fun o δ => match o with | .fz (.bool b) => K b δ | _ => False
theorem Zy4 {t : TE} (h : SE G io p c t m) : STt G io p (Zus t) (fun δ K => m δ (kB K)) := by
  intro C H σ δ fp ex K Q R h' k
  refine h C H σ δ fp ex _ _ R h' fun H' v r δ' fp' new r1 h1 => ?_
  cases r with
  | nd ts => exact h1.elim
  | tp ts => exact h1.elim
  | dc _ _ _ => exact h1.elim
  | fz d =>
    cases d with
    | bool b =>
      cases r1.own with
      | fz q =>
        cases q
        exact ⟨b, rfl, k H' b δ' fp' r1.base r1.stp h1⟩
    | _ => exact h1.elim
theorem Wx {op : CmpOp} {r : R2} {rp} {pos : Pos} (ho : OpR X (compareOp op) r) (P : P2s X.K r rp) (ha : ME X io p c a ma) (hb : ME X io p' c' b mb) (hc : p' = true ∨ c = true := by first | exact Or.inl rfl | exact Or.inr rfl) (hm : behindInMarks op b = false) :
    MT X io (p && p') (.Compare a [op] [b] pos) (fun δ K => Zk5 rp ma mb δ (kB K)) := by
  obtain ⟨_, A, sa⟩ := ha
  obtain ⟨_, B, sb⟩ := hb
  exact ⟨_, Zuu ho A B hm, Zy4 (Zux P sa sb hc)⟩
end
end L2
namespace L2
open PySem PySem.Spec PyProof.Rows
variable {G : PySem.W.Frag}
section
variable {X : Cx} {io : List Nat} {p p' p'' c c' : Bool} {e a b : Expr} {m ma mb : MEt} {es rest : List Expr} {ta tb : MTt} {pos : Pos}
noncomputable def Z48 (t : MTt) : MTt := fun δ K => t δ fun b δ' => K (!b) δ'
noncomputable def Z53 (t u : MTt) : MTt := fun δ K => t δ fun b δ' => if b = true then u δ' K else K false δ'
noncomputable def mOr (t u : MTt) : MTt := fun δ K => t δ fun b δ' => if b = true then K true δ' else u δ' K
theorem Zbb (h : MT X io p a ta) : MT X io p (.UnaryOp .Not a pos) (Z48 ta) := by
  obtain ⟨_, A, sa⟩ := h
  exact ⟨_, Z1h A, fun C H σ δ fp ex K Q R h k => sa C H σ δ fp ex _ _ R h fun H' b δ' fp' R' S h' => k H' (!b) δ' fp' R' S h'⟩
theorem Zug (h : MT X io p a ta) : MW X io p (.BoolOp .And [a] pos) ta := by
  obtain ⟨_, A, sa⟩ := h
  exact ⟨_, Zu8 A, sa⟩
theorem Ze2 (h : MT X io p a ta) : MW X io p (.BoolOp .Or [a] pos) ta := by
  obtain ⟨_, A, sa⟩ := h
  exact ⟨_, Zzp A, sa⟩
theorem Stp.andL {H H' : Hp} {δ δ' : Zj} {fp fp' : Fp} (S : Stp p H δ fp H' δ' fp') : Stp (p && p') H δ fp H' δ' fp' := by
  have := S.trans (Stp.refl p' H' δ' fp')
  exact this
theorem Zyg (h : MT X io p a ta) (g : MW X io p' (.BoolOp .And (b :: rest) pos) tb) : MW X io (p && p') (.BoolOp .And (a :: b :: rest) pos) (Z53 ta tb) := by
  obtain ⟨_, A, sa⟩ := h
  obtain ⟨_, B, sb⟩ := g
  exact ⟨_, Zxj A B, fun C H σ δ fp ex K Q R h k => sa C H σ δ fp ex _ _ R h fun H' b δ' fp' R' S h' => by
    cases b with
    | true =>
      rw [if_pos rfl] at h' ⊢
      exact sb C H' σ δ' fp' ex _ _ R' h' fun H2 b2 δ2 fp2 R2 S2 h2 => k H2 b2 δ2 fp2 R2 (S.trans S2) h2
    | false =>
      rw [if_neg Bool.false_ne_true] at h' ⊢
      exact k H' false δ' fp' R' S.andL h'⟩
theorem Zeh (h : MT X io p a ta) (g : MW X io p' (.BoolOp .Or (b :: rest) pos) tb) : MW X io (p && p') (.BoolOp .Or (a :: b :: rest) pos) (mOr ta tb) := by
  obtain ⟨_, A, sa⟩ := h
  obtain ⟨_, B, sb⟩ := g
  exact ⟨_, Z25 A B, fun C H σ δ fp ex K Q R h k => sa C H σ δ fp ex _ _ R h fun H' b δ' fp' R' S h' => by
    cases b with
    | true =>
      rw [if_pos rfl] at h' ⊢
      exact k H' true δ' fp' R' S.andL h'
    | false =>
      rw [if_neg Bool.false_ne_true] at h' ⊢
      exact sb C H' σ δ' fp' ex _ _ R' h' fun H2 b2 δ2 fp2 R2 S2 h2 => k H2 b2 δ2 fp2 R2 (S.trans S2) h2⟩
theorem MW.mt (h : MW X io p e ta) : MT X io p e ta := by
  obtain ⟨_, A, sa⟩ := h
  exact ⟨_, A.pt, sa⟩
noncomputable def Zrx : PyData → Option Bool
  | .none => some false
  | .bool b => some b
  | .int i => some (i != 0)
  | .list ds => some (!ds.isEmpty)
  | .tuple ds => some (!ds.isEmpty)
  | _ => none
noncomputable def Z55 (m : MEt) : MTt := fun δ K => m δ fun r δ' => match Zrx r.data with | some b => K b δ' | none => False
theorem Das.isEmpty {H : Hp} {L : Addr → Prop} {xs : List V} {ds : List PyData} (h : Das G H L xs ds) : xs.isEmpty = ds.isEmpty := by cases h <;> rfl
theorem Zbu (ha : ME X io p c a ma) (he : ∀ whole, isTrue a X.env whole = (do let v ← whole; standAt a.pos; holding [v] (truthy v))) : MT X io p a (Z55 ma) := by
  obtain ⟨_, A, sa⟩ := ha
  exact ⟨_, Zu9 rfl A he, fun C H σ δ fp ex K' Q R h k => sa C H σ δ fp ex _ _ R h fun H' v r δ' fp' new r1 h1 => by
    have q := r1.da R
    generalize r.data = d at q h1
    cases q with
    | non => exact ⟨_, rfl, k H' _ δ' fp' r1.base r1.stp h1⟩
    | bl b => exact ⟨_, rfl, k H' _ δ' fp' r1.base r1.stp h1⟩
    | int b => exact ⟨_, rfl, k H' _ δ' fp' r1.base r1.stp h1⟩
    | str x => exact h1.elim
    | lst _ e q => exact ⟨_, .inl ⟨_, .inl e, rfl⟩, k H' _ δ' fp' r1.base r1.stp (by rw [q.isEmpty]; exact h1)⟩
    | tup e q => exact ⟨_, .inr (.inl ⟨_, .inl (.inl e), rfl⟩), k H' _ δ' fp' r1.base r1.stp (by rw [q.isEmpty]; exact h1)⟩
    | scr q => exact ⟨_, .inl ⟨_, q.sq, rfl⟩, k H' _ δ' fp' r1.base r1.stp (by simpa [Zrx] using h1)⟩
    | exc _ _ _ => exact h1.elim
    | fn _ => exact h1.elim
    | dic _ _ _ _ => exact h1.elim⟩
noncomputable def asB (d : PyData) (k : Bool → Prop) : Prop := match d with | .bool b => k b | _ => False
noncomputable def Z1b (a b : MEt) : MEt := fun δ K => a δ fun x δ1 => asB x.data fun c => if c = true then b δ1 K else K (.fz (.bool false)) δ1
noncomputable def Z0u (a : MEt) : MEt := fun δ K => a δ fun x δ1 => asB x.data fun c => K (.fz (.bool (!c))) δ1
theorem Da.boolInv {H : Hp} {L : Addr → Prop} {v : V} {d : PyData} {k : Bool → Prop} (q : Da G H L v d) (h : asB d k) : ∃ b, v = .bl b ∧ k b := by
  cases q with
  | bl b => exact ⟨b, rfl, h⟩
  | _ => exact h.elim
theorem RE.step {C : MC G} {H H1 H2 : Hp} {σ : St} {δ δ1 δ2 : Zj} {fp fp1 fp2 : Fp} {ex : Addr → Prop} {v : V} {r : OT} {new : List Addr} (S : Stp p H δ fp H1 δ1 fp1) (R : RE C io p' c H1 σ δ1 fp1 ex H2 v r δ2 fp2 new) :
    RE C io (p && p') c H σ δ fp ex H2 v r δ2 fp2 new := ⟨R.rel, S.trans R.stp, R.own, R.nd, fun a m => S.al a (R.fresh a m)⟩
theorem Zzx {op} (h : ME X io p c a ma) : ME X io p c (.BoolOp op [a] pos) ma := by
  obtain ⟨_, A, sa⟩ := h
  exact ⟨_, Zx1 A, sa⟩
theorem Z0q (ha : ME X io p c a ma) (hb : ME X io p' c' (.BoolOp .And (b :: rest) pos) mb) : ME X io (p && p') c' (.BoolOp .And (a :: b :: rest) pos) (Z1b ma mb) := by
  obtain ⟨_, A, sa⟩ := ha
  obtain ⟨_, B, sb⟩ := hb
  exact ⟨_, Zxo A B, fun C H σ δ fp ex K Q R h k => sa C H σ δ fp ex _ _ R h fun H' v r δ' fp' new r1 h1 => by
    obtain ⟨b, rfl, h1⟩ := (r1.da R).boolInv h1
    refine ⟨b, rfl, ?_⟩
    cases b with
    | true =>
      rw [if_pos rfl] at h1 ⊢
      exact sb C H' σ δ' fp' ex _ _ r1.base h1 fun H2 w r2 δ2 fp2 new2 R2 h2 => k H2 w r2 δ2 fp2 new2 (R2.step r1.stp) h2
    | false =>
      rw [if_neg Bool.false_ne_true] at h1 ⊢
      exact k H' _ _ δ' fp' [] (RE.fz r1.base r1.stp.andL (.bl false)) h1⟩
theorem Z19 (ha : ME X io p c a ma) : ME X io p true (.UnaryOp .Not a pos) (Z0u ma) := by
  obtain ⟨_, A, sa⟩ := ha
  exact ⟨_, Zzi A, fun C H σ δ fp ex K Q R h k => sa C H σ δ fp ex _ _ R h fun H' v r δ' fp' new r1 h1 => by
    obtain ⟨b, rfl, h1⟩ := (r1.da R).boolInv h1
    exact ⟨b, rfl, k H' _ _ δ' fp' [] (RE.fz r1.base r1.stp (.bl _)) h1⟩⟩
theorem Stp.cast {p p' : Bool} {H H' : Hp} {δ δ' : Zj} {fp fp' : Fp} (h : p' = true → p = true) (S : Stp p H δ fp H' δ' fp') : Stp p' H δ fp H' δ' fp' :=
  ⟨fun b o e q => S.keep b o e (q.imp h id), fun q => S.env (h q), S.grow, S.al⟩
end
section
variable {X : Cx} {io : List Nat} {p p' p'' c c' : Bool} {e a b : Expr} {m ma mb : MEt} {es rest : List Expr} {mr : MAt} {pos : Pos}
noncomputable def Z5e : MAt := fun δ K => K [] δ
noncomputable def Zzd (m : MEt) (mr : MAt) : MAt := fun δ K => m δ fun r δ1 => mr δ1 fun rs δ2 => K (r :: rs) δ2
theorem Zm : MA X io true true [] Z5e := ⟨_, Zex, fun C H σ δ fp ex K Q R h k => k H [] [] δ fp [] ⟨R.drop fun a z => Zb3.mp z, .refl _ _ _ _, .nil, .nil, fun a m => nomatch m⟩ h⟩
theorem Zvn (ha : ME X io p c e m) (hr : MA X io p' c' es mr) (hc : p' = true ∨ c = true) (hs : starEach (e :: es) X.env = (false, eval e X.env) :: starEach es X.env := by rfl) : MA X io (p && p') (c && c') (e :: es) (Zzd m mr) := by
  obtain ⟨tA, A, sa⟩ := ha
  obtain ⟨tB, B, sb⟩ := hr
  refine ⟨_, Zb7 A B hs, fun C H σ δ fp ex K Q R h k => ?_⟩
  refine sa C H σ δ fp ex _ _ R h fun H1 x u δ1 fp1 new1 r1 h1 => ?_
  refine sb C H1 σ δ1 fp1 (exu ex new1) _ _ r1.rel h1 fun H2 ys us δ2 fp2 new2 r2 h2 => ?_
  have o1 := r1.rel.own_step (ex' := exu (exu ex new1) new2) r2.stp (c := c) hc (fun a z => z.imp id fun z => r2.fresh a z) (fun a m => .inr m) r1.own
  have eqx : ∀ a, exu ex (new1 ++ new2) a → exu (exu ex new1) new2 a := fun a z => by
    rcases z with z | z
    · exact .inl (.inl z)
    · rcases List.mem_append.mp z with z | z
      · exact .inl (.inr z)
      · exact .inr z
  refine k H2 (x :: ys) (u :: us) δ2 fp2 (new1 ++ new2) ⟨r2.rel.drop eqx, r1.stp.trans r2.stp, .cons (o1.wide fun a l _ z => ?_) (r2.own.wide fun a l _ z => ?_), ?_, ?_⟩ h2
  · have l := l (by rw [Bool.and_eq_true] at z; exact z.1)
    exact ⟨l.1, fun w => l.2.1 (eqx a w), l.2.2⟩
  · have l := l (by rw [Bool.and_eq_true] at z; exact z.2)
    exact ⟨l.1, fun w => l.2.1 (eqx a w), l.2.2⟩
  · refine List.nodup_append.mpr ⟨r1.nd, r2.nd, fun a m b m' z => ?_⟩
    subst z
    obtain ⟨xs, e⟩ := r1.own.some a m
    rw [r2.fresh a m'] at e
    cases e
  · intro a m
    rcases List.mem_append.mp m with m | m
    · exact r1.fresh a m
    · exact r1.stp.al a (r2.fresh a m)
noncomputable def Z5u (m : MAt) : MEt := fun δ K => m δ fun rs δ' => rs.length ≤ sizeLine ∧ K (.fz (.tuple (OT.datas rs))) δ'
noncomputable def Z6j (m : MAt) : MEt := fun δ K => m δ fun rs δ' => rs.length ≤ sizeLine ∧ K (.nd rs) δ'
theorem Zf4 {x1} (h : MA X io p c es mr) : ME X io p c (.Tuple es x1 pos) (Z5u mr) := by
  obtain ⟨tA, A, sa⟩ := h
  refine ⟨_, Z01 A, fun C H σ δ fp ex K Q R h k => ?_⟩
  refine sa C H σ δ fp ex _ _ R h fun H1 vs rs δ1 fp1 new1 r1 h1 => ⟨by rw [r1.own.length]; exact h1.1, fun q hq => ?_⟩
  have s := Wq hq (.tup vs)
  have R1 := r1.base
  have S := r1.stp.trans (p' := true) (Stp.same (p := true) (δ := δ1) (fp := fp1) s s.al)
  rw [Bool.and_true] at S
  refine k _ _ _ δ1 fp1 [] (.fz ?_ S (.tup Ym ((r1.das R).same s))) h1.2
  exact (R1.made (new := []) s fun a m => nomatch m).drop fun a z => .inl z
theorem Zmv (h : MA X io p c es mr) : ME X io p c (.List es pos) (Z6j mr) := by
  obtain ⟨tA, A, sa⟩ := h
  refine ⟨_, Zs3 A, fun C H σ δ fp ex K Q R h k => ?_⟩
  refine sa C H σ δ fp ex _ _ R h fun H1 vs rs δ1 fp1 new1 r1 h1 => ⟨by rw [r1.own.length]; exact h1.1, fun q hq => ?_⟩
  have s := Wq hq (.lst vs)
  have S := r1.stp.trans (p' := true) (Stp.same (p := true) (δ := δ1) (fp := fp1) s s.al)
  rw [Bool.and_true] at S
  have hqn : q ∉ new1 := fun m => by
    obtain ⟨xs, e⟩ := r1.own.some q m
    rw [hq] at e; cases e
  have R2 := (r1.rel.made (new := [q]) s fun a m => by
    rcases List.mem_singleton.mp m with rfl
    exact ⟨hq, by rw [Ym]; intro z; cases z⟩)
  have eqx : ∀ a, exu ex (q :: new1) a → exu (exu ex new1) [q] a := fun a z => by
    rcases z with z | z
    · exact .inl (.inl z)
    · rcases List.mem_cons.mp z with z | z
      · exact .inr (List.mem_singleton.mpr z)
      · exact .inl (.inr z)
  refine k _ _ _ δ1 fp1 (q :: new1) ⟨R2.drop eqx, S, .nd Ym ((r1.own.wide fun a l w z => ?_).same s), List.nodup_cons.mpr ⟨hqn, r1.nd⟩, fun a m => ?_⟩ h1.2
  · have l := l z
    refine ⟨l.1, fun y => ?_, l.2.2⟩
    rcases eqx a y with y | y
    · exact l.2.1 y
    · rcases List.mem_singleton.mp y with rfl
      exact w hq
  · rcases List.mem_cons.mp m with rfl | m
    · exact r1.stp.al _ hq
    · exact r1.fresh a m
end
end L2
namespace L2
open PySem PySem.Spec PyProof.Rows
variable {G : PySem.W.Frag}
noncomputable def spD (G : PySem.W.Frag) (S : List PyData → (OT → Prop) → Prop) : Sp := fun vs H Q _ => ∃ L ds k, Das G H L vs ds ∧ S ds k ∧
  ∀ r v H' new, k r → Same H H' → Own G H' (fun a => (L a ∨ H a = none) ∧ a ∉ new) v r new → new.Nodup → (∀ a ∈ new, H a = none) → Q v H'
section
variable {X : Cx} {io : List Nat} {p p' p'' c c' : Bool} {e a b : Expr} {m ma mb : MEt} {es rest : List Expr} {mr : MAt} {pos : Pos}
variable {CX : CXT} {k : Nat} {f : Addr} {fd : FuncData} {ps : List Str} {E : XK} {x : Str} {pp : Pos}
noncomputable def Zwy (S : List PyData → (OT → Prop) → Prop) (mr : MAt) : MEt := fun δ K => mr δ fun rs δ1 => S (OT.datas rs) fun r => K r δ1
theorem Z2w {S} {t : TA} (sa : SA G io p c t mr) : SE G io p c (Z1c (spD G S) [] E t) (Zwy S mr) := by
  intro C H σ δ fp ex K Q R h kk
  refine sa C H σ δ fp ex _ _ R h fun H1 vs rs δ1 fp1 new1 r1 h1 => ?_
  rw [List.append_nil]
  refine ⟨_, _, _, r1.das R, h1, fun r v H' new kr s o nd hn => ?_⟩
  exact kk H' v r δ1 fp1 new (RE.tree R r1.base r1.stp s hn nd o) kr
theorem Z3 {S} (F : FnOk X.prog X.w X.K X.mg X.base CX k f fd ps (spD X.K S)) (hr : Room k X.A) (hg : Gl X x) (hm : X.mg x = some (.ref f)) (hk : PySem.W.keepIn X.K (.ref f) = true) (hb : Binds X.K fd ps []) (hx : Zl8 CX X E)
    (ha : MA X io p c (e :: es) mr) (hdb : (x == ("__debug__" : Str)) = false := by decide) (he : starEach (e :: es) X.env = (false, eval e X.env) :: starEach es X.env := by rfl) (hpl : (backTo pos (starEach es X.env)).any (·.1) = false := by rfl) :
    ME X io p c (.Call (.Name x pp) (e :: es) [] pos) (Zwy S mr) := by
  obtain ⟨_, A, sa⟩ := ha
  exact ⟨_, Zuh F hr hg hm hk hb .nil hx A hdb he hpl, Z2w sa⟩
noncomputable def fpu (fp : Fp) (i : Nat) (as : List Addr) : Fp := fun j => if j = i then as else fp j
theorem Yt {fp : Fp} {i : Nat} {as : List Addr} : fpu fp i as i = as := if_pos rfl
theorem Wu {fp : Fp} {i j : Nat} {as : List Addr} (h : j ≠ i) : fpu fp i as j = fp j := if_neg h
theorem Foot.of_u {fp : Fp} {i : Nat} {as : List Addr} {a : Addr} (h : Foot (fpu fp i as) a) : a ∈ as ∨ ∃ j, j ≠ i ∧ a ∈ fp j := by
  obtain ⟨j, h⟩ := h
  by_cases e : j = i
  · subst e; rw [Yt] at h; exact .inl h
  · rw [Wu e] at h; exact .inr ⟨j, e, h⟩
theorem Rel.change {C : MC G} {H H' : Hp} {σ : St} {δ : Zj} {fp : Fp} {ex : Addr → Prop} {i : Nat} {t t' : OT} {v : V} {as' new : List Addr} (R : Rel C io H σ δ fp ex) (hi : δ[i]? = some (some t)) (hv : σ[i]? = some (some v))
    (keep : ∀ b o, H b = some o → b ∉ fp i → H' b = some o) (al : ∀ b, H' b = none → H b = none) (o : Own G H' (Lf C (fpu fp i as') (exu ex new)) v t' as') (nd : as'.Nodup) (new' : ∀ a ∈ as', a ∈ fp i ∨ H a = none)
    (hn : ∀ a ∈ new, H a = none ∧ H' a ≠ none ∧ a ∉ as') :
    Rel C io H' σ (δ.set i (some t')) (fpu fp i as') (exu ex new) ∧ Stp false H δ fp H' (δ.set i (some t')) (fpu fp i as') := by
  have hil : i < δ.length := (List.getElem?_eq_some_iff.mp hi).1
  have apart : ∀ j a, j ≠ i → a ∈ fp j → a ∉ as' := fun j a e m z => by
    rcases new' a z with z | z
    · exact e (R.dj j i a m z)
    · exact R.footSome z ⟨j, m⟩
  constructor
  · refine ⟨by rw [List.length_set]; exact R.len, fun j t'' e => ?_, fun j h => ?_, fun j => ?_, fun j k a h1 h2 => ?_, fun j a h z => ?_, fun a z w => z.elim (fun z => R.xa a z (al a w)) (fun z => (hn a z).2.1 w), fun b ob e n => ?_, fun b z => R.al b (al b z), fun j a h => ?_, R.io⟩
    · by_cases ej : j = i
      · subst ej
        rw [List.getElem?_set_self hil] at e
        cases e
        exact ⟨v, hv, by rw [Yt]; exact o⟩
      · rw [List.getElem?_set_ne (Ne.symm ej)] at e
        obtain ⟨w, e1, o1⟩ := R.own j t'' e
        refine ⟨w, e1, ?_⟩
        rw [Wu ej]
        refine o1.frame (fun a xs l q => ?_) (fun a xs q => keep a _ q fun z => ?_) fun a m xs q => keep a _ q fun z => ej (R.dj j i a m z)
        · have na : a ∉ fp i := fun z => l.1 ⟨i, z⟩
          refine ⟨⟨fun z => ?_, fun z => z.elim l.2.1 fun z => q.some (hn a z).1, l.2.2⟩, ?_⟩
          · rcases z.of_u with z | ⟨k, _, z⟩
            · rcases new' a z with z | z
              · exact na z
              · exact q.some z
            · exact l.1 ⟨k, z⟩
          · rcases q with q | ⟨u, q⟩
            · exact .inl (keep a _ q na)
            · exact .inr ⟨u, keep a _ q na⟩
        · obtain ⟨ys, e⟩ := R.foot ⟨i, z⟩
          exact ImO.nm q e
    · by_cases ej : j = i
      · subst ej
        exact absurd (List.getElem?_set_self hil) (h t')
      · rw [Wu ej]
        refine R.emp j fun t'' z => h t'' ?_
        rw [List.getElem?_set_ne (Ne.symm ej)]
        exact z
    · by_cases ej : j = i
      · subst ej; rw [Yt]; exact nd
      · rw [Wu ej]; exact R.nd j
    · by_cases ej : j = i
      · subst ej
        rw [Yt] at h1
        by_cases ek : k = j
        · exact ek.symm
        · rw [Wu ek] at h2
          exact absurd h1 (apart k a ek h2)
      · rw [Wu ej] at h1
        by_cases ek : k = i
        · subst ek
          rw [Yt] at h2
          exact absurd h2 (apart j a ej h1)
        · rw [Wu ek] at h2
          exact R.dj j k a h1 h2
    · by_cases ej : j = i
      · subst ej
        rw [Yt] at h
        rcases z with z | z
        · rcases new' a h with w | w
          · exact R.dx _ a w z
          · exact R.xa a z w
        · exact (hn a z).2.2 h
      · rw [Wu ej] at h
        rcases z with z | z
        · exact R.dx j a h z
        · exact R.footSome (hn a z).1 ⟨j, h⟩
    · refine keep b ob (R.fr b ob e n) fun z => ?_
      rcases R.new i b z with w | w
      · exact n w.2
      · rw [e] at w; cases w
    · by_cases ej : j = i
      · subst ej
        rw [Yt] at h
        rcases new' a h with w | w
        · exact R.new _ a w
        · exact .inr (R.al a w)
      · rw [Wu ej] at h
        exact R.new j a h
  · refine ⟨fun b ob e q => keep b ob e fun z => (q.resolve_left (by decide)) ⟨i, z⟩, fun z => (nomatch z), fun a z => ?_, al⟩
    rcases z.of_u with z | ⟨j, _, z⟩
    · exact (new' a z).imp (fun w => ⟨i, w⟩) id
    · exact .inl ⟨j, z⟩
noncomputable def PNs (G : PySem.W.Frag) (r : List V → Hp → VK → Prop) (rp : List PyData → (PyData → Prop) → Prop) : Prop := ∀ (H : Hp) (L : Addr → Prop) (xs : List V) (ds : List PyData) (k : PyData → Prop) (Q : VK), Das G H L xs ds → rp ds k → (∀ v d', ScD v d' → k d' → Q v H) → r xs H Q
noncomputable def PN (G : PySem.W.Frag) (r : List V → Hp → VK → Prop) (rp : List PyData → (OT → Prop) → Prop) : Prop := ∀ (H : Hp) (L : Addr → Prop) (xs : List V) (ds : List PyData) (k : OT → Prop) (Q : VK), Das G H L xs ds → rp ds k →
  (∀ H' v o new, Same H H' → Own G H' (fun a => (L a ∨ H a = none) ∧ a ∉ new) v o new → new.Nodup → (∀ a ∈ new, H a = none) → k o → Q v H') → r xs H Q
noncomputable def Z11 (rp : List PyData → (PyData → Prop) → Prop) (mr : MAt) : MEt := fun δ K => mr δ fun rs δ1 => rp (OT.datas rs) fun d => K (.fz d) δ1
noncomputable def mBl (rp : List PyData → (OT → Prop) → Prop) (mr : MAt) : MEt := fun δ K => mr δ fun rs δ1 => rp (OT.datas rs) fun o => K o δ1
theorem Z6b {r rp} {t : TA} (P : PNs G r rp) (sa : SA G io p c t mr) : SE G io p true (tCB r t) (Z11 rp mr) := fun C H σ δ fp ex K Q R h kk =>
  sa C H σ δ fp ex _ _ R h fun H1 vs rs δ1 fp1 new1 r1 h1 => P H1 _ vs _ _ _ (r1.das R) h1 fun v d' sc h2 => kk H1 v _ δ1 fp1 [] (.fz r1.base r1.stp sc.da) h2
theorem sBl {r rp} {t : TA} (P : PN G r rp) (sa : SA G io p c t mr) : SE G io p c (tCB r t) (mBl rp mr) := fun C H σ δ fp ex K Q R h kk =>
  sa C H σ δ fp ex _ _ R h fun H1 vs rs δ1 fp1 new1 r1 h1 => P H1 _ vs _ _ _ (r1.das R) h1 fun H' v o new s ow nd hn h2 => kk H' v o δ1 fp1 new (RE.tree R r1.base r1.stp s hn nd ow) h2
variable {id T : String} {r : List V → Hp → VK → Prop}
theorem Zbh {rp} (P : PNs X.K r rp) (hc : Zeo X (.builtin id) r) (hg : Gl X x) (hm : X.mg x = none) (hv : bootBuiltins x = some (.builtin id)) (ha : MA X io p c (e :: es) mr) (hn : x ≠ "__name__" := by decide) (hdb : (x == ("__debug__" : Str)) = false := by decide)
    (he : starEach (e :: es) X.env = (false, eval e X.env) :: starEach es X.env := by rfl) (hpl : (backTo pos (starEach es X.env)).any (·.1) = false := by rfl) : ME X io p true (.Call (.Name x pp) (e :: es) [] pos) (Z11 rp mr) := by
  obtain ⟨_, A, sa⟩ := ha
  exact ⟨_, Ziq hc hg hm hv A hn hdb he hpl, Z6b P sa⟩
theorem Z63 {rp} (P : PN X.K r rp) (hc : Zeo X (.builtin id) r) (hg : Gl X x) (hm : X.mg x = none) (hv : bootBuiltins x = some (.builtin id)) (ha : MA X io p c (e :: es) mr) (hn : x ≠ "__name__" := by decide) (hdb : (x == ("__debug__" : Str)) = false := by decide)
    (he : starEach (e :: es) X.env = (false, eval e X.env) :: starEach es X.env := by rfl) (hpl : (backTo pos (starEach es X.env)).any (·.1) = false := by rfl) : ME X io p c (.Call (.Name x pp) (e :: es) [] pos) (mBl rp mr) := by
  obtain ⟨_, A, sa⟩ := ha
  exact ⟨_, Ziq hc hg hm hv A hn hdb he hpl, sBl P sa⟩
theorem Z4c {rp} (P : PNs X.K r rp) (hc : Zeo X (.type T) r) (hg : Gl X x) (hm : X.mg x = none) (hv : bootBuiltins x = some (.type T)) (ha : MA X io p c (e :: es) mr) (hn : x ≠ "__name__" := by decide) (hdb : (x == ("__debug__" : Str)) = false := by decide)
    (he : starEach (e :: es) X.env = (false, eval e X.env) :: starEach es X.env := by rfl) (hpl : (backTo pos (starEach es X.env)).any (·.1) = false := by rfl) : ME X io p true (.Call (.Name x pp) (e :: es) [] pos) (Z11 rp mr) := by
  obtain ⟨_, A, sa⟩ := ha
  exact ⟨_, Zft hc hg hm hv A hn hdb he hpl, Z6b P sa⟩
end
end L2
namespace L2
open PySem PySem.Spec PyProof.Rows
variable {G : PySem.W.Frag}
mutual
noncomputable def Zfd : PyData → Bool
  | .none => true
  | .bool _ => true
  | .int _ => true
  | .str _ => true
  | .tuple ds => Zqt ds
  | .list _ => false
  | .dict _ => false
noncomputable def Zqt : List PyData → Bool
  | [] => true
  | d :: ds => Zfd d && Zqt ds
end
set_option genInjectivity false in
structure Zgs where
  nx : Zj → Prop
  rt : OT → Zj → Prop
  bk : Zj → Prop := fun _ => False
  ct : Zj → Prop := fun _ => False
noncomputable abbrev MSt := Zgs → Zj → Prop
noncomputable abbrev Kp (H : Hp) (fp : Fp) (H' : Hp) (fp' : Fp) : Prop := Stp false H [] fp H' [] fp'
theorem Stp.kp {p : Bool} {H H' : Hp} {δ δ' : Zj} {fp fp' : Fp} (S : Stp p H δ fp H' δ' fp') : Kp H fp H' fp' := ⟨fun b o e q => S.keep b o e (.inr (q.resolve_left (by decide))), fun z => (nomatch z), S.grow, S.al⟩
theorem Kp.trans {H H1 H2 : Hp} {fp fp1 fp2 : Fp} (a : Kp H fp H1 fp1) (b : Kp H1 fp1 H2 fp2) : Kp H fp H2 fp2 := Stp.trans a b
theorem Kp.refl (H : Hp) (fp : Fp) : Kp H fp H fp := Stp.refl _ _ _ _
structure RelEnds (C : MC G) (io : List Nat) (ex : Addr → Prop) (H : Hp) (fp : Fp) (D : Zgs) (D' : Ends) : Prop where
  nx : ∀ H' σ' δ' fp', Rel C io H' σ' δ' fp' ex → Kp H fp H' fp' → D.nx δ' → D'.nx σ' H'
  bk : ∀ H' σ' δ' fp', Rel C io H' σ' δ' fp' ex → Kp H fp H' fp' → D.bk δ' → D'.bk σ' H'
  ct : ∀ H' σ' δ' fp', Rel C io H' σ' δ' fp' ex → Kp H fp H' fp' → D.ct δ' → D'.ct σ' H'
  rt : ∀ H' σ' v r δ' fp' new, Rel C io H' σ' δ' fp' (exu ex new) → Own G H' (Lf C fp' (exu ex new)) v r new → new.Nodup → (∀ a ∈ new, C.H₀ a = none) → D.rt r δ' → D'.rt v H'
theorem RelEnds.shift {C : MC G} {io : List Nat} {ex : Addr → Prop} {H H1 : Hp} {fp fp1 : Fp} {D : Zgs} {D' : Ends} (E : RelEnds C io ex H fp D D') (k : Kp H fp H1 fp1) : RelEnds C io ex H1 fp1 D D' :=
  ⟨fun H' σ' δ' fp' R q => E.nx H' σ' δ' fp' R (k.trans q), fun H' σ' δ' fp' R q => E.bk H' σ' δ' fp' R (k.trans q), fun H' σ' δ' fp' R q => E.ct H' σ' δ' fp' R (k.trans q), E.rt⟩
noncomputable def SS (G : PySem.W.Frag) (io : List Nat) (t : TS) (m : MSt) : Prop := ∀ (C : MC G) (H : Hp) (σ : St) (δ : Zj) (fp : Fp) (ex : Addr → Prop) (D : Zgs) (D' : Ends), Rel C io H σ δ fp ex → m D δ → RelEnds C io ex H fp D D' → t D' σ H
noncomputable def MS (X : Cx) (io : List Nat) (st : Stmt) (m : MSt) : Prop := ∃ t, PS X st t ∧ SS X.K io t m
noncomputable def MSs (X : Cx) (io : List Nat) (st : List Stmt) (m : MSt) : Prop := ∃ t, PSs X st t ∧ SS X.K io t m
section
variable {X : Cx} {io : List Nat} {p p' p'' c c' : Bool} {e a b : Expr} {m ma mb : MEt} {es rest : List Expr} {mr : MAt} {pos : Pos} {st : Stmt} {sts : List Stmt} {u w : MSt} {mt : MTt}
noncomputable def Zx4 : MSt := fun D δ => D.nx δ
noncomputable def Z72 (w : MSt) (D : Zgs) (δ : Zj) : Prop := w D δ
noncomputable def Z3b (u w : MSt) : MSt := fun D δ => u { D with nx := Z72 w D } δ
theorem Wc : MSs X io [] Zx4 := ⟨_, Zu3, fun C H σ δ fp ex D D' R h E => E.nx H σ δ fp R (.refl _ _) h⟩
theorem Zr (h : MS X io st u) : MSs X io [st] u := by
  obtain ⟨_, A, s⟩ := h
  exact ⟨_, Zvp A, s⟩
theorem Ze (h : MS X io st u) (g : MSs X io sts w) : MSs X io (st :: sts) (Z3b u w) := by
  obtain ⟨_, A, s⟩ := h
  obtain ⟨tb, B, s'⟩ := g
  exact ⟨_, Zq3 A B, fun C H σ δ fp ex D D' R h E => s C H σ δ fp ex _ _ R h ⟨fun H1 σ1 δ1 fp1 R1 k1 h1 => s' C H1 σ1 δ1 fp1 ex D D' R1 h1 (E.shift k1), E.bk, E.ct, E.rt⟩⟩
noncomputable def Zy1 : MSt := fun _ _ => False
theorem Zre : MS X io st Zy1 := ⟨_, Zsd, fun C H σ δ fp ex D D' R h E => h.elim⟩
noncomputable def Z03 (m : MEt) : MSt := fun D δ => m δ fun _ δ' => D.nx δ'
theorem Zij (he : ME X io p c e m) (hs : swapsWith e none pos.line X.env = pure false := by rfl) : MS X io (.Expr e pos) (Z03 m) := by
  obtain ⟨_, A, s⟩ := he
  exact ⟨_, Zk7 A hs, fun C H σ δ fp ex D D' R h E => s C H σ δ fp ex _ _ R h fun H' v r δ' fp' new r1 h1 => E.nx H' σ δ' fp' r1.base r1.stp.kp h1⟩
noncomputable def Z5g (m : MEt) : MSt := fun D δ => m δ fun r δ' => D.rt r δ'
theorem Yy (he : ME X io p true e m) : MS X io (.Return (some e) pos) (Z5g m) := by
  obtain ⟨_, A, s⟩ := he
  exact ⟨_, Ztu A, fun C H σ δ fp ex D D' R h E => s C H σ δ fp ex _ _ R h fun H' v r δ' fp' new r1 h1 => E.rt H' σ v r δ' fp' new r1.rel (r1.own.wide fun a l _ => l rfl) r1.nd (fun a m => (R.newOk (r1.fresh a m)).2.2) h1⟩
noncomputable def Zsf (i : Nat) : MSt := fun D δ => match δ[i]? with | some (some t) => D.rt t (δ.set i none) | _ => False
theorem Rel.take {C : MC G} {H : Hp} {σ : St} {δ : Zj} {fp : Fp} {ex : Addr → Prop} {i : Nat} {t : OT} (R : Rel C io H σ δ fp ex) (hi : δ[i]? = some (some t)) : Rel C io H σ (δ.set i none) (fpu fp i []) (exu ex (fp i)) := by
  have hil : i < δ.length := (List.getElem?_eq_some_iff.mp hi).1
  have get : ∀ j (t' : OT), (δ.set i none)[j]? = some (some t') → j ≠ i ∧ δ[j]? = some (some t') := fun j t' e => by
    by_cases ej : j = i
    · subst ej; rw [List.getElem?_set_self hil] at e; cases e
    · rw [List.getElem?_set_ne (Ne.symm ej)] at e; exact ⟨ej, e⟩
  have sub : ∀ j a, a ∈ fpu fp i [] j → j ≠ i ∧ a ∈ fp j := fun j a m => by
    by_cases ej : j = i
    · subst ej; rw [Yt] at m; exact nomatch m
    · rw [Wu ej] at m; exact ⟨ej, m⟩
  have lw : ∀ a, Lf C fp ex a → Lf C (fpu fp i []) (exu ex (fp i)) a := fun a l => ⟨fun ⟨j, z⟩ => l.1 ⟨j, (sub j a z).2⟩, fun z => z.elim l.2.1 fun z => l.1 ⟨i, z⟩, l.2.2⟩
  refine ⟨by rw [List.length_set]; exact R.len, fun j t' e => ?_, fun j h => ?_, fun j => ?_, fun j k a h1 h2 => R.dj j k a (sub j a h1).2 (sub k a h2).2, fun j a h z => ?_, fun a z w => ?_, R.fr, R.al, fun j a h => R.new j a (sub j a h).2, R.io⟩
  · obtain ⟨ej, e⟩ := get j t' e
    obtain ⟨w, e1, o⟩ := R.own j t' e
    exact ⟨w, e1, by rw [Wu ej]; exact o.wide fun a l _ => lw a l⟩
  · by_cases ej : j = i
    · subst ej; rw [Yt]
    · rw [Wu ej]
      exact R.emp j fun t' z => h t' (by rw [List.getElem?_set_ne (Ne.symm ej)]; exact z)
  · by_cases ej : j = i
    · subst ej; rw [Yt]; exact .nil
    · rw [Wu ej]; exact R.nd j
  · obtain ⟨ej, h⟩ := sub j a h
    rcases z with z | z
    · exact R.dx j a h z
    · exact ej (R.dj j i a h z)
  · rcases z with z | z
    · exact R.xa a z w
    · exact R.footSome w ⟨i, z⟩
theorem Zhi (i : Nat) {x : Str} {px : Pos} (hio : i ∉ io := by decide) (hN : X.N[i]? = some x := by rfl) (hv : Vis X.env.scope x := by first | exact Or.inl rfl | exact Or.inr (Or.inl rfl) | exact Or.inr (Or.inr rfl)) (hd : (x == ("__debug__" : Str)) = false := by decide)
    (hcd : (x == ("__classdict__" : Str)) = false := by decide) : MS X io (.Return (some (.Name x px)) pos) (Zsf i) := by
  refine ⟨_, Ztu (pv i hN hv hd hcd), fun C H σ δ fp ex D D' R h E => ?_⟩
  unfold Zsf at h
  split at h
  case h_2 => exact h.elim
  rename_i t hi
  obtain ⟨v, e, o⟩ := R.own i t hi
  have lw : ∀ a, Lf C fp ex a → H a ≠ none → Lf C (fpu fp i []) (exu ex (fp i)) a := fun a l _ => ⟨fun z => by
    rcases z.of_u with z | ⟨j, _, z⟩
    · exact nomatch z
    · exact l.1 ⟨j, z⟩, fun z => z.elim l.2.1 fun z => l.1 ⟨i, z⟩, l.2.2⟩
  have hn : ∀ a ∈ fp i, C.H₀ a = none := fun a m => by
    rcases R.new i a m with z | z
    · exact absurd z.1 hio
    · exact z
  exact ⟨v, e, E.rt H σ v t _ _ (fp i) (R.take hi) (o.wide lw) (R.nd i) hn h⟩
noncomputable def Z5o (t : MTt) (u w : MSt) : MSt := fun D δ => t δ fun b δ' => if b = true then u D δ' else w D δ'
theorem Zb0 {cnd : Expr} {ss ss' : List Stmt} (hc : MT X io p cnd mt) (ha : MSs X io ss u) (hb : MSs X io ss' w) : MS X io (.If cnd ss ss' pos) (Z5o mt u w) := by
  obtain ⟨_, T, s⟩ := hc
  obtain ⟨_, A, sa⟩ := ha
  obtain ⟨_, B, sb⟩ := hb
  exact ⟨_, Z3u T A B, fun C H σ δ fp ex D D' R h E => s C H σ δ fp ex _ _ R h fun H' b δ' fp' R' S h' => by
    cases b with
    | true =>
      rw [if_pos rfl] at h' ⊢
      exact sa C H' σ δ' fp' ex D D' R' h' (E.shift S.kp)
    | false =>
      rw [if_neg Bool.false_ne_true] at h' ⊢
      exact sb C H' σ δ' fp' ex D D' R' h' (E.shift S.kp)⟩
theorem Rel.put {C : MC G} {H : Hp} {σ : St} {δ : Zj} {fp : Fp} {ex : Addr → Prop} {i : Nat} {v : V} {r : OT} {new : List Addr} (R : Rel C io H σ δ fp (exu ex new)) (hio : i ∉ io) (o : Own G H (Lf C fp (exu ex new)) v r new) (nd : new.Nodup)
    (hn : ∀ a ∈ new, C.H₀ a = none ∧ ¬ ex a) : ∃ fp', Rel C io H (σ.set i (some v)) (δ.set i (some r)) fp' ex ∧ ∀ a, Foot fp' a → Foot fp a ∨ a ∈ new := by
  by_cases hil : i < δ.length
  case neg =>
    refine ⟨fp, ?_, fun a h => .inl h⟩
    have hl := R.len
    rw [List.set_eq_of_length_le (show δ.length ≤ i by omega), List.set_eq_of_length_le (show σ.length ≤ i by omega)]
    exact R.drop fun a z => .inl z
  have hsl : i < σ.length := by rw [R.len]; exact hil
  have sub : ∀ a, Foot (fpu fp i new) a → Foot fp a ∨ a ∈ new := fun a z => by
    rcases z.of_u with z | ⟨j, _, z⟩
    · exact .inr z
    · exact .inl ⟨j, z⟩
  have lw : ∀ a, Lf C fp (exu ex new) a → Lf C (fpu fp i new) ex a := fun a l => ⟨fun z => (sub a z).elim l.1 fun z => l.2.1 (.inr z), fun z => l.2.1 (.inl z), l.2.2⟩
  refine ⟨fpu fp i new, ⟨by rw [List.length_set, List.length_set]; exact R.len, fun j t' e => ?_, fun j h => ?_, fun j => ?_, fun j k a h1 h2 => ?_, fun j a h z => ?_, fun a z => R.xa a (.inl z), R.fr, R.al, fun j a h => ?_, fun j hj => ?_⟩, sub⟩
  · by_cases ej : j = i
    · subst ej
      rw [List.getElem?_set_self hil] at e
      cases e
      exact ⟨v, List.getElem?_set_self hsl, by rw [Yt]; exact o.wide fun a l _ => lw a l⟩
    · rw [List.getElem?_set_ne (Ne.symm ej)] at e
      obtain ⟨w, e1, o1⟩ := R.own j t' e
      exact ⟨w, by rw [List.getElem?_set_ne (Ne.symm ej)]; exact e1, by rw [Wu ej]; exact o1.wide fun a l _ => lw a l⟩
  · by_cases ej : j = i
    · subst ej; exact absurd (List.getElem?_set_self hil) (h r)
    · rw [Wu ej]
      exact R.emp j fun t' z => h t' (by rw [List.getElem?_set_ne (Ne.symm ej)]; exact z)
  · by_cases ej : j = i
    · subst ej; rw [Yt]; exact nd
    · rw [Wu ej]; exact R.nd j
  · by_cases ej : j = i
    · subst ej
      rw [Yt] at h1
      by_cases ek : k = j
      · exact ek.symm
      · rw [Wu ek] at h2
        exact absurd (.inr h1) (R.dx k a h2)
    · rw [Wu ej] at h1
      by_cases ek : k = i
      · subst ek
        rw [Yt] at h2
        exact absurd (.inr h2) (R.dx j a h1)
      · rw [Wu ek] at h2
        exact R.dj j k a h1 h2
  · by_cases ej : j = i
    · subst ej
      rw [Yt] at h
      exact (hn a h).2 z
    · rw [Wu ej] at h
      exact R.dx j a h (.inl z)
  · by_cases ej : j = i
    · subst ej
      rw [Yt] at h
      exact .inr (hn a h).1
    · rw [Wu ej] at h
      exact R.new j a h
  · have ej : j ≠ i := fun z => hio (z ▸ hj)
    rw [List.getElem?_set_ne (Ne.symm ej)]
    exact R.io j hj
theorem RE.put {C : MC G} {H H' : Hp} {σ : St} {δ δ' : Zj} {fp fp' : Fp} {ex : Addr → Prop} {i : Nat} {v : V} {r : OT} {new : List Addr} (R : RE C io p true H σ δ fp ex H' v r δ' fp' new) (R0 : Rel C io H σ δ fp ex) (hio : i ∉ io) :
    ∃ fp2, Rel C io H' (σ.set i (some v)) (δ'.set i (some r)) fp2 ex ∧ Kp H fp H' fp2 := by
  obtain ⟨fp2, R2, g⟩ := R.rel.put hio (R.own.wide fun a l _ => l rfl) R.nd fun a m => ⟨(R0.newOk (R.fresh a m)).2.2, (R0.newOk (R.fresh a m)).2.1⟩
  refine ⟨fp2, R2, fun b o e q => R.stp.keep b o e (.inr (q.resolve_left (by decide))), fun z => (nomatch z), fun a z => ?_, R.stp.al⟩
  rcases g a z with z | z
  · exact R.stp.grow a z
  · exact .inr (R.fresh a z)
theorem RE.fzc {C : MC G} {H H' : Hp} {σ : St} {δ δ' : Zj} {fp fp' : Fp} {ex : Addr → Prop} {v : V} {r : OT} {new : List Addr} (R : RE C io p c H σ δ fp ex H' v r δ' fp' new) (R0 : Rel C io H σ δ fp ex) :
    RE C io p c H σ δ fp ex H' v (.fz r.data) δ' fp' [] := .fz R.base R.stp (R.da R0)
noncomputable def Zw5 (i : Nat) (m : MEt) : MSt := fun D δ => m δ fun r δ' => D.nx (δ'.set i (some (.fz r.data)))
noncomputable def Zm3 (i : Nat) (m : MEt) : MSt := fun D δ => m δ fun r δ' => D.nx (δ'.set i (some r))
section
variable {i : Nat} {x : Str} {px : Pos}
theorem Z6p {t : TE} (s : SE G io p true t m) (hio : i ∉ io) : SS G io (Z0i t (Zop i)) (Zw5 i m) := fun C H σ δ fp ex D D' R h E => s C H σ δ fp ex _ _ R h fun H' v r δ' fp' new r1 h1 => by
  obtain ⟨fp2, R2, k2⟩ := (r1.fzc R).put R hio
  exact E.nx H' _ _ fp2 R2 k2 h1
theorem Zxg {t : TE} (s : SE G io p true t m) (hio : i ∉ io) : SS G io (Z0i t (Zop i)) (Zm3 i m) := fun C H σ δ fp ex D D' R h E => s C H σ δ fp ex _ _ R h fun H' v r δ' fp' new r1 h1 => by
  obtain ⟨fp2, R2, k2⟩ := r1.put R hio
  exact E.nx H' _ _ fp2 R2 k2 h1
theorem Z0 (hN : X.N.Nodup) (hi : X.N[i]? = some x) (hx : Loc X.env.scope x) (he : ME X io p true e m) (hio : i ∉ io := by decide) (hs : swapsWith e (some (.Name x px)) pos.line X.env = pure false := by rfl) (hf : X.fn x = true ∨ X.env.scope.names.lookup x = some .local := by first | exact .inl rfl | exact .inr rfl | assumption) :
    MS X io (.Assign [.Name x px] e pos) (Zw5 i m) := by
  obtain ⟨_, A, s⟩ := he
  exact ⟨_, Zti hN hi hx A hs hf, Z6p s hio⟩
theorem Zdt (hN : X.N.Nodup) (hi : X.N[i]? = some x) (hx : Loc X.env.scope x) (he : ME X io p true e m) (hio : i ∉ io := by decide) (hs : swapsWith e (some (.Name x px)) pos.line X.env = pure false := by rfl) (hf : X.fn x = true ∨ X.env.scope.names.lookup x = some .local := by first | exact .inl rfl | exact .inr rfl | assumption) :
    MS X io (.Assign [.Name x px] e pos) (Zm3 i m) := by
  obtain ⟨_, A, s⟩ := he
  exact ⟨_, Zti hN hi hx A hs hf, Zxg s hio⟩
end
noncomputable def Zsw (t : MTt) (u : MSt) : MSt := fun D δ => ∃ W : Nat → Zj → Prop, (∃ n, W n δ) ∧ ∀ n δ, W n δ → t δ fun b δ' => if b = true then ∃ N : Zj → Prop, (∀ δ', N δ' → ∃ n', n' < n ∧ W n' δ') ∧ u { D with nx := N, ct := N, bk := D.nx } δ' else D.nx δ'
theorem Zlf {cnd : Expr} {ss : List Stmt} (hp : PassesOwn (model X.prog X.w) X.A X.env X.xe) (hc : MT X io p cnd mt) (ha : MSs X io ss u) : MS X io (.While cnd ss [] pos) (Zsw mt u) := by
  obtain ⟨_, T, s⟩ := hc
  obtain ⟨_, A, sa⟩ := ha
  refine ⟨_, Zsn hp T A, fun C H σ δ fp ex D D' R h E => ?_⟩
  obtain ⟨W, ⟨n0, w0⟩, turn⟩ := h
  refine ⟨fun n σ' H' => ∃ δ' fp', Rel C io H' σ' δ' fp' ex ∧ Kp H fp H' fp' ∧ W n δ', ⟨n0, δ, fp, R, .refl _ _, w0⟩, ?_⟩
  rintro n σ1 H1 ⟨δ1, fp1, R1, k1, w1⟩
  refine s C H1 σ1 δ1 fp1 ex _ _ R1 (turn n δ1 w1) fun H2 b δ2 fp2 R2 S2 h2 => ?_
  have k2 := k1.trans S2.kp
  cases b with
  | true =>
    rw [if_pos rfl] at h2 ⊢
    obtain ⟨N, hN, h2⟩ := h2
    refine ⟨fun σ' H' => ∃ δ' fp', Rel C io H' σ' δ' fp' ex ∧ Kp H fp H' fp' ∧ N δ', fun σ' H' ⟨δ', fp', R', k', n'⟩ => ?_, ?_⟩
    · obtain ⟨n1, hn1, w1⟩ := hN δ' n'
      exact ⟨n1, hn1, δ', fp', R', k', w1⟩
    · refine sa C H2 σ1 δ2 fp2 ex _ _ R2 h2 ⟨fun H' σ' δ' fp' R' k' n' => ⟨δ', fp', R', k2.trans k', n'⟩, fun H' σ' δ' fp' R' k' n' => E.nx H' σ' δ' fp' R' (k2.trans k') n', fun H' σ' δ' fp' R' k' n' => ⟨δ', fp', R', k2.trans k', n'⟩, E.rt⟩
  | false =>
    rw [if_neg Bool.false_ne_true] at h2 ⊢
    exact E.nx H2 σ1 δ2 fp2 R2 k2 h2
end
end L2
namespace L2
open PySem PySem.Spec PyProof.Rows
variable {G : PySem.W.Frag}
noncomputable def Zg4 (N : List Str) (ds : List PyData) : Zj := ds.map (fun d => some (.fz d)) ++ List.replicate (N.length - ds.length) none
section
variable {H : Hp} {L : Addr → Prop} {vs : List V} {ds : List PyData} {N : List Str}
theorem Zod {i : Nat} {t : OT} {n : Nat} (h : (ds.map (fun d => some (.fz d)) ++ List.replicate n none : Zj)[i]? = some (some t)) : ∃ d, ds[i]? = some d ∧ t = .fz d := by
  rw [List.getElem?_append] at h
  split at h
  · rw [List.getElem?_map] at h
    cases e : ds[i]? with
    | none => rw [e] at h; cases h
    | some d => rw [e] at h; cases h; exact ⟨d, rfl, rfl⟩
  · rw [List.getElem?_replicate] at h
    split at h
    · cases h
    · cases h
theorem Rel.entry (h : Das G H L vs ds) : Rel (G := G) ⟨H, fun _ => False, L, start N vs⟩ [] H (start N vs) (Zg4 N ds) (fun _ => []) (fun _ => False) := by
  refine ⟨?_, fun i t e => ?_, fun _ _ => rfl, fun _ => .nil, fun i j a m => (nomatch m), fun i a m => (nomatch m), fun a z => z.elim, fun b o e _ => e, fun b e => e, fun i a m => (nomatch m), fun i m => nomatch m⟩
  · unfold start Zg4
    simp [h.length]
  · obtain ⟨d, e', rfl⟩ := Zod e
    obtain ⟨x, e1, q⟩ := h.get e'
    refine ⟨x, ?_, .fz (q.wide fun a l _ => ⟨fun ⟨j, z⟩ => (nomatch z), fun z => z, .inl l⟩)⟩
    unfold L2.start
    rw [List.getElem?_append_left (by rw [List.length_map]; exact (List.getElem?_eq_some_iff.mp e1).1), List.getElem?_map, e1]
    rfl
variable {P : Program} {w : World} {K : PySem.W.Frag} {mg : Str → Option Value} {base : Heap}
noncomputable def Zwe (k : OT → Prop) : Zgs := { nx := fun _ => k (.fz .none), rt := fun r _ => k r }
theorem Fun.okD {x qual : Str} {st : Stmt} {f : Addr} {fd : FuncData} {N ps : List Str} {n : Nat} {S : List PyData → (OT → Prop) → Prop} (F : Fun K x qual st f fd) (Sc : Z8 N ps (Zi st)) (len : ∀ ds k, S ds k → ds.length = ps.length)
    (hbody : ∀ (cdv : Value) (A : Around) (outer : List Env) (s : Shared) (H : Hp) (E : XK), Room n (A.deeper (envOfC qual (Zi st) s.heap.objs.size f cdv)) →
      ∃ m, MSs (Zqx CX0 P w K mg base N qual (Zi st) f cdv A outer s H E).nox [] (Z6 st) m ∧ ∀ ds k, S ds k → m (Zwe k) (Zg4 N ds)) : FnOk P w K mg base CX0 (n + 1) f fd ps (spD K S) := by
  refine F.ok Sc (fun vs H Q E h => ?_) (fun cdv A outer s H vs Q E hr h => ?_)
  · obtain ⟨L, ds, k, h1, h2, _⟩ := h
    rw [h1.length]
    exact len ds k h2
  · obtain ⟨L, ds, k, h1, h2, h3⟩ := h
    obtain ⟨m, ⟨t, A1, s1⟩, q⟩ := hbody cdv A outer s H E hr
    refine ⟨t, A1, s1 ⟨H, fun _ => False, L, start N vs⟩ H _ _ _ _ (Zwe k) _ (Rel.entry h1) (q ds k h2) ⟨fun H' σ' δ' fp' R _ hk => ?_, fun _ _ _ _ _ _ z => z.elim, fun _ _ _ _ _ _ z => z.elim, fun H' σ' v r δ' fp' new R o nd hn hk => ?_⟩⟩
    · exact h3 _ .non H' [] hk (fun b o e => R.fr b o e id) (.fz .non) .nil fun a m => nomatch m
    · refine h3 r v H' new hk (fun b o e => R.fr b o e id) (o.wide fun a l _ => ⟨?_, fun z => l.2.1 (.inr z)⟩) nd hn
      exact l.2.2
end
noncomputable abbrev MGt := PyData → Zj → (Zj → Prop) → Prop
noncomputable abbrev Zqv := List PyData → Zj → (Zj → Prop) → Prop
noncomputable def SG (G : PySem.W.Frag) (io : List Nat) (c : Bool) (t : TG) (g : MGt) : Prop := ∀ (C : MC G) (H : Hp) (σ : St) (δ : Zj) (fp : Fp) (ex : Addr → Prop) (v : V) (d : PyData) (k : Zj → Prop) (Q : St → Hp → Prop), Rel C io H σ δ fp ex → Da G H (fun a => c = true → Lf C fp ex a) v d → g d δ k →
  (∀ σ' δ' fp', Rel C io H σ' δ' fp' ex → Kp H fp H fp' → k δ' → Q σ' H) → t v σ H Q
noncomputable def SGs (G : PySem.W.Frag) (io : List Nat) (c : Bool) (t : TGs) (g : Zqv) : Prop := ∀ (C : MC G) (H : Hp) (σ : St) (δ : Zj) (fp : Fp) (ex : Addr → Prop) (v : List V) (d : List PyData) (k : Zj → Prop) (Q : St → Hp → Prop), Rel C io H σ δ fp ex → Das G H (fun a => c = true → Lf C fp ex a) v d → g d δ k →
  (∀ σ' δ' fp', Rel C io H σ' δ' fp' ex → Kp H fp H fp' → k δ' → Q σ' H) → t v σ H Q
noncomputable def MG (X : Cx) (io : List Nat) (c : Bool) (tg : Expr) (g : MGt) : Prop := ∃ t, PG X tg t ∧ SG X.K io c t g
noncomputable def MGs (X : Cx) (io : List Nat) (c : Bool) (tg : List Expr) (g : Zqv) : Prop := ∃ t, PGs X tg t ∧ SGs X.K io c t g
section
variable {X : Cx} {io : List Nat} {c : Bool} {pos : Pos} {i : Nat} {x : Str}
noncomputable def dName (i : Nat) : MGt := fun d δ k => k (δ.set i (some (.fz d)))
theorem Rel.putD {C : MC G} {H : Hp} {σ : St} {δ : Zj} {fp : Fp} {ex : Addr → Prop} {v : V} {d : PyData} (R : Rel C io H σ δ fp ex) (hio : i ∉ io) (q : Da G H (Lf C fp ex) v d) :
    ∃ fp', Rel C io H (σ.set i (some v)) (δ.set i (some (.fz d))) fp' ex ∧ Kp H fp H fp' := by
  obtain ⟨fp', R', g⟩ := (R.drop fun a z => Zb3.mp z).put (new := []) hio (.fz (q.wide fun a l _ => ⟨l.1, fun z => l.2.1 (Zb3.mp z), l.2.2⟩)) .nil (fun a m => nomatch m)
  exact ⟨fp', R', fun b o e _ => e, fun z => (nomatch z), fun a z => (g a z).imp id fun z => (nomatch z), fun b e => e⟩
theorem Yd (hN : X.N.Nodup) (hi : X.N[i]? = some x := by rfl) (hx : Loc X.env.scope x := by first | exact Or.inl rfl | exact Or.inr rfl) (hio : i ∉ io := by decide) (hf : X.fn x = true ∨ X.env.scope.names.lookup x = some .local := by first | exact .inl rfl | exact .inr rfl | assumption) : MG X io true (.Name x pos) (dName i) :=
  ⟨_, Zwn hN hi hx hf, fun C H σ δ fp ex v d k Q R q h kk => by
    obtain ⟨fp', R', k'⟩ := R.putD hio (q.wide fun a l _ => l rfl)
    exact kk _ _ fp' R' k' h⟩
noncomputable def Z6n : Zqv := fun ds δ k => ds = [] ∧ k δ
noncomputable def Zzy (g : MGt) (gs : Zqv) : Zqv := fun ds δ k => match ds with | d :: r => g d δ fun δ' => gs r δ' k | [] => False
theorem Zfy : MGs X io c [] Z6n := ⟨_, Zv6, fun C H σ δ fp ex v d k Q R q h kk => by
  obtain ⟨rfl, h⟩ := h
  cases q
  exact ⟨rfl, kk σ δ fp R (.refl _ _) h⟩⟩
theorem Rel.kp_das {C : MC G} {H H' : Hp} {σ : St} {δ : Zj} {fp fp' : Fp} {ex : Addr → Prop} {vs : List V} {ds : List PyData} (R : Rel C io H σ δ fp ex) (S : Kp H fp H' fp') (h : Das G H (Lf C fp ex) vs ds) : Das G H' (Lf C fp' ex) vs ds := by
  have S' : Stp false H δ fp H' δ fp' := ⟨S.keep, fun z => (nomatch z), S.grow, S.al⟩
  obtain ⟨f1, f2⟩ := R.frameL (c := true) (ex' := ex) S' (.inr rfl) fun a z => .inl z
  exact h.frame (fun a xs l q => ⟨(f1 a xs (fun _ => l) q).1 rfl, (f1 a xs (fun _ => l) q).2⟩) f2
theorem Zah {e : Expr} {es : List Expr} {g : MGt} {gs : Zqv} (h1 : MG X io true e g) (h2 : MGs X io true es gs)
    (hs : (assignEach (e :: es) X.env).map (·.2) = assign e X.env :: (assignEach es X.env).map (·.2) := by rfl) : MGs X io true (e :: es) (Zzy g gs) := by
  obtain ⟨_, A, s⟩ := h1
  obtain ⟨_, B, s'⟩ := h2
  exact ⟨_, Zri A B hs, fun C H σ δ fp ex v d k Q R q h kk => by
    cases q with
    | nil => exact h.elim
    | cons q qs =>
      refine ⟨_, _, rfl, s C H σ δ fp ex _ _ _ _ R q h fun σ1 δ1 fp1 R1 k1 h1 => ?_⟩
      exact s' C H σ1 δ1 fp1 ex _ _ _ _ R1 ((R.kp_das k1 (qs.wide fun a l _ => l rfl)).wide fun a l _ _ => l) h1 fun σ2 δ2 fp2 R2 k2 h2 => kk σ2 δ2 fp2 R2 (k1.trans k2) h2⟩
noncomputable def dTup (n : Nat) (gs : Zqv) : MGt := fun d δ k => match d with | .tuple ds => ds.length = n ∧ gs ds δ k | _ => False
theorem Zi2 {es : List Expr} {k : Nat} {gs : Zqv} {n : Nat} (hc : X.calm = true) (h : MGs X io c es gs)
    (hn : (assignEach es X.env).length = n := by rfl) (hst : (assignEach es X.env).findIdx? (·.1) = none := by rfl) : MG X io c (.Tuple es k pos) (dTup n gs) := by
  obtain ⟨_, A, s⟩ := h
  exact ⟨_, Zxz hc A hn hst, fun C H σ δ fp ex v d k Q R q h kk => by
    cases q with
    | tup e qs => exact ⟨_, _, rfl, .inl (.inl e), by rw [qs.length]; exact h.1, s C H σ δ fp ex _ _ _ _ R qs h.2 kk⟩
    | _ => exact h.elim⟩
noncomputable def Z4z (m : MEt) (g : MGt) : MSt := fun D δ => m δ fun r δ' => g r.data δ' D.nx
theorem Zx6 {tg e : Expr} {p : Bool} {m : MEt} {g : MGt} (he : ME X io p c e m) (hg : MG X io c tg g) (hs : swapsWithSole [tg] e pos.line X.env = pure false := by rfl) (hw : swappedStores [tg] e X.env = pure none := by rfl)
    (h1 : (assignEach [tg] X.env).map (·.2) = [assign tg X.env] := by rfl) : MS X io (.Assign [tg] e pos) (Z4z m g) := by
  obtain ⟨_, A, s⟩ := he
  obtain ⟨_, B, s'⟩ := hg
  exact ⟨_, Ztf A B hs hw h1, fun C H σ δ fp ex D D' R h E => s C H σ δ fp ex _ _ R h fun H' v r δ' fp' new r1 h1 =>
    s' C H' σ δ' fp' ex v _ _ _ r1.base (r1.da R) h1 fun σ2 δ2 fp2 R2 k2 h2 => E.nx H' σ2 δ2 fp2 R2 (r1.stp.kp.trans k2) h2⟩
end
end L2
namespace L2
open PySem PySem.Spec PyProof.Rows
variable {G : PySem.W.Frag}
noncomputable def IterOk (C : MC G) (fp : Fp) (ex : Addr → Prop) (H1 : Hp) (c : Bool) (J : It) (ds : List PyData) : Prop := ∀ H' : Hp, (∀ b o, H1 b = some o → (c = false ∨ ¬ Foot fp b) → H' b = some o) → ∀ i : Nat,
  (∀ d, ds[i]? = some d → J.go i H' ∧ ∀ x H'', J.yld i H' x H'' → Same H' H'' ∧ Da G H'' (fun a => c = true → (Lf C fp ex a ∧ H1 a ≠ none)) x d) ∧ (ds[i]? = none → J.stop i H')
noncomputable abbrev MIt := Zj → (List PyData → Zj → Prop) → Prop
noncomputable def SI (G : PySem.W.Frag) (io : List Nat) (p c : Bool) (t : TI) (m : MIt) : Prop := ∀ (C : MC G) (H : Hp) (σ : St) (δ : Zj) (fp : Fp) (ex : Addr → Prop) (K : List PyData → Zj → Prop) (Q : It → Hp → Prop), Rel C io H σ δ fp ex → m δ K →
  (∀ J H1 ds δ1 fp1, Rel C io H1 σ δ1 fp1 ex → Stp p H δ fp H1 δ1 fp1 → IterOk C fp1 ex H1 c J ds → K ds δ1 → Q J H1) → t σ H Q
noncomputable def MI (X : Cx) (io : List Nat) (p c : Bool) (tg iter : Expr) (m : MIt) : Prop := ∃ t, PI X tg iter t ∧ SI X.K io p c t m
section
variable {X : Cx} {io : List Nat} {p c : Bool} {e a b tg : Expr} {m : MEt} {mr : MAt} {K : PySem.W.Frag}
noncomputable def iL (m : MEt) : MIt := fun δ K => m δ fun r δ' => match r.data with | .list ds => K ds δ' | _ => False
theorem Rel.kept {C : MC G} {H H' : Hp} {σ : St} {δ : Zj} {fp : Fp} {ex : Addr → Prop} (R : Rel C io H σ δ fp ex) (kp : ∀ b o, H b = some o → (c = false ∨ ¬ Foot fp b) → H' b = some o) :
    (∀ a (xs : MuO), (c = true → Lf C fp ex a) → Rd H a xs.ho → (c = true → (Lf C fp ex a ∧ H a ≠ none)) ∧ Rd H' a xs.ho) ∧ (∀ a (xs : ImO), H a = some xs.ho → H' a = some xs.ho) := by
  refine ⟨fun a xs l q => ⟨fun hc => ⟨l hc, q.some⟩, ?_⟩, fun a xs q => kp a _ q (.inr fun z => ?_)⟩
  · have hk : c = false ∨ ¬ Foot fp a := by
      cases c with
      | false => exact .inl rfl
      | true => exact .inr (l rfl).1
    rcases q with q | ⟨o, q⟩
    · exact .inl (kp a _ q hk)
    · exact .inr ⟨o, kp a _ q hk⟩
  · obtain ⟨ys, e⟩ := R.foot z
    exact ImO.nm q e
theorem J8 (h : ME X io p c e m) : MI X io p c tg e (iL m) := by
  obtain ⟨_, A, s⟩ := h
  exact ⟨_, Zq4 rfl A, fun C H σ δ fp ex K' Q R h kk => s C H σ δ fp ex _ _ R h fun H1 v r δ1 fp1 new r1 h1 => by
    have q := r1.da R
    generalize r.data = d at q h1
    cases q with
    | lst l e qs =>
      refine ⟨_, rfl, ⟨_, .inl e⟩, kk _ H1 _ δ1 fp1 r1.base r1.stp (fun H' kp i => ?_) h1⟩
      obtain ⟨f1, f2⟩ := r1.base.kept kp
      have e' := (f1 _ (.lst _) l e).2
      have qs' := qs.frame f1 f2
      refine ⟨fun d hd => ?_, fun hd => ?_⟩
      · obtain ⟨x, hx, qx⟩ := qs'.get hd
        refine ⟨⟨_, x, .inl e', hx⟩, fun y H'' hy => ?_⟩
        obtain ⟨rfl, hy⟩ := hy
        have := hy _ (.inl e')
        rw [hx] at this
        cases this
        exact ⟨Same.refl _, qx⟩
      · exact ⟨_, .inl e', by rw [qs'.length]; exact List.getElem?_eq_none_iff.mp hd⟩
    | scr ks =>
      refine ⟨_, rfl, ⟨_, ks.sq⟩, kk _ H1 _ δ1 fp1 r1.base r1.stp (fun H' kp i => ?_) h1⟩
      refine ⟨fun d hd => ?_, fun hd => ?_⟩
      · obtain ⟨x, hx, qx⟩ := (Das.ints (G := X.K) (H := H') (L := fun a => c = true → (Lf C fp1 ex a ∧ H1 a ≠ none)) _).get hd
        refine ⟨⟨_, x, ks.sq, hx⟩, fun y H'' hy => ?_⟩
        obtain ⟨rfl, hy⟩ := hy
        have := hy _ ks.sq
        rw [hx] at this
        cases this
        exact ⟨Same.refl _, qx⟩
      · refine ⟨_, ks.sq, ?_⟩
        have := List.getElem?_eq_none_iff.mp hd
        simpa using this
    | _ => exact h1.elim⟩
noncomputable def Zda (lo : Int) (n : Nat) : List PyData := (List.range n).map fun (i : Nat) => PyData.int (lo + (i : Int))
@[simp] theorem Zdx (lo : Int) (n : Nat) : (Zda lo n).length = n := by simp [Zda]
theorem Zbi {lo : Int} {n i : Nat} {d : PyData} (h : (Zda lo n)[i]? = some d) : i < n ∧ d = .int (lo + i) := by
  have hi : i < n := by
    have := (List.getElem?_eq_some_iff.mp h).1
    simpa using this
  unfold Zda at h
  rw [List.getElem?_map, List.getElem?_range hi] at h
  cases h
  exact ⟨hi, rfl⟩
theorem Zme {C : MC G} {fp : Fp} {ex : Addr → Prop} {H1 : Hp} {lo : Int} {n : Nat} : IterOk C fp ex H1 true (Itr lo n) (Zda lo n) := fun H' _ i => by
  refine ⟨fun d hd => ?_, fun hd => ?_⟩
  · obtain ⟨hi, rfl⟩ := Zbi hd
    refine ⟨hi, fun x H'' hy => ?_⟩
    obtain ⟨rfl, rfl⟩ := hy
    exact ⟨Same.refl _, .int _⟩
  · have := List.getElem?_eq_none_iff.mp hd
    show n ≤ i
    simpa using this
noncomputable def iR1 (mr : MAt) : MIt := fun δ K => mr δ fun rs δ' => match OT.datas rs with | [.int j] => (-(2 ^ 62) ≤ j ∧ j < 2 ^ 62) ∧ K (Zda 0 j.toNat) δ' | _ => False
noncomputable def iR2 (mr : MAt) : MIt := fun δ K => mr δ fun rs δ' => match OT.datas rs with | [.int i, .int j] => (-(2 ^ 62) ≤ i ∧ i < 2 ^ 62 ∧ -(2 ^ 62) ≤ j ∧ j < 2 ^ 62) ∧ K (Zda i (j - i).toNat) δ' | _ => False
theorem Jl {p' pos : Pos} (hg : Gl X "range") (hm : X.mg "range" = none) (ha : MA X io p c [a] mr) (hs : starEach [a] X.env = [(false, eval a X.env)] := by rfl) : MI X io p true tg (.Call (.Name "range" p') [a] [] pos) (iR1 mr) := by
  obtain ⟨_, A, s⟩ := ha
  exact ⟨_, Zp5 hg hm A hs, fun C H σ δ fp ex K' Q R h kk => s C H σ δ fp ex _ _ R h fun H1 vs rs δ1 fp1 new r1 h1 => by
    have q := r1.das R
    generalize OT.datas rs = d at q h1
    split at h1
    case h_2 => exact h1.elim
    cases q with
    | cons q1 q2 =>
      cases q1
      cases q2
      exact ⟨_, rfl, h1.1.1, h1.1.2, kk _ H1 _ δ1 fp1 r1.base r1.stp Zme h1.2⟩⟩
theorem Zpt {p' pos : Pos} (hg : Gl X "range") (hm : X.mg "range" = none) (ha : MA X io p c [a, b] mr) (hs : starEach [a, b] X.env = [(false, eval a X.env), (false, eval b X.env)] := by rfl) (hs2 : starEach [b] X.env = [(false, eval b X.env)] := by rfl) : MI X io p true tg (.Call (.Name "range" p') [a, b] [] pos) (iR2 mr) := by
  obtain ⟨_, A, s⟩ := ha
  exact ⟨_, Zpk hg hm A hs hs2, fun C H σ δ fp ex K' Q R h kk => s C H σ δ fp ex _ _ R h fun H1 vs rs δ1 fp1 new r1 h1 => by
    have q := r1.das R
    generalize OT.datas rs = d at q h1
    split at h1
    case h_2 => exact h1.elim
    cases q with
    | cons q1 q2 =>
      cases q1
      cases q2 with
      | cons q2 q3 =>
        cases q2
        cases q3
        exact ⟨_, _, rfl, h1.1, kk _ H1 _ δ1 fp1 r1.base r1.stp Zme h1.2⟩⟩
theorem IterOk.at {C : MC G} {fp fp' : Fp} {ex : Addr → Prop} {H1 H' H'' : Hp} {J : It} {ds : List PyData} {x : V} {d : PyData} (g : ∀ a, Foot fp' a → Foot fp a ∨ H1 a = none) (h : Da G H'' (fun a => true = true → (Lf C fp ex a ∧ H1 a ≠ none)) x d) : Da G H'' (fun a => true = true → Lf C fp' ex a) x d :=
  h.wide fun a l _ z => ⟨fun w => (g a w).elim (l z).1.1 (l z).2, (l z).1.2.1, (l z).1.2.2⟩
noncomputable def Z3t (ds : List PyData) (g : MGt) (u : MSt) (D : Zgs) (δ1 : Zj) : Prop := ∃ I : Nat → Zj → Prop, I 0 δ1 ∧ (∀ (i : Nat) (d : PyData) (δ' : Zj), ds[i]? = some d → I i δ' → g d δ' fun δ2 => u { D with nx := I (i + 1), ct := I (i + 1), bk := D.nx } δ2) ∧ ∀ δ', I ds.length δ' → D.nx δ'
noncomputable def Z51 (mi : MIt) (g : MGt) (u : MSt) : MSt := fun D δ => mi δ fun ds δ1 => Z3t ds g u D δ1
theorem Rel.mk0 {C : MC G} {H H' : Hp} {σ : St} {δ : Zj} {fp : Fp} {ex : Addr → Prop} (R : Rel C io H σ δ fp ex) (s : Same H H') : Rel C io H' σ δ fp ex := (R.made (new := []) s fun a m => nomatch m).drop fun a z => .inl z
theorem Zbr {iter : Expr} {body : List Stmt} {mi : MIt} {g : MGt} {u : MSt} {pos : Pos} (hp : PassesOwn (model X.prog X.w) X.A X.env X.xe) (hc : X.calm = true) (hi : MI X io p true tg iter mi) (hg : MG X io true tg g) (hb : MSs X io body u)
    (hs : ∀ x, foldedSetIterable iter X.env x = pure x := by intro _; rfl) : MS X io (.For tg iter body [] pos) (Z51 mi g u) := by
  obtain ⟨_, A, s⟩ := hi
  obtain ⟨_, G, sg⟩ := hg
  obtain ⟨_, B, sb⟩ := hb
  refine ⟨_, Z0y hp hc A G B hs, fun C H σ δ fp ex D D' R h E => s C H σ δ fp ex _ _ R h fun J H1 ds δ1 fp1 R1 S1 it h1 => ?_⟩
  obtain ⟨I, h0, turn, fin⟩ := h1
  refine ⟨fun i n σ' H' => n = ds.length - i ∧ i ≤ ds.length ∧ ∃ δ' fp', Rel C io H' σ' δ' fp' ex ∧ Kp H1 fp1 H' fp' ∧ I i δ', ⟨ds.length, rfl, Nat.zero_le _, δ1, fp1, R1, .refl _ _, h0⟩, ?_⟩
  rintro i n σ2 H2 ⟨rfl, hle, δ2, fp2, R2, k2, i2⟩
  have itk := it H2 (fun b o e q => k2.keep b o e (.inr (q.resolve_left (by decide)))) i
  by_cases hlt : i < ds.length
  · have hd : ds[i]? = some ds[i] := List.getElem?_eq_getElem hlt
    obtain ⟨go, yl⟩ := itk.1 _ hd
    refine .inr ⟨go, fun σ' H' => ∃ δ' fp', Rel C io H' σ' δ' fp' ex ∧ Kp H1 fp1 H' fp' ∧ I (i + 1) δ', fun σ' H' ⟨δ', fp', R', k', i'⟩ => ⟨ds.length - (i + 1), by omega, rfl, hlt, δ', fp', R', k', i'⟩, fun x H3 hy => ?_⟩
    obtain ⟨s3, q3⟩ := yl x H3 hy
    have R3 := R2.mk0 s3
    have k3 : Kp H1 fp1 H3 fp2 := k2.trans ⟨fun b o e _ => s3 _ _ e, fun z => (nomatch z), fun a z => .inl z, s3.al⟩
    refine sg C H3 σ2 δ2 fp2 ex x _ _ _ R3 (IterOk.at (H' := H2) (J := J) (ds := ds) k2.grow q3) (turn i _ δ2 hd i2) fun σ4 δ4 fp4 R4 k4 h4 => ?_
    have k5 := k3.trans k4
    refine sb C H3 σ4 δ4 fp4 ex _ _ R4 h4 ⟨fun H' σ' δ' fp' R' k' n' => ⟨δ', fp', R', k5.trans k', n'⟩, fun H' σ' δ' fp' R' k' n' => E.nx H' σ' δ' fp' R' (S1.kp.trans (k5.trans k')) n', fun H' σ' δ' fp' R' k' n' => ⟨δ', fp', R', k5.trans k', n'⟩, E.rt⟩
  · have e : i = ds.length := by omega
    subst e
    exact .inl ⟨itk.2 (by simp), E.nx H2 σ2 δ2 fp2 R2 (S1.kp.trans k2) (fin δ2 i2)⟩
end
noncomputable def gM (G : PySem.W.Frag) (io : List Nat) (c : Bool) (g : MGt) : TG := fun v σ H Q => ∃ (C : MC G) (δ : Zj) (fp : Fp) (ex : Addr → Prop) (d : PyData) (k : Zj → Prop), Rel C io H σ δ fp ex ∧ Da G H (fun a => c = true → Lf C fp ex a) v d ∧ g d δ k ∧
  ∀ σ' δ' fp', Rel C io H σ' δ' fp' ex → Kp H fp H fp' → k δ' → Q σ' H
noncomputable def tM (G : PySem.W.Frag) (io : List Nat) (p c : Bool) (m : MEt) : TE := fun σ H Q => ∃ (C : MC G) (δ : Zj) (fp : Fp) (ex : Addr → Prop) (K : OT → Zj → Prop), Rel C io H σ δ fp ex ∧ m δ K ∧ ∀ H' v r δ' fp' new, RE C io p c H σ δ fp ex H' v r δ' fp' new → K r δ' → Q v H'
noncomputable def ttM (G : PySem.W.Frag) (io : List Nat) (p : Bool) (m : MTt) : TT := fun σ H Q => ∃ (C : MC G) (δ : Zj) (fp : Fp) (ex : Addr → Prop) (K : Bool → Zj → Prop), Rel C io H σ δ fp ex ∧ m δ K ∧ ∀ H' b δ' fp', Rel C io H' σ δ' fp' ex → Stp p H δ fp H' δ' fp' → K b δ' → Q b H'
noncomputable def MIfs (X : Cx) (io : List Nat) (p : Bool) (ifs : List Expr) (m : MTt) : Prop := ∃ t, Zw7 X ifs t ∧ STt X.K io p t m
section
variable {X : Cx} {io : List Nat} {p c : Bool} {e tg : Expr} {m : MEt} {mt : MTt} {g : MGt} {ifs : List Expr}
theorem MG.canon (h : MG X io c tg g) : PG X tg (gM X.K io c g) := by
  obtain ⟨t, A, s⟩ := h
  rintro pins sh σ H v u Q I r ⟨C, δ, fp, ex, d, k, R, q, h, kk⟩
  exact A pins sh σ H v u Q I r (s C H σ δ fp ex v d k Q R q h kk)
theorem ME.canon (h : ME X io p c e m) : PE X e (tM X.K io p c m) := by
  obtain ⟨t, A, s⟩ := h
  rintro pins sh σ H Q I ⟨C, δ, fp, ex, K, R, h, kk⟩
  exact A pins sh σ H Q I (s C H σ δ fp ex K Q R h kk)
theorem MIfs.canon (h : MIfs X io p ifs mt) : Zw7 X ifs (ttM X.K io p mt) := by
  obtain ⟨t, A, s⟩ := h
  rintro pins sh σ H Q I ⟨C, δ, fp, ex, K, R, h, kk⟩
  exact A pins sh σ H Q I (s C H σ δ fp ex K Q R h kk)
noncomputable def Zxp : MTt := fun δ K => K true δ
theorem Zbm : MIfs X io true [] Zxp := ⟨_, Zwr, fun C H σ δ fp ex K Q R h kk => kk H true δ fp R (.refl _ _ _ _) h⟩
end
end L2
namespace L2
open PySem PySem.Spec PyProof.Rows
variable {G : PySem.W.Frag}
noncomputable def blk (n : Nat) (caps : List Nat) (δ : Zj) : Zj := List.replicate n none ++ caps.map fun i => (δ[i]?).getD none
noncomputable def J7 (n : Nat) (caps : List Nat) (fp : Fp) : Fp := fun k => if k < n then [] else match caps[k - n]? with | some i => fp i | none => []
noncomputable def Zct (n : Nat) (caps : List Nat) : List Nat := (List.range caps.length).map (· + n)
noncomputable def Ztk (C : MC G) (H1 : Hp) (fp : Fp) (σ0 : St) : MC G := ⟨H1, Foot fp, fun a => (C.L a ∨ C.H₀ a = none) ∧ ¬ Foot fp a, σ0⟩
noncomputable def Zfg (ex : Addr → Prop) (D : Addr) (fp fpb : Fp) (a : Addr) : Prop := ex a ∨ a = D ∨ (Foot fp a ∧ ¬ Foot fpb a)
section
variable {C : MC G} {io : List Nat} {H1 H' : Hp} {σ : St} {δ : Zj} {fp : Fp} {ex : Addr → Prop} {own : List Str} {caps : List Nat} {D : Addr} {n : Nat}
theorem Zc3 {k : Nat} {a : Addr} (h : a ∈ J7 n caps fp k) : ∃ i, n ≤ k ∧ caps[k - n]? = some i ∧ a ∈ fp i := by
  unfold J7 at h
  split at h
  · exact nomatch h
  · split at h
    · rename_i i e
      exact ⟨i, by omega, e, h⟩
    · exact nomatch h
theorem Zsb {j i : Nat} (h : caps[j]? = some i) : J7 n caps fp (n + j) = fp i := by
  unfold J7
  rw [if_neg (by omega), show n + j - n = j by omega, h]
theorem Zz2 {k : Nat} {t : OT} (h : (blk n caps δ)[k]? = some (some t)) : ∃ i, n ≤ k ∧ caps[k - n]? = some i ∧ δ[i]? = some (some t) := by
  unfold blk at h
  rw [List.getElem?_append] at h
  split at h
  · rw [List.getElem?_replicate] at h
    split at h <;> cases h
  · rename_i hk
    rw [List.length_replicate] at hk h
    rw [List.getElem?_map] at h
    cases e : caps[k - n]? with
    | none => rw [e] at h; cases h
    | some i =>
      rw [e] at h
      refine ⟨i, by omega, rfl, ?_⟩
      simp only [Option.map_some] at h
      cases e2 : δ[i]? with
      | none => rw [e2] at h; cases h
      | some o =>
        rw [e2] at h
        simpa using h
theorem Rel.block (R : Rel C io H1 σ δ fp ex) (nd : caps.Nodup) (hD : H1 D = none) :
    Rel (Ztk C H1 fp (Zao own caps σ)) (Zct own.length caps) (upd H1 D (.lst [])) (Zao own caps σ) (blk own.length caps δ) (J7 own.length caps fp) (Zfg ex D fp (J7 own.length caps fp)) := by
  have s := Wq hD (.lst [])
  have sub : ∀ a, Foot (J7 own.length caps fp) a → Foot fp a := fun a q91 => by
    obtain ⟨k, z⟩ := q91
    obtain ⟨i, _, _, z⟩ := Zc3 z
    exact ⟨i, z⟩
  have neD : ∀ a, H1 a ≠ none → a ≠ D := fun a h z => h (z ▸ hD)
  refine ⟨by unfold Zao blk; simp, fun k t e => ?_, fun k h => ?_, fun k => ?_, fun k l a h1 h2 => ?_, fun k a h z => ?_, fun a z => ?_, fun b o e _ => s _ _ e, fun b e => s.free e, fun k a h => ?_, fun k _ => rfl⟩
  · obtain ⟨i, hk, e1, e2⟩ := Zz2 e
    obtain ⟨v, e3, o⟩ := R.own i t e2
    refine ⟨v, ?_, ?_⟩
    · unfold Zao
      rw [List.getElem?_append_right (by simpa using hk), List.length_map, List.getElem?_map, e1]
      simp [e3]
    · have ef : J7 own.length caps fp k = fp i := by
        have := Zsb (n := own.length) (fp := fp) e1
        rwa [show own.length + (k - own.length) = k by omega] at this
      rw [ef]
      refine (o.wide fun a l q => ⟨fun z => l.1 (sub a z), fun z => ?_, .inl ⟨l.2.2, l.1⟩⟩).same s
      rcases z with z | z | z
      · exact l.2.1 z
      · exact neD a q z
      · exact l.1 z.1
  · unfold J7
    split
    · rfl
    · split
      · rename_i i e1
        refine R.emp i fun t z => h t ?_
        unfold blk
        rw [List.getElem?_append_right (by rw [List.length_replicate]; omega), List.length_replicate, List.getElem?_map, e1]
        simp [z]
      · rfl
  · unfold J7
    split
    · exact .nil
    · split
      · exact R.nd _
      · exact .nil
  · obtain ⟨i, hk, e1, m1⟩ := Zc3 h1
    obtain ⟨j, hl, e2, m2⟩ := Zc3 h2
    have := R.dj i j a m1 m2
    subst this
    have hlt := (List.getElem?_eq_some_iff.mp e1).1
    have := (List.getElem?_inj hlt nd).mp (e1.trans e2.symm)
    omega
  · obtain ⟨i, hk, e1, m⟩ := Zc3 h
    rcases z with z | z | z
    · exact R.dx i a m z
    · exact R.footSome (z ▸ hD) ⟨i, m⟩
    · exact z.2 ⟨k, h⟩
  · rcases z with z | z | z
    · intro q; exact R.xa a z (s.free q)
    · subst z; rw [Ym]; intro q; cases q
    · obtain ⟨xs, e⟩ := R.foot z.1
      rw [s _ _ e]; intro q; cases q
  · obtain ⟨i, hk, e1, m⟩ := Zc3 h
    refine .inl ⟨?_, ⟨i, m⟩⟩
    have := (List.getElem?_eq_some_iff.mp e1).1
    exact List.mem_map.mpr ⟨k - own.length, by simpa using this, by omega⟩
theorem Zyo {σ0 : St} {fp' : Fp} {ex' : Addr → Prop} {a : Addr} (hx : ∀ a, ex a → ex' a) (l : Lf (Ztk C H1 fp σ0) fp' ex' a) : Lf C fp ex a ∨ H1 a = none := by
  obtain ⟨l1, l2, l3⟩ := l
  rcases l3 with l3 | l3
  · exact .inl ⟨l3.2, fun z => l2 (hx a z), l3.1⟩
  · exact .inr l3
theorem Rel.poke (R : Rel C io H' σ δ fp ex) {xs ys : List V} (hx : ex D) (hD : H' D = some (.lst xs)) (h0 : C.H₀ D = none) : Rel C io (upd H' D (.lst ys)) σ δ fp ex := by
  have nf : ¬ Foot fp D := fun ⟨i, z⟩ => R.dx i D z hx
  have kp : ∀ b o, b ≠ D → H' b = some o → upd H' D (.lst ys) b = some o := fun b o n e => by rw [Yc n]; exact e
  refine ⟨R.len, fun i t e => ?_, R.emp, R.nd, R.dj, R.dx, fun a z => ?_, fun b o e n => ?_, fun b e => ?_, R.new, R.io⟩
  · obtain ⟨v, e1, o⟩ := R.own i t e
    refine ⟨v, e1, o.frame (fun a zs l q => ⟨l, ?_⟩) (fun a zs q => kp a _ (fun z => ?_) q) fun a m zs q => kp a _ (fun z => nf ⟨i, z ▸ m⟩) q⟩
    · have na : a ≠ D := fun z => l.2.1 (z ▸ hx)
      rcases q with q | ⟨u, q⟩
      · exact .inl (kp a _ na q)
      · exact .inr ⟨u, kp a _ na q⟩
    · exact ImO.nl q (z ▸ hD)
  · by_cases e : a = D
    · subst e; rw [Ym]; intro q; cases q
    · rw [Yc e]; exact R.xa a z
  · refine kp b o (fun z => ?_) (R.fr b o e n)
    rw [z, h0] at e; cases e
  · refine R.al b ?_
    by_cases q : b = D
    · subst q; rw [Ym] at e; cases e
    · rwa [Yc q] at e
theorem Owns.poke {L : Addr → Prop} {xs ys zs : List V} {rs : List OT} {as : List Addr} (o : Owns G H' L zs rs as) (hD : H' D = Option.some (HO.lst xs)) (hL : ¬ L D) (hn : D ∉ as) : Owns G (upd H' D (.lst ys)) L zs rs as := by
  refine o.frame (fun a zs l q => ⟨l, ?_⟩) (fun a zs q => ?_) fun a m zs q => ?_
  · have na : a ≠ D := fun z => hL (z ▸ l)
    rcases q with q | ⟨u, q⟩
    · exact .inl (by rw [Yc na]; exact q)
    · exact .inr ⟨u, by rw [Yc na]; exact q⟩
  · rw [Yc (fun z => ImO.nl q (z ▸ hD))]; exact q
  · have na : a ≠ D := fun z => hn (by rw [← z]; exact m)
    rw [Yc na]; exact q
theorem Owns.snoc {L : Addr → Prop} {xs : List V} {rs : List OT} {as bs : List Addr} {x : V} {r : OT} (h : Owns G H' L xs rs as) (k : Own G H' L x r bs) : Owns G H' L (xs ++ [x]) (rs ++ [r]) (as ++ bs) :=
  Owns.rec (motive_1 := fun _ _ _ _ => True) (motive_2 := fun xs rs as _ => Owns G H' L (xs ++ [x]) (rs ++ [r]) (as ++ bs)) (fun _ => trivial) (fun _ _ _ => trivial) (fun _ _ _ => trivial) (fun _ _ _ => trivial) (by have := Owns.cons k .nil; rwa [List.append_nil] at this) (fun k _ _ ih => by rw [List.append_assoc]; exact .cons k ih) h
end
structure Zs0 (C : MC G) (H1 : Hp) (fp1 : Fp) (ex : Addr → Prop) (n : Nat) (caps : List Nat) (σ0 : St) (D : Addr) (pb : Bool) (H' : Hp) (σ' : St) (δ' : Zj) (fp' : Fp) (ys : List V) (rs : List OT) (new : List Addr) : Prop where
  keep : ∀ b o, H1 b = some o → (pb = true ∨ ¬ Foot (J7 n caps fp1) b) → H' b = some o
  al : ∀ b, H' b = none → H1 b = none
  dat : H' D = some (.lst ys)
  rel : Rel (Ztk C H1 fp1 σ0) (Zct n caps) H' σ' δ' fp' (exu (Zfg ex D fp1 (J7 n caps fp1)) new)
  grow : ∀ a, Foot fp' a → Foot (J7 n caps fp1) a ∨ H1 a = none
  own : Owns G H' (fun a => true = true → Lf (Ztk C H1 fp1 σ0) fp' (exu (Zfg ex D fp1 (J7 n caps fp1)) new) a) ys rs new
  nd : new.Nodup
  fresh : ∀ a ∈ new, H1 a = none ∧ a ≠ D
section
variable {io : List Nat} {p c pt pe ci : Bool} {g : MGt} {mt : MTt} {me : MEt} {own : List Str} {caps : List Nat}
theorem Zpn {C : MC G} {H1 : Hp} {σ : St} {δ1 : Zj} {fp1 : Fp} {ex : Addr → Prop} {J : It} {ds : List PyData} {D : Addr} {Qf : Hp → Prop} (I : Nat → List OT → Zj → Prop) (R1 : Rel C io H1 σ δ1 fp1 ex)
    (it : ∀ H' : Hp, (∀ b o, H1 b = some o → ((pt && pe) = true ∨ ¬ Foot (J7 own.length caps fp1) b) → H' b = some o) → ∀ i : Nat, (∀ d, ds[i]? = some d → J.go i H' ∧ ∀ x H'', J.yld i H' x H'' → Same H' H'' ∧ Da G H'' (fun a => ci = true → (Lf C fp1 ex a ∧ H1 a ≠ none)) x d) ∧ (ds[i]? = none → J.stop i H'))
    (nd : caps.Nodup) (hD : H1 D = none) (hz : ds.length ≤ sizeLine) (h0 : I 0 [] (blk own.length caps δ1))
    (turn : ∀ (i : Nat) (d : PyData) (rs : List OT) (δ' : Zj), ds[i]? = some d → I i rs δ' → g d δ' fun δ2 => mt δ2 fun b δ3 => if b = true then me δ3 fun r δ4 => I (i + 1) (rs ++ [r]) δ4 else I (i + 1) rs δ3)
    (fin : ∀ H' σ' δ' fp' ys rs new, Zs0 C H1 fp1 ex own.length caps (Zao own caps σ) D (pt && pe) H' σ' δ' fp' ys rs new → I ds.length rs δ' → Qf H') :
    Zwh J (gM G (Zct own.length caps) ci g) (ttM G (Zct own.length caps) pt mt) (tM G (Zct own.length caps) pe true me) (Zao own caps σ) D Qf H1 := by
  have hx : Zfg ex D fp1 (J7 own.length caps fp1) D := .inr (.inl rfl)
  refine ⟨fun i n σ' H' => n = ds.length - i ∧ i ≤ ds.length ∧ ∃ rs ys new δ' fp', Zs0 C H1 fp1 ex own.length caps (Zao own caps σ) D (pt && pe) H' σ' δ' fp' ys rs new ∧ ys.length ≤ i ∧ I i rs δ', ⟨ds.length, rfl, Nat.zero_le _, [], [], [], _, _, ⟨fun b o e _ => Wq hD _ _ _ e, (Wq hD _).al, Ym, ?_, fun a z => .inl z, .nil, .nil, fun a m => (nomatch m)⟩, Nat.le_refl _, h0⟩, ?_⟩
  · exact (R1.block nd hD).drop fun a z => Zb3.mp z
  rintro i n σ2 H2 ⟨rfl, hle, rs, ys, new, δ2, fp2, B, hl, i2⟩
  have subB : ∀ b, Foot (J7 own.length caps fp1) b → Foot fp1 b := fun b q92 => by
    obtain ⟨k, z⟩ := q92
    obtain ⟨i, _, _, z⟩ := Zc3 z
    exact ⟨i, z⟩
  have itk := it H2 B.keep i
  by_cases hlt : i < ds.length
  case neg =>
    have e : i = ds.length := by omega
    subst e
    exact .inl ⟨itk.2 (by simp), fin H2 σ2 δ2 fp2 ys rs new B i2⟩
  have hd : ds[i]? = some ds[i] := List.getElem?_eq_getElem hlt
  obtain ⟨go, yl⟩ := itk.1 _ hd
  refine .inr ⟨go, fun x H3 hy => ?_⟩
  obtain ⟨s3, q3⟩ := yl x H3 hy
  have R3 := B.rel.mk0 s3
  have D3 : H3 D = some (.lst ys) := s3 _ _ B.dat
  -- the item, clean in the block
  have q3' : Da G H3 (fun a => ci = true → Lf (Ztk C H1 fp1 (Zao own caps σ)) fp2 (exu (Zfg ex D fp1 (J7 own.length caps fp1)) new) a) x ds[i] := by
    refine q3.wide fun a l _ z => ?_
    obtain ⟨⟨l1, l2, l3⟩, l4⟩ := l z
    refine ⟨fun w => ?_, fun w => ?_, .inl ⟨l3, l1⟩⟩
    · rcases B.grow a w with w | w
      · exact l1 (subB a w)
      · exact l4 w
    · rcases w with (w | w | w) | w
      · exact l2 w
      · subst w; exact l4 hD
      · exact l1 w.1
      · exact l4 (B.fresh a w).1
  refine ⟨_, δ2, fp2, _, _, _, R3, q3', turn i _ rs δ2 hd i2, fun σ4 δ4 fp4 R4 k4 h4 => ?_⟩
  refine ⟨_, δ4, fp4, _, _, R4, h4, fun H5 b δ5 fp5 R5 S5 h5 => ?_⟩
  -- the state behind the test
  have keep5 : ∀ b o, H1 b = some o → ((pt && pe) = true ∨ ¬ Foot (J7 own.length caps fp1) b) → H5 b = some o := fun b o e q => by
    refine S5.keep b o (s3 _ _ (B.keep b o e q)) ?_
    rcases q with q | q
    · rw [Bool.and_eq_true] at q; exact .inl q.1
    · refine .inr fun z => ?_
      rcases k4.grow b z with z | z
      · rcases B.grow b z with z | z
        · exact q z
        · rw [e] at z; cases z
      · rw [s3 _ _ (B.keep b o e (.inr q))] at z; cases z
  have al5 : ∀ b, H5 b = none → H1 b = none := fun b e => B.al b (s3.al b (S5.al b e))
  have grow4 : ∀ a, Foot fp4 a → Foot (J7 own.length caps fp1) a ∨ H1 a = none := fun a z => by
    rcases k4.grow a z with z | z
    · exact B.grow a z
    · exact .inr (B.al a (s3.al a z))
  have grow5 : ∀ a, Foot fp5 a → Foot (J7 own.length caps fp1) a ∨ H1 a = none := fun a z => by
    rcases S5.grow a z with z | z
    · exact grow4 a z
    · exact .inr (B.al a (s3.al a z))
  have D5 : H5 D = some (.lst ys) := S5.keep D _ D3 (.inr fun ⟨k, z⟩ => R4.dx k D z (.inl hx))
  have own3 := B.own.same s3
  -- the items so far behind the target and the test
  have own4 : Owns G H3 (fun a => true = true → Lf (Ztk C H1 fp1 (Zao own caps σ)) fp4 (exu (Zfg ex D fp1 (J7 own.length caps fp1)) new) a) ys rs new := by
    refine own3.wide fun a l q z => ?_
    obtain ⟨l1, l2, l3⟩ := l z
    exact ⟨fun w => (k4.grow a w).elim l1 q, l2, l3⟩
  have own5 := R4.owns_step (ex' := exu (Zfg ex D fp1 (J7 own.length caps fp1)) new) S5 (c := true) (.inr rfl) (fun a z => .inl z) (fun a m => .inr m) own4
  dsimp only at h5 ⊢
  cases b with
  | false =>
    rw [if_neg Bool.false_ne_true] at h5 ⊢
    exact ⟨ds.length - (i + 1), by omega, rfl, hlt, rs, ys, new, δ5, fp5, ⟨keep5, al5, D5, R5, grow5, own5, B.nd, B.fresh⟩, by omega, h5⟩
  | true =>
    rw [if_pos rfl] at h5 ⊢
    refine ⟨_, δ5, fp5, _, _, R5, h5, fun H6 v r δ6 fp6 nr r6 h6 => ?_⟩
    have D6 : H6 D = some (.lst ys) := r6.stp.keep D _ D5 (.inr fun ⟨k, z⟩ => R5.dx k D z (.inl hx))
    have hDnr : D ∉ nr := fun z => by
      have := r6.fresh D z
      rw [D5] at this; cases this
    have own6 := R5.owns_step (ex' := exu (exu (Zfg ex D fp1 (J7 own.length caps fp1)) new) nr) r6.stp (c := true) (.inr rfl) (fun a z => z.imp id fun z => r6.fresh a z) (fun a m => .inr m) own5
    have eqx : ∀ a, exu (Zfg ex D fp1 (J7 own.length caps fp1)) (new ++ nr) a → exu (exu (Zfg ex D fp1 (J7 own.length caps fp1)) new) nr a := fun a z => by
      rcases z with z | z
      · exact .inl (.inl z)
      · rcases List.mem_append.mp z with z | z
        · exact .inl (.inr z)
        · exact .inr z
    have lw : ∀ a, (true = true → Lf (Ztk C H1 fp1 (Zao own caps σ)) fp6 (exu (exu (Zfg ex D fp1 (J7 own.length caps fp1)) new) nr) a) → H6 a ≠ none → (true = true → Lf (Ztk C H1 fp1 (Zao own caps σ)) fp6 (exu (Zfg ex D fp1 (J7 own.length caps fp1)) (new ++ nr)) a) :=
      fun a l _ z => ⟨(l z).1, fun w => (l z).2.1 (eqx a w), (l z).2.2⟩
    have ownA := (own6.snoc r6.own).wide lw
    refine ⟨ys, D6, by omega, ds.length - (i + 1), by omega, rfl, hlt, rs ++ [r], ys ++ [v], new ++ nr, δ6, fp6, ⟨fun b o e q => ?_, fun b e => ?_, Ym, ?_, fun a z => ?_, ?_, ?_, fun a m => ?_⟩, by rw [List.length_append]; show ys.length + 1 ≤ i + 1; omega, h6⟩
    · have nD : b ≠ D := fun z => by rw [z, hD] at e; cases e
      rw [Yc nD]
      refine r6.stp.keep b o (keep5 b o e q) ?_
      rcases q with q | q
      · rw [Bool.and_eq_true] at q; exact .inl q.2
      · refine .inr fun z => ?_
        rcases grow5 b z with z | z
        · exact q z
        · rw [e] at z; cases z
    · by_cases q : b = D
      · subst q; rw [Ym] at e; cases e
      · rw [Yc q] at e
        exact al5 b (r6.stp.al b e)
    · exact (r6.rel.drop eqx).poke (.inl hx) D6 hD
    · rcases r6.stp.grow a z with z | z
      · exact grow5 a z
      · exact .inr (al5 a z)
    · exact ownA.poke D6 (fun z => (z rfl).2.1 (.inl hx)) (fun m => by
        rcases List.mem_append.mp m with m | m
        · exact (B.fresh D m).2 rfl
        · exact hDnr m)
    · refine List.nodup_append.mpr ⟨B.nd, r6.nd, fun a m b m' z => ?_⟩
      subst z
      obtain ⟨xs, e⟩ := own5.some a m
      rw [r6.fresh a m'] at e; cases e
    · rcases List.mem_append.mp m with m | m
      · exact B.fresh a m
      · exact ⟨al5 a (r6.fresh a m), fun z => hDnr (z ▸ m)⟩
end
end L2
namespace L2
open PySem PySem.Spec PyProof.Rows
variable {G : PySem.W.Frag}
section
variable {X : Cx} {io : List Nat} {p p' c pt pe ci : Bool} {g : MGt} {mt : MTt} {me m : MEt} {mi : MIt} {own : List Str} {caps : List Nat} {e : Expr}
noncomputable def Z07 (n : Nat) (caps : List Nat) (ds : List PyData) (g : MGt) (mt : MTt) (me : MEt) (δ1 : Zj) (K : OT → Zj → Prop) : Prop := ds.length ≤ sizeLine ∧ ∃ I : Nat → List OT → Zj → Prop, I 0 [] (blk n caps δ1) ∧
  (∀ (i : Nat) (d : PyData) (rs : List OT) (δ' : Zj), ds[i]? = some d → I i rs δ' → g d δ' fun δ2 => mt δ2 fun b δ3 => if b = true then me δ3 fun r δ4 => I (i + 1) (rs ++ [r]) δ4 else I (i + 1) rs δ3) ∧
  ∀ rs δ', I ds.length rs δ' → K (.nd rs) δ1
noncomputable def Zgq (n : Nat) (caps : List Nat) (mi : MIt) (g : MGt) (mt : MTt) (me : MEt) : MEt := fun δ K => mi δ fun ds δ1 => Z07 n caps ds g mt me δ1 K
theorem Zwg {wi : TI} (si : SI G io p ci wi mi) (nd : caps.Nodup) (hp : (pt && pe) = true) :
    SE G io p true (Zvg own caps wi (gM G (Zct own.length caps) ci g) (ttM G (Zct own.length caps) pt mt) (tM G (Zct own.length caps) pe true me)) (Zgq own.length caps mi g mt me) := by
  intro C H σ δ fp ex K Q R h k
  refine si C H σ δ fp ex _ _ R h fun J H1 ds δ1 fp1 R1 S1 it h1 D hD => ?_
  obtain ⟨hz, I, h0, turn, fin⟩ := h1
  refine Zpn I R1 (fun H' kp => it H' fun b o e _ => kp b o e (.inl hp)) nd hD hz h0 turn fun H' σ' δ' fp' ys rs new B i' => ?_
  have s : Same H1 H' := fun b o e => B.keep b o e (.inl hp)
  refine k H' (.ref D) (.nd rs) δ1 fp1 (D :: new) (RE.tree R R1 S1 s (fun a m => ?_) (List.nodup_cons.mpr ⟨fun m => (B.fresh D m).2 rfl, B.nd⟩) (.nd B.dat (B.own.wide fun a l _ => ?_))) (fin rs δ' i')
  · rcases List.mem_cons.mp m with rfl | m
    · exact hD
    · exact (B.fresh a m).1
  · refine ⟨?_, fun m => ?_⟩
    · rcases Zyo (fun a z => .inl (.inl z)) (l rfl) with z | z
      · exact .inl fun _ => z
      · exact .inr z
    · rcases List.mem_cons.mp m with z | z
      · exact (l rfl).2.1 (.inl (.inr (.inl z)))
      · exact (l rfl).2.1 (.inr z)
variable {N' : List Str} {sc : Scope} {tg elt iter : Expr} {ifs : List Expr} {pos : Pos}
theorem Zfz (S : CompScope X own caps N' sc) (hc : X.calm = true) (nd : caps.Nodup) (hi : MI X io p ci tg iter mi)
    (hg : ∀ C cells s₂ H₂ fp, MG (Jh X N' sc C cells s₂ H₂ fp) (Zct own.length caps) ci tg g) (ht : ∀ C cells s₂ H₂ fp, MIfs (Jh X N' sc C cells s₂ H₂ fp) (Zct own.length caps) pt ifs mt) (he : ∀ C cells s₂ H₂ fp, ME (Jh X N' sc C cells s₂ H₂ fp) (Zct own.length caps) pe true elt me)
    (hp : (pt && pe) = true := by rfl) (hs : ∀ x, foldedSetIterable iter X.env x = pure x := by intro _; rfl) : ME X io p true (.ListComp elt [⟨tg, iter, ifs, 0⟩] sc pos) (Zgq own.length caps mi g mt me) := by
  obtain ⟨_, A, si⟩ := hi
  exact ⟨_, Zul S hc A (fun C cells s₂ H₂ fp => (hg C cells s₂ H₂ fp).canon) (fun C cells s₂ H₂ fp => (ht C cells s₂ H₂ fp).canon) (fun C cells s₂ H₂ fp => (he C cells s₂ H₂ fp).canon) hs, Zwg si nd hp⟩
section
variable {i : Nat} {y : Str} {py spos : Pos}
theorem Zet (own' : Bool) (hN : X.N.Nodup) (hy : X.N[i]? = some y) (hx : Loc X.env.scope y) (S : CompScope X own caps N' sc) (hc : X.calm = true) (nd : caps.Nodup) (hi : MI X io p ci tg iter mi)
    (hg : ∀ C cells s₂ H₂ fp, MG (Jh X N' sc C cells s₂ H₂ fp) (Zct own.length caps) ci tg g) (ht : ∀ C cells s₂ H₂ fp, MIfs (Jh X N' sc C cells s₂ H₂ fp) (Zct own.length caps) pt ifs mt) (he : ∀ C cells s₂ H₂ fp, ME (Jh X N' sc C cells s₂ H₂ fp) (Zct own.length caps) pe true elt me)
    (hp : (pt && pe) = true := by rfl) (hio : i ∉ io := by decide)
    (hsw : swapsWith (.ListComp elt [⟨tg, iter, ifs, 0⟩] sc pos) (some (.Name y py)) spos.line X.env = pure true := by rfl)
    (hs : ∀ x, foldedSetIterable iter X.env x = pure x := by intro _; rfl) (hf : X.fn y = true ∨ X.env.scope.names.lookup y = some .local := by first | exact .inl rfl | exact .inr rfl | assumption) :
    MS X io (.Assign [.Name y py] (.ListComp elt [⟨tg, iter, ifs, 0⟩] sc pos) spos) (if own' = true then Zm3 i (Zgq own.length caps mi g mt me) else Zw5 i (Zgq own.length caps mi g mt me)) := by
  obtain ⟨_, A, si⟩ := hi
  refine ⟨_, Zm8 (g := gM X.K (Zct own.length caps) ci g) (tt := ttM X.K (Zct own.length caps) pt mt) (te := tM X.K (Zct own.length caps) pe true me) hN hy hx S hc A (fun C cells s₂ H₂ fp => (hg C cells s₂ H₂ fp).canon) (fun C cells s₂ H₂ fp => (ht C cells s₂ H₂ fp).canon) (fun C cells s₂ H₂ fp => (he C cells s₂ H₂ fp).canon) hsw hs hf, ?_⟩
  cases own'
  · exact Z6p (Zwg si nd hp) hio
  · exact Zxg (Zwg si nd hp) hio
end
end
end L2
namespace L2
open PySem PySem.Spec PyProof.Rows
variable {G : PySem.W.Frag}
section
variable {X : Cx} {pins : List (Addr × Obj)} {σ : St} {H : Hp} {s : Shared} {l : Addr} {xs : List V}
noncomputable def Zx0 (K : PySem.W.Frag) : R2 := fun x y H Q => ∃ l b xs zs, x = .ref l ∧ y = .ref b ∧ SqL K H l xs ∧ SqL K H b zs ∧ xs.length + zs.length ≤ sizeLine ∧ ∀ p, H p = none → Q (.ref p) (upd H p (.lst (xs ++ zs)))
theorem Inv.lstQ {K : PySem.W.Frag} (hK : X.K = K) (I : Inv X pins σ H s) (hH : SqL K H l xs) : ∃ (its : List Value) (n : Nat), Vals xs its ∧ xs.length = its.length ∧ ∃ o, s.heap.get? l = some o ∧ o.cls = .type "list" ∧ o.dict = none ∧ o.data = .seq its.toArray n := by
  subst hK
  obtain ⟨its, r, ⟨o, n, e, h1, h2, h3⟩, _⟩ := I.list hH
  exact ⟨its, n, r, r.length, o, e, h1, h2, h3⟩
theorem Zki {K : PySem.W.Frag} (hK : X.K = K) : OpR X (binaryOp .Add) (Zx0 K) := by
  intro pins s σ H x y v u Q I rx ry h
  obtain ⟨l, b, xs, zs, rfl, rfl, hH, hB, hz, q⟩ := h
  cases rx
  cases ry
  obtain ⟨its, n, r, hl, ⟨cls, dd, data, sl⟩, ho, hc, _, hd⟩ := I.lstQ hK hH
  obtain ⟨its2, n2, r2, hl2, ⟨cls2, dd2, data2, sl2⟩, ho2, hc2, _, hd2⟩ := I.lstQ hK hB
  simp only at hc hd hc2 hd2
  subst hc hd hc2 hd2
  have ea : its.toArray ++ its2.toArray = (its ++ its2).toArray := by simp
  refine concat_meets ⟨_, ho, rfl⟩ ⟨_, ho2, rfl⟩ noFill_list_add seq_list_add PySem.F.slot_list_add PySem.F.entry_list_add (PySem.F.args_list_add_2 _ _) (list_addW l b its.toArray its2.toArray n n2 dd dd2 sl sl2 (by simp only [List.size_toArray]; omega)) ⟨ho, ho2, ?_⟩
  rw [ea]
  exact ⟨.ref _, _, I.lnew (t' := s.toks) (r.append r2) (by rw [List.length_append]; omega), rfl, q _ I.fresh⟩
end
noncomputable def asI (d : PyData) (k : Int → Prop) : Prop := match d with | .int i => k i | _ => False
noncomputable def asL (d : PyData) (k : List PyData → Prop) : Prop := match d with | .list ds => k ds | _ => False
section
variable {H : Hp} {L : Addr → Prop} {v : V} {d : PyData}
theorem Da.intInv {k : Int → Prop} (q : Da G H L v d) (h : asI d k) : ∃ i, v = .int i ∧ k i := by
  cases q with
  | int b => exact ⟨b, rfl, h⟩
  | _ => exact h.elim
theorem Da.lstInv {k : List PyData → Prop} (q : Da G H L v d) (h : asL d k) : ∃ a xs ds, v = .ref a ∧ SqL G H a xs ∧ Das G H L xs ds ∧ k ds := by
  cases q with
  | lst l e r => exact ⟨_, _, _, rfl, .inl e, r, h⟩
  | scr s => exact ⟨_, _, _, rfl, s.sq, .ints _, h⟩
  | _ => exact h.elim
end
noncomputable def d2I (C : Int → Int → Prop) (g : Int → Int → PyData) : PyData → PyData → (PyData → Prop) → Prop := fun d e k => asI d fun i => asI e fun j => C i j ∧ k (g i j)
noncomputable def Ztz (g : Int → Int → PyData) : PyData → PyData → (PyData → Prop) → Prop := fun d e k => asI d fun i => asI e fun j => k (g i j)
theorem J1 {C : Int → Int → Prop} {f : Int → Int → Int} : P2s G (rI C fun i j => .int (f i j)) (d2I C fun i j => .int (f i j)) := fun H L x y d e k Q hx hy h kk => by
  obtain ⟨i, rfl, h⟩ := hx.intInv h
  obtain ⟨j, rfl, h⟩ := hy.intInv h
  exact ⟨i, j, rfl, rfl, h.1, kk _ _ (.int _) h.2⟩
structure MulOk (i j : Int) : Prop where
  ok : IntMulOk i j
structure Z44 (i j : Int) : Prop where
  ok : DivOk i j
structure Z5n (i j : Int) : Prop where
  ok : Z1s i j
theorem J2 {f : Int → Int → Int} : P2s G (rI IntMulOk fun i j => .int (f i j)) (d2I MulOk fun i j => .int (f i j)) := fun H L x y d e k Q hx hy h kk => by
  obtain ⟨i, rfl, h⟩ := hx.intInv h
  obtain ⟨j, rfl, h⟩ := hy.intInv h
  exact ⟨i, j, rfl, rfl, h.1.ok, kk _ _ (.int _) h.2⟩
theorem Za7 {f : Int → Int → Int} : P2s G (rI DivOk fun i j => .int (f i j)) (d2I Z44 fun i j => .int (f i j)) := fun H L x y d e k Q hx hy h kk => by
  obtain ⟨i, rfl, h⟩ := hx.intInv h
  obtain ⟨j, rfl, h⟩ := hy.intInv h
  exact ⟨i, j, rfl, rfl, h.1.ok, kk _ _ (.int _) h.2⟩
theorem Zoo {f : Int → Int → Int} : P2s G (rI Z1s fun i j => .int (f i j)) (d2I Z5n fun i j => .int (f i j)) := fun H L x y d e k Q hx hy h kk => by
  obtain ⟨i, rfl, h⟩ := hx.intInv h
  obtain ⟨j, rfl, h⟩ := hy.intInv h
  exact ⟨i, j, rfl, rfl, h.1.ok, kk _ _ (.int _) h.2⟩
theorem Yi {f : Int → Int → Int} : P2s G (rI0 fun i j => .int (f i j)) (Ztz fun i j => .int (f i j)) := fun H L x y d e k Q hx hy h kk => by
  obtain ⟨i, rfl, h⟩ := hx.intInv h
  obtain ⟨j, rfl, h⟩ := hy.intInv h
  exact ⟨i, j, rfl, rfl, kk _ _ (.int _) h⟩
theorem Zcg {f : Int → Int → Bool} : P2s G (rI0 fun i j => .bl (f i j)) (Ztz fun i j => .bool (f i j)) := fun H L x y d e k Q hx hy h kk => by
  obtain ⟨i, rfl, h⟩ := hx.intInv h
  obtain ⟨j, rfl, h⟩ := hy.intInv h
  exact ⟨i, j, rfl, rfl, kk _ _ (.bl _) h⟩
section
variable {X : Cx}
noncomputable def Z6e (K : PySem.W.Frag) : R2 := fun x y H Q => ∃ (L L' : Addr → Prop) (d e : PyData), Da K H L x d ∧ Da K H L' y e ∧ Shp d ∧ Shp e ∧ Q (.bl (PyData.eqv d e)) H
noncomputable def Z54 (K : PySem.W.Frag) : R2 := fun x y H Q => ∃ (L L' : Addr → Prop) (d e : PyData), Da K H L x d ∧ Da K H L' y e ∧ Shp d ∧ Shp e ∧ Q (.bl (!PyData.eqv d e)) H
theorem Zjf (hu : X.A.units + 64 < cLine) : OpR X (compareOp .Eq) (Z6e X.K) := by
  intro pins s σ H x y v u Q I rx ry h
  obtain ⟨L, L', d, e, h1, h2, s1, s2, q⟩ := h
  obtain ⟨as, k1⟩ := h1.reads rfl I rx (SeqAt.canLay_of_shaped s1)
  obtain ⟨bs, k2⟩ := h2.reads rfl I ry (SeqAt.canLay_of_shaped s2)
  exact eq_dataH k1 k2 s1 s2 hu ⟨.bl _, H, I, rfl, q⟩
theorem Zd5 (hu : X.A.units + 64 < cLine) : OpR X (compareOp .NotEq) (Z54 X.K) := by
  intro pins s σ H x y v u Q I rx ry h
  obtain ⟨L, L', d, e, h1, h2, s1, s2, q⟩ := h
  obtain ⟨as, k1⟩ := h1.reads rfl I rx (SeqAt.canLay_of_shaped s1)
  obtain ⟨bs, k2⟩ := h2.reads rfl I ry (SeqAt.canLay_of_shaped s2)
  exact ne_dataH k1 k2 s1 s2 hu ⟨.bl _, H, I, rfl, q⟩
end
structure Zzw (d : PyData) : Prop where
  ok : Shp d
noncomputable def dEq : PyData → PyData → (PyData → Prop) → Prop := fun d e k => Zzw d ∧ Zzw e ∧ k (.bool (PyData.eqv d e))
noncomputable def dNe : PyData → PyData → (PyData → Prop) → Prop := fun d e k => Zzw d ∧ Zzw e ∧ k (.bool (!PyData.eqv d e))
theorem Zpy : P2s G (Z6e G) dEq := fun H L x y d e k Q hx hy h kk => ⟨L, L, d, e, hx, hy, h.1.ok, h.2.1.ok, kk _ _ (.bl _) h.2.2⟩
theorem Zhw : P2s G (Z54 G) dNe := fun H L x y d e k Q hx hy h kk => ⟨L, L, d, e, hx, hy, h.1.ok, h.2.1.ok, kk _ _ (.bl _) h.2.2⟩
noncomputable def Zdr : PyData → Bool
  | .none => true
  | _ => false
theorem Da.isNone {H : Hp} {L : Addr → Prop} {v : V} {d : PyData} (h : Da G H L v d) : decide (v = .non) = Zdr d := by
  cases h <;> rfl
noncomputable def Z5r : PyData → PyData → (PyData → Prop) → Prop := fun d e k => e = .none ∧ k (.bool (Zdr d))
theorem Zsx : P2s G (fun x y H Q => y = .non ∧ Q (.bl (decide (x = .non))) H) Z5r := fun H L x y d e k Q hx hy h kk => by
  obtain ⟨rfl, h⟩ := h
  cases hy
  exact ⟨rfl, by rw [hx.isNone]; exact kk _ _ (.bl _) h⟩
noncomputable def scD : PyData → Bool
  | .none => true
  | .bool _ => true
  | .int _ => true
  | .str _ => true
  | _ => false
noncomputable def eqS : PyData → PyData → Bool
  | .none, .none => true
  | .bool a, .bool b => a == b
  | .bool a, .int b => (if a then 1 else 0) == b
  | .int a, .bool b => a == (if b then 1 else 0)
  | .int a, .int b => a == b
  | .str a, .str b => a == b
  | _, _ => false
noncomputable def memS (d : PyData) (ds : List PyData) : Bool := ds.any fun e => eqS e d
theorem Da.toSc {H : Hp} {L : Addr → Prop} {v : V} {d : PyData} (h : Da G H L v d) (s : scD d = true) : ScD v d := by
  cases h with
  | non => exact .non
  | bl b => exact .bl b
  | int i => exact .int i
  | str x => exact .str x
  | _ => cases s
theorem Da.sc {H : Hp} {L : Addr → Prop} {v : V} {d : PyData} (h : Da G H L v d) (s : scD d = true) : Zf1 v = true := by
  cases h.toSc s <;> rfl
theorem Das.sc {H : Hp} {L : Addr → Prop} {vs : List V} {ds : List PyData} (h : Das G H L vs ds) : ds.all scD = true → vs.all Zf1 = true :=
  Das.ind (Q := fun vs ds => ds.all scD = true → vs.all Zf1 = true) (fun _ => rfl) (fun h _ r s => by
    rw [List.all_cons, Bool.and_eq_true] at s
    rw [List.all_cons, h.sc s.1, r s.2]; rfl) h
theorem Da.eqS {H : Hp} {L : Addr → Prop} {v u : V} {d e : PyData} (h : Da G H L v d) (g : Da G H L u e) (s : scD d = true) (t : scD e = true) : eqV v u = L2.eqS d e := by
  cases h.toSc s <;> cases g.toSc t <;> rfl
theorem Das.memS {H : Hp} {L : Addr → Prop} {v : V} {d : PyData} (h : Da G H L v d) (s : scD d = true) {vs : List V} {ds : List PyData} (g : Das G H L vs ds) : ds.all scD = true → inV v vs = L2.memS d ds :=
  Das.ind (Q := fun vs ds => ds.all scD = true → inV v vs = L2.memS d ds) (fun _ => rfl) (fun g _ r t => by
    rw [List.all_cons, Bool.and_eq_true] at t
    have := r t.2
    unfold inV L2.memS at *
    rw [List.any_cons, List.any_cons, this, g.eqS h t.1 s]) g
noncomputable def dIn (neg : Bool) : PyData → PyData → (PyData → Prop) → Prop := fun d e k => scD d = true ∧ match e with
  | .list ds => ds.all scD = true ∧ k (.bool (if neg then !memS d ds else memS d ds))
  | .tuple ds => ds.all scD = true ∧ k (.bool (if neg then !memS d ds else memS d ds))
  | _ => False
theorem Zsg {neg : Bool} : P2s G (rIn G neg) (dIn neg) := fun H L x y d e k Q hx hy h kk => by
  obtain ⟨s, h⟩ := h
  cases hy with
  | lst l e r => exact ⟨_, _, rfl, .inl (.inl e), hx.sc s, r.sc h.1, by rw [Das.memS hx s r h.1]; exact kk _ _ (.bl _) h.2⟩
  | tup e r => exact ⟨_, _, rfl, .inr (.inl (.inl e)), hx.sc s, r.sc h.1, by rw [Das.memS hx s r h.1]; exact kk _ _ (.bl _) h.2⟩
  | scr ks => exact ⟨_, _, rfl, .inl ks.sq, hx.sc s, (Das.ints (G := G) (H := H) (L := L) _).sc h.1, by rw [Das.memS hx s (Das.ints (G := G) (H := H) (L := L) _) h.1]; exact kk _ _ (.bl _) h.2⟩
  | _ => exact h.elim
noncomputable def ixD (d e : PyData) : Option PyData := match d, e with
  | .list ds, .int i => atI ds i
  | .tuple ds, .int i => atI ds i
  | _, _ => none
noncomputable def dIx : PyData → PyData → (OT → Prop) → Prop := fun d e k => match ixD d e with | some x => k (.fz x) | none => False
theorem Das.atI {H : Hp} {L : Addr → Prop} {xs : List V} {ds : List PyData} {i : Int} {d : PyData} (h : Das G H L xs ds) (e : L2.atI ds i = some d) : ∃ x, L2.atI xs i = some x ∧ Da G H L x d := by
  unfold L2.atI at *
  rw [h.length]
  cases q : ixN ds.length i with
  | none => rw [q] at e; cases e
  | some j =>
    rw [q] at e
    exact h.get e
theorem Wm : P2 G (rIx G) dIx := fun H L x y d e k Q hx hy h kk => by
  unfold dIx at h
  split at h
  case h_2 => exact h.elim
  rename_i z ez
  have fin : ∀ v, Da G H L v z → Q v H := fun v q => kk H v (.fz z) [] (Same.refl _) (.fz (q.wide fun a l _ => ⟨.inl l, fun m => nomatch m⟩)) .nil (fun a m => nomatch m) h
  cases hx with
  | lst l e1 r =>
    cases hy with
    | int i =>
      obtain ⟨v, e2, q⟩ := r.atI (show L2.atI _ i = some z from ez)
      exact .inl ⟨_, _, i, v, rfl, rfl, .inl e1, e2, fin v q⟩
    | _ => cases ez
  | tup e1 r =>
    cases hy with
    | int i =>
      obtain ⟨v, e2, q⟩ := r.atI (show L2.atI _ i = some z from ez)
      exact .inr (.inl ⟨_, _, i, v, rfl, rfl, .inl (.inl e1), e2, fin v q⟩)
    | _ => cases ez
  | scr ks =>
    cases hy with
    | int i =>
      obtain ⟨v, e2, q⟩ := (Das.ints (G := G) (H := H) (L := L) _).atI (show L2.atI _ i = some z from ez)
      exact .inl ⟨_, _, i, v, rfl, rfl, ks.sq, e2, fin v q⟩
    | _ => cases ez
  | _ => cases ez
theorem Own.list {H : Hp} {L : Addr → Prop} {p : Addr} {xs : List V} {ds : List PyData} (hp : H p = none) (h : Das G H L xs ds) : Own G (upd H p (.lst xs)) (fun a => (L a ∨ H a = none) ∧ a ∉ [p]) (.ref p) (.nd (ds.map OT.fz)) [p] :=
  .nd Ym (((h.wide fun a l q => ⟨.inl l, fun m => q (by rw [List.mem_singleton.mp m]; exact hp)⟩).same (Wq hp _)).owns)
theorem Zdn {H : Hp} {p : Addr} (hp : H p = none) : ∀ a ∈ [p], H a = none := fun a m => by rw [List.mem_singleton.mp m]; exact hp
theorem Zez (p : Addr) : [p].Nodup := List.nodup_cons.mpr ⟨fun m => (nomatch m), .nil⟩
noncomputable def dCat : PyData → PyData → (OT → Prop) → Prop := fun d e k => asL d fun ds => asL e fun es => ds.length + es.length ≤ sizeLine ∧ k (.nd ((ds ++ es).map OT.fz))
theorem Zog : P2 G (Zx0 G) dCat := fun H L x y d e k Q hx hy h kk => by
  obtain ⟨a, xs, ds, rfl, e1, r1, h⟩ := hx.lstInv h
  obtain ⟨b, ys, es, rfl, e2, r2, h⟩ := hy.lstInv h
  exact ⟨a, b, xs, ys, rfl, rfl, e1, e2, by rw [r1.length, r2.length]; exact h.1, fun p hp => kk _ _ _ [p] (Wq hp _) (Own.list hp (r1.append r2)) (Zez p) (Zdn hp) h.2⟩
noncomputable def n1 (k : PyData → Prop) (ds : List PyData) : Prop := match ds with | [d] => k d | _ => False
noncomputable def n2 (k : PyData → PyData → Prop) (ds : List PyData) : Prop := match ds with | [d, e] => k d e | _ => False
theorem Das.one {H : Hp} {L : Addr → Prop} {vs : List V} {ds : List PyData} {k : PyData → Prop} (q : Das G H L vs ds) (h : n1 k ds) : ∃ v d, vs = [v] ∧ ds = [d] ∧ Da G H L v d ∧ k d := by
  cases q with
  | nil => exact h.elim
  | cons q r =>
    cases r with
    | nil => exact ⟨_, _, rfl, rfl, q, h⟩
    | cons _ _ => exact h.elim
noncomputable def Zrt : PyData → Option Nat
  | .list ds => some ds.length
  | .tuple ds => some ds.length
  | _ => none
noncomputable def Z6q : List PyData → (PyData → Prop) → Prop := fun ds k => n1 (fun d => match Zrt d with | some n => k (.int n) | none => False) ds
theorem J3 : PNs G (Z59 G) Z6q := fun H L xs ds k Q hx h kk => by
  obtain ⟨v, d, rfl, rfl, q, h⟩ := hx.one h
  cases q with
  | lst l e r => exact ⟨_, _, rfl, .inl (.inl e), by rw [r.length]; exact kk _ _ (.int _) h⟩
  | tup e r => exact ⟨_, _, rfl, .inr (.inl (.inl e)), by rw [r.length]; exact kk _ _ (.int _) h⟩
  | scr ks => exact ⟨_, _, rfl, .inl ks.sq, by rw [(Das.ints (G := G) (H := H) (L := L) _).length]; exact kk _ _ (.int _) h⟩
  | _ => exact h.elim
noncomputable def Z5t : List PyData → (PyData → Prop) → Prop := fun ds k => n1 (fun d => asI d fun i => k (.int (if i < 0 then -i else i))) ds
theorem Zps : PNs G (fun xs H Q => ∃ i, xs = [.int i] ∧ Q (.int (if i < 0 then -i else i)) H) Z5t := fun H L xs ds k Q hx h kk => by
  obtain ⟨v, d, rfl, rfl, q, h⟩ := hx.one h
  obtain ⟨i, rfl, h⟩ := q.intInv h
  exact ⟨i, rfl, kk _ _ (.int _) h⟩
noncomputable def Z5m : List PyData → (PyData → Prop) → Prop := fun ds k => n1 (fun d => match d with | .int i => k (.int i) | .bool b => k (.int (if b then 1 else 0)) | _ => False) ds
theorem Zxe : PNs G (fun xs H Q => (∃ i, xs = [.int i] ∧ Q (.int i) H) ∨ ∃ k, xs = [.bl k] ∧ Q (.int (if k then 1 else 0)) H) Z5m := fun H L xs ds k Q hx h kk => by
  obtain ⟨v, d, rfl, rfl, q, h⟩ := hx.one h
  cases q with
  | int i => exact .inl ⟨i, rfl, kk _ _ (.int _) h⟩
  | bl b => exact .inr ⟨b, rfl, kk _ _ (.int _) h⟩
  | _ => exact h.elim
noncomputable def Zs2 : PyData → Option (List PyData)
  | .list ds => some ds
  | .tuple ds => some ds
  | _ => none
section
variable {X : Cx} {io : List Nat} {p c : Bool} {a : Expr} {ma : MEt} {pos : Pos}
noncomputable def Z5i (m : MEt) : MEt := fun δ K => m δ fun r δ' => asI r.data fun i => K (.fz (.int (-i))) δ'
theorem Zsm (ha : ME X io p c a ma) : ME X io p true (.UnaryOp .USub a pos) (Z5i ma) := by
  obtain ⟨_, A, s⟩ := ha
  exact ⟨_, Z21 Zyc A, fun C H σ δ fp ex K Q R h k => s C H σ δ fp ex _ _ R h fun H' v r δ' fp' new r1 h1 => by
    obtain ⟨i, rfl, h1⟩ := (r1.da R).intInv h1
    exact ⟨i, rfl, k H' _ _ δ' fp' [] (.fz r1.base r1.stp (.int _)) h1⟩⟩
noncomputable def Zne (T : String) : PyData → Bool
  | .none => false
  | .bool _ => T == "bool" || T == "int"
  | .int _ => T == "int"
  | .str _ => T == "str"
  | .list _ => T == "list"
  | .tuple _ => T == "tuple"
  | .dict _ => false
noncomputable def Z5h (T : String) (m : MEt) : MEt := fun δ K => m δ fun r δ' => Zgp r.data = false ∧ K (.fz (.bool (Zne T r.data))) δ'
end
end L2
namespace L2
open PySem PySem.Spec PyProof.Rows
section
variable {prog : Program} {w : World} {A : Around} {E : Value → Shared → Prop} {h : Heap} {g : Array GenState} {d : Drawn} {t : Nat} {os : OsState} {a C : Addr} {o : Obj} {K : PySem.W.Frag}
theorem Zwc (M : Model) (hx : h.get? a = some o) (hc : o.cls = .ref C) : PySem.W.Looks M h (typeOf (.ref a)) (.ref C) := hc ▸ (PySem.W.Looks.ld hx).andThen .now
theorem Zrf {R : Result → Shared → Prop} (X : K.In h) (Z : Zh8 K C) (hx : h.get? a = some o) (hc : o.cls = .ref C) (hq : R (.ok (.ret (.ref C))) ⟨h, g, d, t, os⟩) :
    codeAny (model prog w) A (.call (.builtin "getset_descriptor.__get__") ⟨[.builtin "object.__class__", .ref a, .ref C], []⟩) R ⟨h, g, d, t, os⟩ := by
  have L1 : PySem.W.Looks (model prog w) h (isSubtype (.ref C) (.type (".".intercalate ("object.__class__".cutAt '.').dropLast))) true := by
    rw [F.owner_object_class]
    exact PySem.W.looks_subIn X Z.isO
  have T5 : (⟨h, g, d, t, os⟩ : Shared).TypeIs (.builtin "object.__class__") "getset_descriptor" := F.typeOf_object_class
  refine codeAny_call_builtin F.slot_gs_get.plain F.entry_gs_get (F.slot_gs_get.check _ _ _ _ _ _ _ _ T5 (F.args_gs_get _ _ _) ?_)
  repeat (any_goals (first | assumption | (with_reducible refine wpAny_loadPart_at hx ?_; rw [hc]) | (with_reducible refine wpAny_bind (PySem.W.Looks.at L1 ?_)) | (with_reducible refine PySem.W.Looks.at L1 ?_) | wp_step))
  refine ⟨Code.quiet_builtin _ (by decide +kernel), codeAny_builtin F.entry_object_class ?_⟩
  repeat (any_goals (first | assumption | (with_reducible refine wpAny_loadPart_at hx ?_; rw [hc]) | wp_step))
theorem Zm6 {tk : Tok} {Q : Fin → Shared → Prop} (X : K.In h) (Z : Zh8 K C) (hx : h.get? a = some o) (hc : o.cls = .ref C) (hq : Q (.done (.ret (.ref C))) ⟨h, g, d, t, os⟩) :
    wpAny (model prog w) A (Builtin.«object.__getattribute__» ⟨[.ref a, .str "__class__" tk], []⟩) Q E ⟨h, g, d, t, os⟩ := by
  have T5 : (⟨h, g, d, t, os⟩ : Shared).TypeIs (.builtin "object.__class__") "getset_descriptor" := F.typeOf_object_class
  have g5 := F.typeOf_object_class
  have g6 := F.slot_gs_get.lookup
  have g7 := F.slot_gs_set.lookup
  have L4 := PySem.W.looks_findIn (M := model prog w) X Z.cl
  repeat (any_goals (first | assumption | (with_reducible refine wpAny_loadPart_at hx ?_; rw [hc]) | (with_reducible refine wpAny_bind (PySem.W.Looks.at L4 ?_)) | (with_reducible refine PySem.W.Looks.at L4 ?_) | wp_step))
  refine Zrf X Z hx hc ?_
  repeat (any_goals (first | assumption | wp_step))
theorem Zmj {M : Model} {nameV : Value} {Q : Unit → Shared → Prop} (X : K.In h) (Z : Zh8 K C) (hx : h.get? a = some o) (hc : o.cls = .ref C) (hq : Q () ⟨h, g, d, t, os⟩) :
    wpAny M A (checkBuiltinCall "BaseException.__getattribute__" ⟨[.ref a, nameV], []⟩) Q E ⟨h, g, d, t, os⟩ := by
  have e1 : builtinKind "BaseException.__getattribute__" = some .slot := by decide +kernel
  have e2 : splitId "BaseException.__getattribute__" = some ("BaseException", "__getattribute__") := by decide +kernel
  have L1 := PySem.W.looks_subIn (M := M) X Z.isB
  have e3 := F.args_bexc_ga (.ref a) nameV
  simp only [checkBuiltinCall, e1, e2]
  refine wpAny_bind ?_
  unfold isInstance
  repeat (first | (with_reducible refine wpAny_loadPart_at hx ?_; rw [hc]) | (with_reducible refine wpAny_bind (PySem.W.Looks.at L1 ?_)) | (with_reducible refine PySem.W.Looks.at L1 ?_) | wp_step)
  exact hq
theorem Zo7 {tk : Tok} {R : Result → Shared → Prop} (X : K.In h) (Z : Zh8 K C) (hx : h.get? a = some o) (hc : o.cls = .ref C) (hq : R (.ok (.ret (.ref C))) ⟨h, g, d, t, os⟩) :
    codeAny (model prog w) A (.call (.builtin "BaseException.__getattribute__") ⟨[.ref a, .str "__class__" tk], []⟩) R ⟨h, g, d, t, os⟩ :=
  codeAny_call_builtin F.excAttr_ValueError.ga.plain F.entry_bexc_ga (Zmj X Z hx hc (Zm6 X Z hx hc hq))
theorem Zv5 {tk : Tok} {fill expr : Bool} {Q : Value → Shared → Prop} (X : K.In h) (Z : Zh8 K C) (hx : h.get? a = some o) (hc : o.cls = .ref C) (hq : Q (.ref C) ⟨h, g, d, t, os⟩) :
    wpAny (model prog w) A (getAttrBy (.ref a) (.str "__class__" tk) fill expr) Q E ⟨h, g, d, t, os⟩ := by
  have f3 := F.excAttr_ValueError.ga.bind (.ref a)
  have y0 : (expr && onTheHeap (Value.builtin "BaseException.__getattribute__")) = false := by cases expr <;> rfl
  have y2 : (Value.builtin "BaseException.__getattribute__" == Value.builtin "object.__getattribute__") = false := by decide +kernel
  have y1 : (onTheHeap (Value.ref C) && Value.builtin "BaseException.__getattribute__" == Value.builtin "object.__getattribute__") = false := by rw [y2]; rfl
  have L2 := PySem.W.looks_findIn (M := model prog w) X Z.ga
  have L3 := PySem.W.looks_findIn (M := model prog w) X Z.gt
  repeat (any_goals (first | assumption | (with_reducible refine wpAny_loadPart_at hx ?_; rw [hc]) | (with_reducible refine PySem.W.Looks.at L2 ?_) | (with_reducible refine PySem.W.Looks.at L3 ?_) | (with_reducible refine wpAny_bind (PySem.W.Looks.at L2 ?_)) | (with_reducible refine wpAny_bind (PySem.W.Looks.at L3 ?_)) | wp_step))
  refine Zo7 X Z hx hc ?_
  repeat (any_goals (first | assumption | wp_step))
theorem Zp4 {Q : Option Value → Shared → Prop} (X : K.In h) (Z : Zh8 K C) (hx : h.get? a = some o) (hc : o.cls = .ref C) (hq : Q (some (.ref C)) ⟨h, g, d, t + 1, os⟩) :
    wpAny (model prog w) A (getAttr? (.ref a) "__class__") Q E ⟨h, g, d, t, os⟩ := by
  unfold getAttr? getAttrBy?
  repeat (any_goals (first | assumption | with_reducible apply Zv5 X Z hx hc | wp_step))
end
theorem Zrb {K : PySem.W.Frag} {a C : Addr} (Z : Zh8 K C) : PySem.W.KitX K (.ref a) (.ref C) (fun h => ∃ o, h.get? a = some o ∧ o.cls = .ref C) where
  ty := fun M h _ p => let ⟨_, hx, hc⟩ := p; Zwc M hx hc
  it := fun M h X _ => by
    have z := Z.isC
    unfold PySem.W.clsIn at z
    split at z
    · rename_i ho
      intro A' Q' E' s' k q
      unfold isType loadHead
      exact wpAny_bind (wpAny_loadPart (k _ _ (X _ _ ho)) (wpAny_pure q))
    · cases z
  ne := fun h tp dd its n sl X htp => by
    have z := Z.isC
    refine Bool.eq_false_iff.mpr fun q => ?_
    have e : C = tp := Value.ref.inj (beq_iff_eq.mp q)
    subst e
    unfold PySem.W.clsIn at z
    split at z
    · rename_i ho
      have z := (X _ _ ho).symm.trans htp
      cases z
    · cases z
  ca := fun {_ _ _ _ _ s} X p k => by
    obtain ⟨h, g, d, t, os⟩ := s
    obtain ⟨_, hx, hc⟩ := p
    exact Zp4 X Z hx hc k
end L2
namespace L2
open PySem PySem.Spec PyProof.Rows
variable {G : PySem.W.Frag}
noncomputable def tyD : PyData → String
  | .none => "NoneType"
  | .bool _ => "bool"
  | .int _ => "int"
  | .str _ => "str"
  | .list _ => "list"
  | .tuple _ => "tuple"
  | .dict _ => "dict"
theorem Zte {K : PySem.W.Frag} {T : String} {d : PyData} (h : T = "int" ∨ T = "bool" ∨ T = "str" ∨ T = "list" ∨ T = "tuple") (hd : ∀ kvs, d ≠ .dict kvs) : PySem.W.kitOne K (.type (tyD d)) (.type T) = some (Zne T d) := by
  rcases h with rfl | rfl | rfl | rfl | rfl <;> cases d <;> first | rfl | (exact absurd rfl (hd _)) | (unfold PySem.W.kitOne PySem.W.kitCls; rfl) | (simp only [tyD, Zne]; decide +kernel)
noncomputable def Z2b (G : PySem.W.Frag) : List V → Hp → VK → Prop := fun xs H Q => ∃ (x : V) (T : String) (L : Addr → Prop) (d : PyData), xs = [x, .ty T] ∧ Da G H L x d ∧ Zgp d = false ∧ (T = "int" ∨ T = "bool" ∨ T = "str" ∨ T = "list" ∨ T = "tuple") ∧ Q (.bl (Zne T d)) H
theorem Zn5 {X : Cx} (hK : X.K = G) : Zeo X (.builtin "isinstance") (Z2b G) := by
  subst hK
  intro pins s σ H xs us Q I r h
  obtain ⟨x, T, L, d, rfl, q, hf, hT, h⟩ := h
  obtain ⟨u, w', rfl, r1, r2⟩ := vals2 r
  cases (show w' = Value.type T from r2)
  have fin : ∀ tk : Nat, EP X pins σ Q (.bool (Zne T d)) { s with toks := tk } := fun tk => ⟨.bl _, H, I.tok tk, rfl, h⟩
  cases q with
  | non => exact Zbe I r1 .non (Zte (d := .none) hT fun _ z => by cases z) fin
  | bl b => exact Zbe I r1 (.bl b) (Zte (d := .bool b) hT fun _ z => by cases z) fin
  | int b => exact Zbe I r1 (.int b) (Zte (d := .int b) hT fun _ z => by cases z) fin
  | str b => exact Zbe I r1 (.str b) (Zte (d := .str b) hT fun _ z => by cases z) fin
  | lst l e qs =>
    rename_i ds
    rcases e with e | ⟨o, e⟩
    · exact Zbe I r1 (.lst e) (Zte (d := .list ds) hT fun _ z => by cases z) fin
    · exact Zbe I r1 (.frz e) (Zte (d := .list ds) hT fun _ z => by cases z) fin
  | tup e qs =>
    rename_i ds
    exact Zbe I r1 (.tup e) (Zte (d := .tuple ds) hT fun _ z => by cases z) fin
  | scr ks =>
    rename_i a ns
    cases (show u = Value.ref a from r1)
    obtain ⟨its, vs, ⟨o, n, ho, hc, hd, hs⟩, _⟩ := I.list (ks.sq (H := H))
    exact PySem.W.kia_one PySem.W.kitx_list I.kIn ⟨o, ho, hc⟩ (Zte (d := .list (ns.map PyData.int)) hT fun _ z => by cases z) (fun z => nomatch z) fin
  | exc Z hn e =>
    rename_i a C x
    cases (show u = Value.ref a from r1)
    obtain ⟨⟨o, vs, ho, hc, _⟩, _, _⟩ := (show ObjOk X.prog X.w H s.heap a (.ext (ExO C a)) from I.hok a _ e)
    refine PySem.W.kia_one (Zrb Z) I.kIn ⟨o, ho, hc⟩ (b := Zne T (exD x)) ?_ (fun z => nomatch z) fin
    rcases hT with rfl | rfl | rfl | rfl | rfl
    · exact Z.k1
    · exact Z.k2
    · exact Z.k3
    · exact Z.k4
    · exact Z.k5
  | fn _ => cases hf
  | dic _ _ _ _ => unfold dcD Zgp at hf; cases hf
section
variable {X : Cx} {io : List Nat} {p c p' c' : Bool} {a b e : Expr} {ma m : MEt} {pos pp p2 : Pos} {K : PySem.W.Frag}
theorem Zqd {T : Str} {T' : String} (hT : T' = "int" ∨ T' = "bool" ∨ T' = "str" ∨ T' = "list" ∨ T' = "tuple") (hg : Gl X "isinstance") (hm : X.mg "isinstance" = none) (hv : bootBuiltins "isinstance" = some (.builtin "isinstance"))
    (hg2 : Gl X T) (hm2 : X.mg T = none) (hv2 : bootBuiltins T = some (.type T')) (ha : ME X io p c a ma) (hn : T ≠ "__name__" := by decide) (hd : (T == ("__debug__" : Str)) = false := by decide)
    (he : starEach [a, .Name T p2] X.env = (false, eval a X.env) :: starEach [.Name T p2] X.env := by rfl) (he2 : starEach [.Name T p2] X.env = (false, eval (.Name T p2) X.env) :: starEach [] X.env := by rfl) (hpl : (backTo pos (starEach [.Name T p2] X.env)).any (·.1) = false := by rfl) :
    ME X io p true (.Call (.Name "isinstance" pp) [a, .Name T p2] [] pos) (Z5h T' ma) := by
  obtain ⟨_, A, s⟩ := ha
  refine ⟨_, Ziq (Zn5 rfl) hg hm hv (Zb7 A (Zb7 (Zwj (v := .ty T') hg2 hm2 hv2 rfl hn hd) Zex he2) he) (by decide) (by decide) he hpl, ?_⟩
  intro C H σ δ fp ex K' Q R h k
  refine s C H σ δ fp ex _ _ R h fun H' v r δ' fp' new r1 h1 => ?_
  exact ⟨v, T', _, _, rfl, r1.da R, h1.1, hT, k H' _ _ δ' fp' [] (.fz r1.base r1.stp (.bl _)) h1.2⟩
noncomputable abbrev MOt := Zj → (Option Int → Zj → Prop) → Prop
noncomputable def MO (X : Cx) (io : List Nat) (p : Bool) (e : Option Expr) (m : MOt) : Prop := ∃ t, PO X e t ∧ ∀ (C : MC X.K) (H : Hp) (σ : St) (δ : Zj) (fp : Fp) (ex : Addr → Prop) (K : Option Int → Zj → Prop) (Q : Option Int → Hp → Prop), Rel C io H σ δ fp ex → m δ K →
  (∀ H' b δ' fp', Rel C io H' σ δ' fp' ex → Stp p H δ fp H' δ' fp' → K b δ' → Q b H') → t σ H Q
noncomputable def Zp2 : MOt := fun δ K => K none δ
noncomputable def Z0k (m : MEt) : MOt := fun δ K => m δ fun r δ' => asI r.data fun i => K (some i) δ'
theorem Zh6 : MO X io true none Zp2 := ⟨_, Zuc, fun C H σ δ fp ex K Q R h k => k H none δ fp R (.refl _ _ _ _) h⟩
theorem Zb8 (h : ME X io p c e m) : MO X io p (some e) (Z0k m) := by
  obtain ⟨_, A, s⟩ := h
  exact ⟨_, Zvi A, fun C H σ δ fp ex K Q R h k => s C H σ δ fp ex _ _ R h fun H' v r δ' fp' new r1 h1 => by
    obtain ⟨i, rfl, h1⟩ := (r1.da R).intInv h1
    exact ⟨i, rfl, k H' _ δ' fp' r1.base r1.stp h1⟩⟩
noncomputable def cutD (ds : List PyData) (lo hi : Option Int) : List PyData := (ds.drop (HT.sIx ds.length 0 lo)).take (HT.sIx ds.length ds.length hi - HT.sIx ds.length 0 lo)
theorem Das.cut {H : Hp} {L : Addr → Prop} {xs : List V} {ds : List PyData} (h : Das G H L xs ds) (lo hi : Option Int) : Das G H L (Zxa xs lo hi) (cutD ds lo hi) := by
  unfold Zxa cutD
  rw [h.length]
  exact (h.drop _).take _
noncomputable def mSl (m : MEt) (ml mh : MOt) : MEt := fun δ K => m δ fun r δ1 => ml δ1 fun lo δ2 => mh δ2 fun hi δ3 => asL r.data fun ds => K (.nd ((cutD ds lo hi).map OT.fz)) δ3
theorem Zny {lo hi : Option Expr} {ml mh : MOt} (ha : ME X io true c a ma) (hl : MO X io true lo ml) (hh : MO X io true hi mh) : ME X io true c (.Subscript a (.Slice lo hi none p2) pos) (mSl ma ml mh) := by
  obtain ⟨_, A, s⟩ := ha
  obtain ⟨_, B, sl⟩ := hl
  obtain ⟨_, D, sh⟩ := hh
  refine ⟨_, Zra (Zr8 rfl) A B D, ?_⟩
  intro C H σ δ fp ex K' Q R h k
  refine s C H σ δ fp ex _ _ R h fun H1 v r δ1 fp1 new r1 h1 => ?_
  refine sl C H1 σ δ1 fp1 ex _ _ r1.base h1 fun H2 l δ2 fp2 R2 S2 h2 => ?_
  refine sh C H2 σ δ2 fp2 ex _ _ R2 h2 fun H3 u δ3 fp3 R3 S3 h3 => ?_
  have s2 : Same H1 H2 := fun b o e => S2.keep b o e (.inl rfl)
  have s3 : Same H2 H3 := fun b o e => S3.keep b o e (.inl rfl)
  obtain ⟨e1, e2⟩ := r1.stp.env rfl
  obtain ⟨e3, e4⟩ := S2.env rfl
  obtain ⟨e5, e6⟩ := S3.env rfl
  have q := ((r1.da R).same s2).same s3
  obtain ⟨a', xs, ds, rfl, e, qs, h3⟩ := q.lstInv h3
  refine ⟨a', xs, rfl, e, fun p hp => ?_⟩
  have S := (r1.stp.trans S2).trans S3
  refine k _ _ _ δ3 fp3 [p] (RE.tree R R3 S (Wq hp _) (Zdn hp) (Zez p) (Own.list hp ((qs.cut l u).wide fun a l _ => ?_))) h3
  rw [e6, e4]
  exact l
theorem Owns.set {H : Hp} {L : Addr → Prop} {x : V} {r : OT} (hr : Own G H L x r []) : ∀ {xs : List V} {ts : List OT} {as : List Addr} (j : Nat), Owns G H L xs ts as → ∃ bs, Owns G H L (xs.set j x) (ts.set j r) bs ∧ bs.Sublist as
  | _, _, _, _, .nil => ⟨[], .nil, .refl _⟩
  | _, _, _, 0, .cons k t => ⟨_, .cons hr t, by simp⟩
  | _, _, _, j + 1, .cons (as := as) k t => by
    obtain ⟨bs, o, s⟩ := Owns.set hr j t
    exact ⟨as ++ bs, .cons k o, List.Sublist.append_left s as⟩
theorem Owns.get {H : Hp} {L : Addr → Prop} : ∀ {xs : List V} {ts : List OT} {as : List Addr} {j : Nat} {t : OT}, Owns G H L xs ts as → ts[j]? = Option.some t → ∃ x bs, xs[j]? = Option.some x ∧ Own G H L x t bs ∧ bs.Sublist as
  | _, _, _, _, _, .nil, e => by simp at e
  | _, _, _, 0, _, .cons k _, e => by simp at e; subst e; exact ⟨_, _, rfl, k, List.sublist_append_left _ _⟩
  | _, _, _, j + 1, t, .cons _ r, e => by
    obtain ⟨x, bs, h1, h2, h3⟩ := Owns.get (j := j) (t := t) r (by simpa using e)
    exact ⟨x, bs, by simpa using h1, h2, h3.trans (List.sublist_append_right _ _)⟩
theorem Rel.top {C : MC G} {H : Hp} {σ : St} {δ : Zj} {fp : Fp} {ex : Addr → Prop} {i : Nat} {ts ts' : List OT} {a' : Addr} {xs ys : List V} {bs bs' : List Addr} (R : Rel C io H σ δ fp ex) (hi : δ[i]? = some (some (.nd ts))) (hv : σ[i]? = some (some (.ref a')))
    (hf : fp i = a' :: bs) (hx : H a' = some (.lst xs)) (o : Owns G H (Lf C fp ex) ys ts' bs') (hs : bs'.Sublist bs) :
    Rel C io (upd H a' (.lst ys)) σ (δ.set i (some (.nd ts'))) (fpu fp i (a' :: bs')) ex ∧ Stp false H δ fp (upd H a' (.lst ys)) (δ.set i (some (.nd ts'))) (fpu fp i (a' :: bs')) := by
  have nd := R.nd i
  rw [hf] at nd
  have hn := List.nodup_cons.mp nd
  have hm : a' ∈ fp i := by rw [hf]; exact .head _
  have ne' : ∀ a, ¬ Foot fp a → a ≠ a' := fun a h z => h ⟨i, by rw [z]; exact hm⟩
  have kp : ∀ b o, H b = some o → b ≠ a' → upd H a' (.lst ys) b = some o := fun b o e n => by rw [Yc n]; exact e
  have sub : ∀ a, a ∈ a' :: bs' → a ∈ fp i := fun a m => by
    rw [hf]
    rcases List.mem_cons.mp m with rfl | m
    · exact .head _
    · exact .tail _ (hs.subset m)
  have o' : Owns G (upd H a' (.lst ys)) (Lf C (fpu fp i (a' :: bs')) (exu ex [])) ys ts' bs' := by
    have f0 : ∀ a, ¬ Foot fp a → ¬ Foot (fpu fp i (a' :: bs')) a := fun a h z => by
      rcases z.of_u with z | ⟨j, _, z⟩
      · exact h ⟨i, sub a z⟩
      · exact h ⟨j, z⟩
    have f1 : ∀ a (zs : MuO), Lf C fp ex a → Rd H a zs.ho → Lf C (fpu fp i (a' :: bs')) (exu ex []) a ∧ Rd (upd H a' (.lst ys)) a zs.ho := fun a zs l q => by
      refine ⟨⟨f0 a l.1, fun z => l.2.1 (Zb3.mp z), l.2.2⟩, ?_⟩
      rcases q with q | ⟨u, q⟩
      · exact .inl (kp a _ q (ne' a l.1))
      · exact .inr ⟨u, kp a _ q (ne' a l.1)⟩
    have f2 : ∀ a (zs : ImO), H a = some zs.ho → upd H a' (.lst ys) a = some zs.ho := fun a zs q => kp a _ q fun z => ImO.nl q (z ▸ hx)
    exact o.frame f1 f2 fun a m zs q => kp a _ q fun z => hn.1 (hs.subset (z ▸ m))
  have key := R.change (new := []) (as' := a' :: bs') (t' := .nd ts') (H' := upd H a' (.lst ys)) hi hv (fun b o e nb => kp b o e fun z => nb (by rw [z]; exact hm)) (fun b e => by
      by_cases q : b = a'
      · subst q; rw [Ym] at e; cases e
      · rwa [Yc q] at e) (.nd Ym o') (List.nodup_cons.mpr ⟨fun m => hn.1 (hs.subset m), hn.2.sublist hs⟩) (fun a m => .inl (sub a m)) (fun a m => nomatch m)
  exact ⟨key.1.drop fun a z => .inl z, key.2⟩
end
end L2
namespace L2
open PySem PySem.Spec PyProof.Rows
variable {G : PySem.W.Frag}
section
variable {X : Cx} {io : List Nat} {p c p' c' : Bool} {a b e : Expr} {ma m mi mj : MEt} {pos pp p2 apos cpos px : Pos} {K : PySem.W.Frag} {i : Nat} {x : Str}
theorem Rel.ownNd {C : MC G} {H : Hp} {σ : St} {δ : Zj} {fp : Fp} {ex : Addr → Prop} {ts : List OT} (R : Rel C io H σ δ fp ex) (hi : δ[i]? = some (some (.nd ts))) :
    ∃ a' xs bs, σ[i]? = some (some (.ref a')) ∧ H a' = some (.lst xs) ∧ Owns G H (Lf C fp ex) xs ts bs ∧ fp i = a' :: bs := by
  obtain ⟨v, e, o⟩ := R.own i _ hi
  generalize hf : fp i = as at o
  cases o with
  | nd h r => exact ⟨_, _, _, e, h, r, rfl⟩
noncomputable def Zh7 (i : Nat) (m : MEt) : MSt := fun D δ => match δ[i]? with
  | some (some (.nd _)) => m δ fun r δ1 => match δ1[i]? with
    | some (some (.nd ts)) => ts.length < sizeLine ∧ D.nx (δ1.set i (some (.nd (ts ++ [.fz r.data]))))
    | _ => False
  | _ => False
theorem Zjy (i : Nat) (he : ME X io p true e m) (hN : X.N[i]? = some x := by rfl) (hv : Vis X.env.scope x := by first | exact Or.inl rfl | exact Or.inr (Or.inl rfl) | exact Or.inr (Or.inr rfl)) (hd : (x == ("__debug__" : Str)) = false := by decide)
    (hcd : (x == ("__classdict__" : Str)) = false := by decide)
    (hbase : attributeBase (.Name x px) "append" X.env (eval (.Name x px) X.env) = eval (.Name x px) X.env := by rfl)
    (hfew : ((backTo cpos (starEach [e] X.env)).all (fun x => !x.1) && (backToKw cpos (keywordEach [] X.env)).all (fun x => x.1.isSome)
      && decide ([e].length + ([] : List Keyword).length + (if ([] : List Keyword).isEmpty then 0 else 1) < 30)) = true := by rfl)
    (hline : (apos.endLine == cpos.line) = true := by rfl) (hs : starEach [e] X.env = (false, eval e X.env) :: starEach [] X.env := by rfl) (hplain : (backTo cpos (starEach [] X.env)).any (·.1) = false := by rfl)
    (hsw : swapsWith (.Call (.Attribute (.Name x px) "append" apos) [e] [] cpos) none pos.line X.env = pure false := by rfl) :
    MS X io (.Expr (.Call (.Attribute (.Name x px) "append" apos) [e] [] cpos) pos) (Zh7 i m) := by
  obtain ⟨_, A, s⟩ := he
  refine ⟨_, Zk7 (Zq7 PySem.F.plainAttrs_list PySem.F.slot_list_append PySem.F.type_list_append Zi9 (pv i hN hv hd hcd) (Zb7 A Zex hs) hbase hfew hline hs hplain) hsw, fun C H σ δ fp ex D D' R h E => ?_⟩
  unfold Zh7 at h
  split at h
  case h_2 => exact h.elim
  rename_i ts0 hi0
  obtain ⟨a', xs0, bs0, hv0, hx0, _, _⟩ := R.ownNd hi0
  refine ⟨_, hv0, .inl ⟨rfl, xs0, .inl (.inl hx0)⟩, ?_⟩
  refine s C H σ δ fp ex _ _ R h fun H1 v r δ1 fp1 new r1 h1 => ?_
  split at h1
  case h_2 => exact h1.elim
  rename_i ts1 hi1
  have R1 := r1.base
  obtain ⟨a1, xs1, bs1, hv1, hx1, o1, hf1⟩ := R1.ownNd hi1
  rw [hv0] at hv1
  cases hv1
  have q := (r1.da R).wide (L' := Lf C fp1 ex) fun a l _ => l rfl
  refine ⟨a', xs1, v, rfl, rfl, hx1, by rw [o1.length]; exact h1.1, ?_⟩
  have o2 := o1.snoc (.fz q)
  obtain ⟨R2, S2⟩ := R1.top hi1 hv0 hf1 hx1 o2 (by simp)
  exact E.nx _ σ _ _ R2 (r1.stp.kp.trans S2.kp) h1.2
noncomputable def Zxn (i : Nat) (m mi mj : MEt) : MSt := fun D δ => m δ fun r δ1 => match δ1[i]? with
  | some (some (.nd ts)) => mi δ1 fun n _ => asI n.data fun k => match ixN ts.length k with
    | some j => match ts[j]? with
      | some (.nd us) => mj δ1 fun n' _ => asI n'.data fun k' => match ixN us.length k' with
        | some j' => D.nx (δ1.set i (some (.nd (ts.set j (.nd (us.set j' (.fz r.data)))))))
        | none => False
      | _ => False
    | none => False
  | _ => False
theorem SE.pureAfter {t : TE} {C : MC G} {H : Hp} {σ : St} {δ : Zj} {fp : Fp} {ex : Addr → Prop} {K' : OT → Zj → Prop} {Q : VK} (s : SE G io true c t m) (R : Rel C io H σ δ fp ex) (h : m δ K') (k : ∀ H' v r, Rel C io H' σ δ fp ex → Same H H' → Da G H' (fun a => c = true → Lf C fp ex a) v r.data → K' r δ → Q v H') : t σ H Q :=
  s C H σ δ fp ex _ _ R h fun H1 v r δ1 fp1 new r1 h1 => by
    obtain ⟨e1, e2⟩ := r1.stp.env rfl
    have q := r1.da R
    have R1 := r1.base
    rw [e1] at R1 h1
    rw [e2] at R1 q
    exact k H1 v r R1 (fun b o e => r1.stp.keep b o e (.inl rfl)) q h1
theorem Owns.deep {H : Hp} {L : Addr → Prop} {b' : Addr} {ws ws' : List V} {us us' : List OT} (hb : H b' = Option.some (HO.lst ws)) (hL : ¬ L b') (hc : ∀ cs, Owns G H L ws us cs → ∃ cs', Owns G H L ws' us' cs' ∧ cs'.Sublist cs) :
    ∀ {xs : List V} {ts : List OT} {as : List Addr} {j : Nat}, Owns G H L xs ts as → as.Nodup → xs[j]? = Option.some (.ref b') → ts[j]? = Option.some (.nd us) → ∃ as', Owns G (upd H b' (.lst ws')) L xs (ts.set j (.nd us')) as' ∧ as'.Sublist as ∧ b' ∈ as
  | _, _, _, _, .nil, _, e, _ => by simp at e
  | _, _, _, 0, .cons (as := as) (bs := bs) k t, nd, e, e' => by
    simp at e e'
    subst e e'
    have nd' := List.nodup_append.mp nd
    have kp : ∀ a o, a ≠ b' → H a = Option.some o → upd H b' (.lst ws') a = Option.some o := fun a o n q => by rw [Yc n]; exact q
    have f1 : ∀ a (zs : MuO), L a → Rd H a zs.ho → L a ∧ Rd (upd H b' (.lst ws')) a zs.ho := fun a zs l q => ⟨l, by
      have na : a ≠ b' := fun z => hL (z ▸ l)
      rcases q with q | ⟨u, q⟩
      · exact .inl (kp a _ na q)
      · exact .inr ⟨u, kp a _ na q⟩⟩
    have f2 : ∀ a (zs : ImO), H a = Option.some zs.ho → upd H b' (.lst ws') a = Option.some zs.ho := fun a zs q => kp a _ (fun z => ImO.nl q (z ▸ hb)) q
    cases k with
    | nd h r =>
      rename_i xs0 as0
      rw [hb] at h
      cases h
      have nd2 := List.nodup_cons.mp nd'.1
      obtain ⟨cs', o', s'⟩ := hc _ r
      refine ⟨b' :: cs' ++ bs, .cons (.nd Ym (o'.frame f1 f2 fun a m zs q => kp a _ (fun z => nd2.1 (s'.subset (z ▸ m))) q)) (t.frame f1 f2 fun a m zs q => kp a _ (fun z => nd'.2.2 b' (.head _) a m z.symm) q), List.Sublist.append_right (List.Sublist.cons₂ _ s') bs, List.mem_append_left _ (.head _)⟩
  | _, _, _, j + 1, .cons (as := as) (bs := bs) k t, nd, e, e' => by
    have nd' := List.nodup_append.mp nd
    obtain ⟨as', o, s, m⟩ := Owns.deep hb hL hc (j := j) t nd'.2.1 (by simpa using e) (by simpa using e')
    have nb : b' ∉ as := fun z => nd'.2.2 b' z b' m rfl
    refine ⟨as ++ as', .cons ?_ o, List.Sublist.append_left s as, List.mem_append_right _ m⟩
    have kp : ∀ a o, a ≠ b' → H a = Option.some o → upd H b' (.lst ws') a = Option.some o := fun a o n q => by rw [Yc n]; exact q
    refine k.frame (fun a zs l q => ⟨l, ?_⟩) (fun a zs q => kp a _ (fun z => ImO.nl q (z ▸ hb)) q) fun a m' zs q => kp a _ (fun z => nb (z ▸ m')) q
    have na : a ≠ b' := fun z => hL (z ▸ l)
    rcases q with q | ⟨u, q⟩
    · exact .inl (kp a _ na q)
    · exact .inr ⟨u, kp a _ na q⟩
theorem Zpf (i : Nat) (he : ME X io p true e m) (hj : ME X io true c a mi) (hk : ME X io true c' b mj) (hPa : Zk3 a) (hN : X.N[i]? = some x := by rfl) (hv : Vis X.env.scope x := by first | exact Or.inl rfl | exact Or.inr (Or.inl rfl) | exact Or.inr (Or.inr rfl)) (hd : (x == ("__debug__" : Str)) = false := by decide)
    (hcd : (x == ("__classdict__" : Str)) = false := by decide)
    (hpg : ∀ {to ti : TE}, PE X (.Subscript (.Name x px) a pp) to → PE X b ti → PG X (.Subscript (.Subscript (.Name x px) a pp) b p2) (Z5y to ti Zym) := by intro _ _ A B; exact Zy8 A B set_list)
    (hs : swapsWithSole [.Subscript (.Subscript (.Name x px) a pp) b p2] e pos.line X.env = pure false := by rfl) (hw : swappedStores [.Subscript (.Subscript (.Name x px) a pp) b p2] e X.env = pure none := by rfl)
    (h1 : (assignEach [.Subscript (.Subscript (.Name x px) a pp) b p2] X.env).map (·.2) = [assign (.Subscript (.Subscript (.Name x px) a pp) b p2) X.env] := by rfl) :
    MS X io (.Assign [.Subscript (.Subscript (.Name x px) a pp) b p2] e pos) (Zxn i m mi mj) := by
  obtain ⟨_, A, s⟩ := he
  obtain ⟨_, B, sj⟩ := hj
  obtain ⟨_, B2, sk⟩ := hk
  refine ⟨_, Ztf A (hpg (Zy6 (Zr3 rfl) (pv i hN hv hd hcd) B hPa) B2) hs hw h1, fun C H σ δ fp ex D D' R h E => ?_⟩
  refine s C H σ δ fp ex _ _ R h fun H1 v r δ1 fp1 new r1 h1 => ?_
  have R1 := r1.base
  have q := (r1.da R).wide (L' := Lf C fp1 ex) fun a l _ => l rfl
  split at h1
  case h_2 => exact h1.elim
  rename_i ts hi
  obtain ⟨a', _, _, hv0, _⟩ := R1.ownNd hi
  refine ⟨_, hv0, ?_⟩
  refine sj.pureAfter R1 h1 fun H2 w n R2 s2 q2 h2 => ?_
  obtain ⟨k, rfl, h2⟩ := q2.intInv h2
  split at h2
  case h_2 => exact h2.elim
  rename_i j hj
  split at h2
  case h_2 => exact h2.elim
  rename_i us hus
  -- the row
  obtain ⟨a2, xs2, bs2, hv2, hx2, o2, hf2⟩ := R2.ownNd hi
  rw [hv0] at hv2
  cases hv2
  obtain ⟨xr, cr, hxr, orow, _⟩ := o2.get hus
  obtain ⟨b', rfl⟩ : ∃ b', xr = V.ref b' := by
    cases orow with
    | nd h r => exact ⟨_, rfl⟩
  refine ⟨a', xs2, k, V.ref b', rfl, rfl, .inl (.inl hx2), ?_, ?_⟩
  · unfold atI
    rw [o2.length, hj]
    exact hxr
  refine sk.pureAfter R2 h2 fun H3 w' n' R3 s3 q3 h3 => ?_
  obtain ⟨k', rfl, h3⟩ := q3.intInv h3
  split at h3
  case h_2 => exact h3.elim
  rename_i j' hj'
  obtain ⟨a3, xs3, bs3, hv3, hx3, o3, hf3⟩ := R3.ownNd hi
  rw [hv0] at hv3
  cases hv3
  have exs : xs3 = xs2 := by
    have := s3 _ _ hx2
    rw [hx3] at this
    cases this; rfl
  subst exs
  obtain ⟨xr3, cr3, hxr3, orow3, hsub3⟩ := o3.get hus
  rw [hxr] at hxr3
  cases hxr3
  have nd3 := R3.nd i
  rw [hf3] at nd3
  have hn3 := List.nodup_cons.mp nd3
  cases orow3 with
  | nd hb r3 =>
    rename_i ws3 bs4
    have hbm : b' ∈ bs3 := hsub3.subset (.head _)
    have hbf : b' ∈ fp1 i := by rw [hf3]; exact .tail _ hbm
    have hLb : ¬ Lf C fp1 ex b' := fun l => l.1 ⟨i, hbf⟩
    obtain ⟨as', oo, ss, _⟩ := Owns.deep (ws' := ws3.set j' v) (us' := us.set j' (.fz r.data)) hb hLb (fun cs hcs => Owns.set (.fz ((q.same s2).same s3)) j' hcs) o3 hn3.2 hxr hus
    refine ⟨b', ws3, k', j', rfl, rfl, hb, by rw [r3.length]; exact hj', ?_⟩
    have hba : a' ≠ b' := fun z => hn3.1 (z ▸ hbm)
    -- the change
    have sub : ∀ a, a ∈ a' :: as' → a ∈ fp1 i := fun a m => by
      rw [hf3]
      rcases List.mem_cons.mp m with rfl | m
      · exact .head _
      · exact .tail _ (ss.subset m)
    have kp : ∀ b o, H3 b = some o → b ≠ b' → upd H3 b' (.lst (ws3.set j' v)) b = some o := fun b o e n => by rw [Yc n]; exact e
    have lw : ∀ a, Lf C fp1 ex a → upd H3 b' (.lst (ws3.set j' v)) a ≠ none → Lf C (fpu fp1 i (a' :: as')) (exu ex []) a := fun a l _ => ⟨fun z => by
      rcases z.of_u with z | ⟨j, _, z⟩
      · exact l.1 ⟨i, sub a z⟩
      · exact l.1 ⟨j, z⟩, fun z => l.2.1 (Zb3.mp z), l.2.2⟩
    obtain ⟨R4, S4⟩ := R3.change (new := []) (as' := a' :: as') (t' := .nd (ts.set j (.nd (us.set j' (.fz r.data))))) (H' := upd H3 b' (.lst (ws3.set j' v))) hi hv0 (fun b o e nb => kp b o e fun z => nb (by rw [z]; exact hbf)) (fun b e => by
        by_cases q : b = b'
        · subst q; rw [Ym] at e; cases e
        · rwa [Yc q] at e) (.nd (by rw [Yc hba]; exact hx3) (oo.wide lw)) (List.nodup_cons.mpr ⟨fun m => hn3.1 (ss.subset m), hn3.2.sublist ss⟩) (fun a m => .inl (sub a m)) (fun a m => nomatch m)
    have k23 : Kp H1 fp1 H3 fp1 := ⟨fun b o e _ => s3 _ _ (s2 _ _ e), fun z => (nomatch z), fun a z => .inl z, fun b e => s2.al b (s3.al b e)⟩
    exact E.nx _ σ _ _ (R4.drop fun a z => .inl z) (r1.stp.kp.trans (k23.trans S4.kp)) h3
end
end L2
namespace L2
open PySem PySem.Spec PyProof.Rows
variable {G : PySem.W.Frag}
mutual
noncomputable def Zve : OT → Bool
  | .fz d => Zfd d
  | .nd ts => Zpm ts
  | .tp ts => Zpm ts
  | .dc _ _ _ => false
noncomputable def Zpm : List OT → Bool
  | [] => true
  | t :: ts => Zve t && Zpm ts
end
section
variable {X : Cx} {io : List Nat} {p c : Bool} {e : Expr} {m : MEt}
theorem Rel.freeze {C : MC G} {H : Hp} {σ : St} {δ : Zj} {fp : Fp} {ex : Addr → Prop} {i : Nat} {t : OT} (R : Rel C io H σ δ fp ex) (hio : i ∉ io) (hi : δ[i]? = some (some t)) : Rel C io H σ (δ.set i (some (.fz t.data))) (fpu fp i []) ex := by
  have hil : i < δ.length := (List.getElem?_eq_some_iff.mp hi).1
  have sub : ∀ j a, a ∈ fpu fp i [] j → j ≠ i ∧ a ∈ fp j := fun j a m => by
    by_cases ej : j = i
    · subst ej; rw [Yt] at m; exact nomatch m
    · rw [Wu ej] at m; exact ⟨ej, m⟩
  have lw : ∀ a, Lf C fp ex a → Lf C (fpu fp i []) ex a := fun a l => ⟨fun ⟨j, z⟩ => l.1 ⟨j, (sub j a z).2⟩, l.2.1, l.2.2⟩
  have ln : ∀ a ∈ fp i, Lf C (fpu fp i []) ex a := fun a m => ⟨fun ⟨j, z⟩ => (sub j a z).1 (R.dj j i a (sub j a z).2 m), R.dx i a m, .inr (by
    rcases R.new i a m with z | z
    · exact absurd z.1 hio
    · exact z)⟩
  refine ⟨by rw [List.length_set]; exact R.len, fun j t' e => ?_, fun j h => ?_, fun j => ?_, fun j k a h1 h2 => R.dj j k a (sub j a h1).2 (sub k a h2).2, fun j a h z => R.dx j a (sub j a h).2 z, R.xa, R.fr, R.al, fun j a h => R.new j a (sub j a h).2, R.io⟩
  · by_cases ej : j = i
    · subst ej
      rw [List.getElem?_set_self hil] at e
      cases e
      obtain ⟨v, e1, o⟩ := R.own j t hi
      exact ⟨v, e1, by rw [Yt]; exact .fz (o.da (fun a l _ => lw a l) ln)⟩
    · rw [List.getElem?_set_ne (Ne.symm ej)] at e
      obtain ⟨w, e1, o⟩ := R.own j t' e
      exact ⟨w, e1, by rw [Wu ej]; exact o.wide fun a l _ => lw a l⟩
  · by_cases ej : j = i
    · subst ej; rw [Yt]
    · rw [Wu ej]
      exact R.emp j fun t' z => h t' (by rw [List.getElem?_set_ne (Ne.symm ej)]; exact z)
  · by_cases ej : j = i
    · subst ej; rw [Yt]; exact .nil
    · rw [Wu ej]; exact R.nd j
noncomputable def Zif (i : Nat) (u : MSt) : MSt := fun D δ => match δ[i]? with | some (some t) => u D (δ.set i (some (.fz t.data))) | _ => False
theorem Zqp {st : Stmt} {u : MSt} (i : Nat) (h : MS X io st u) (hio : i ∉ io := by decide) : MS X io st (Zif i u) := by
  obtain ⟨_, A, s⟩ := h
  exact ⟨_, A, fun C H σ δ fp ex D D' R h E => by
    unfold Zif at h
    split at h
    case h_2 => exact h.elim
    rename_i t hi
    refine s C H σ _ _ ex D D' (R.freeze hio hi) h (E.shift ⟨fun b o e _ => e, fun z => (nomatch z), fun a z => ?_, fun b e => e⟩)
    rcases z.of_u with z | ⟨j, _, z⟩
    · exact nomatch z
    · exact .inl ⟨j, z⟩⟩
end
end L2
namespace L2
open PySem PySem.Spec PyProof.Rows
variable {G : PySem.W.Frag}
noncomputable def Z06 (ds : List PyData) (k : OT → Prop) : Prop := ∃ ns : List Int, ds = [.list (ns.map PyData.int)] ∧ ns.length ≤ 63 ∧ k (.fz (.bool true))
theorem Zzv {H : Hp} {a : Addr} {ns : List Int} {E : XK} (hl : ns.length ≤ 63) (h : SqL G H a (ns.map V.int)) : spD G Z06 [.ref a] H (fun v _ => v = .bl true) E := by
  refine ⟨fun _ => True, [.list (ns.map PyData.int)], fun r => r = .fz (.bool true), .cons ?_ .nil, ⟨ns, rfl, hl, rfl⟩, fun r v H' new kr s o _ _ => ?_⟩
  · rcases h with h | h
    · exact .lst trivial h (.ints ns)
    · exact .scr h
  · subst kr
    cases o with
    | fz q => cases q; rfl
section
variable {P : Program} {w : World} {mg : Str → Option Value} {base : Heap} {CX : CXT} {n : Nat} {f : Addr} {fd : FuncData} {ps : List Str}
theorem Da.ints_sq {H : Hp} {L : Addr → Prop} {v : V} {ns : List Int} (h : Da G H L v (.list (ns.map PyData.int))) : ∃ a, v = .ref a ∧ SqL G H a (ns.map V.int) := by
  generalize e : PyData.list (ns.map PyData.int) = d at h
  cases h with
  | lst l e1 r =>
    cases e
    rw [r.int_inv] at e1
    exact ⟨_, rfl, .inl e1⟩
  | scr k =>
    rename_i a ms
    have e' := PyData.list.inj e
    have : ns = ms := (List.map_inj_right (fun _ _ h => by cases h; rfl)).mp e'
    subst this
    exact ⟨_, rfl, k.sq⟩
  | _ => cases e
end
end L2
namespace L2
open PySem PySem.Spec PyProof.Rows
@[simp] theorem Zea : OT.datas [] = [] := rfl
@[simp] theorem Zc6 (t : OT) (ts : List OT) : OT.datas (t :: ts) = t.data :: OT.datas ts := rfl
theorem Zjl {α : Type} {xs : List α} {i : Int} (h0 : 0 ≤ i) : atI xs i = xs[i.toNat]? := by
  unfold atI ixN
  rw [if_pos h0]
  split
  · rfl
  · rename_i h
    symm
    exact List.getElem?_eq_none_iff.mpr (by omega)
theorem Zt3 {α : Type} {xs : List α} {i : Nat} : atI xs (i : Int) = xs[i]? := by
  rw [Zjl (by omega), Int.toNat_natCast]
@[simp] theorem Z7h {α : Type} (x : α) (xs : List α) : atI (x :: xs) 0 = some x := by
  rw [Zjl (by decide)]; rfl
@[simp] theorem Z7c {α : Type} (x y : α) (xs : List α) : atI (x :: y :: xs) 1 = some y := by
  rw [Zjl (by decide)]; rfl
@[simp] theorem Z7j {α : Type} (x y z : α) (xs : List α) : atI (x :: y :: z :: xs) 2 = some z := by
  rw [Zjl (by decide)]; rfl
@[simp] theorem Z17 (ds : List PyData) (i : Int) : ixD (.list ds) (.int i) = atI ds i := rfl
@[simp] theorem Z3k (ds : List PyData) (i : Int) : ixD (.tuple ds) (.int i) = atI ds i := rfl
@[simp] theorem Zxk (ds : List PyData) : Zrt (.list ds) = some ds.length := rfl
@[simp] theorem Z1q (ds : List PyData) : Zrt (.tuple ds) = some ds.length := rfl
noncomputable def Znb (r : List Rat) : PyData := .list (r.map frD)
noncomputable def tbD (T : List (List Rat)) : PyData := .list (T.map Znb)
noncomputable def Z13 (r : List Rat) : OT := .nd (r.map fun q => .fz (frD q))
noncomputable def tbT (T : List (List Rat)) : OT := .nd (T.map Z13)
@[simp] theorem Znf (r : List Rat) : (Z13 r).data = Znb r := by
  unfold Z13 Znb
  rw [OT.data_nd, List.map_map]
  rfl
@[simp] theorem Z1o (T : List (List Rat)) : (tbT T).data = tbD T := by
  unfold tbT tbD
  rw [OT.data_nd, List.map_map]
  exact congrArg PyData.list (List.map_congr_left fun r _ => Znf r)
noncomputable def Sq (n : Nat) (T : List (List Rat)) : Prop := T.length = n ∧ ∀ r ∈ T, r.length = n
noncomputable def dd (T : List (List Rat)) (i j : Nat) : Rat := (T.getD i []).getD j 0
@[simp] theorem Z31 (T : List (List Rat)) : Zrt (tbD T) = some T.length := by unfold tbD Zrt; simp
@[simp] theorem Z1z (r : List Rat) : Zrt (Znb r) = some r.length := by unfold Znb Zrt; simp
@[simp] theorem Z24 (q : Rat) : Zfd (frD q) = true := by unfold frD fr; simp [Zfd, Zqt]
end L2
namespace L2
open PySem PySem.Spec PyProof.Rows
end L2
namespace L2
open PySem PySem.Spec PyProof.Rows
end L2
namespace L2
open PySem PySem.Spec PyProof.Rows
end L2
namespace L2
open PySem PySem.Spec PyProof.Rows
end L2
namespace L2
open PySem PySem.Spec PyProof.Rows
end L2
namespace L2
open PySem PySem.Spec PyProof.Rows
theorem Zl4 {n a : Nat} (h : a < n) : ixN n (a : Int) = some a := by
  unfold ixN
  rw [if_pos (by omega), if_pos (by omega)]; simp
theorem Sq.ixN {n a : Nat} {T : List (List Rat)} (h : Sq n T) (ha : a < n) : ixN (T.map Z13).length (a : Int) = some a := Zl4 (by rw [List.length_map, h.1]; exact ha)
end L2
namespace L2
open PySem PySem.Spec PyProof.Rows
end L2
namespace L2
open PySem PySem.Spec PyProof.Rows
end L2
namespace L2
open PySem PySem.Spec PyProof.Rows
theorem Zrw {d : PyData} (h : Ji d = true) : PyData.eqv d d = true := Zth h h rfl
end L2
namespace L2
open PySem PySem.Spec PyProof.Rows
structure Sh (n : Nat) (d : PyData) : Prop where
  lay : PyData.canLay0 d = true
  dep : PyData.depth d ≤ n
theorem Sh.shp {n : Nat} {d : PyData} (h : Sh n d) (hn : n ≤ 64 := by decide) : Zzw d := ⟨by
  show (PyData.canLay0 d && decide (PyData.depth d ≤ 64)) = true
  rw [h.lay, decide_eq_true (Nat.le_trans h.dep hn)]; rfl⟩
theorem Zjm {n : Nat} : ∀ {ds : List PyData}, (∀ d ∈ ds, Sh n d) → PyData.canLayAll0 ds = true ∧ PyData.depthAll ds ≤ n
  | [], _ => ⟨by rw [PyData.canLayAll0], by rw [PyData.depthAll]; exact Nat.zero_le _⟩
  | d :: ds, h => by
    obtain ⟨h1, h2⟩ := Zjm fun e m => h e (.tail _ m)
    have h3 := h d (.head _)
    refine ⟨by rw [PyData.canLayAll0, h3.lay, h1]; rfl, ?_⟩
    rw [PyData.depthAll]
    exact Nat.max_le.mpr ⟨h3.dep, h2⟩
theorem Zv2 {n : Nat} {ds : List PyData} (h : ∀ d ∈ ds, Sh n d) : Sh (n + 1) (.list ds) :=
  ⟨by rw [PyData.canLay0]; exact (Zjm h).1, by rw [PyData.depth]; exact Nat.succ_le_succ (Zjm h).2⟩
theorem Zx5 {n : Nat} {ds : List PyData} (h : ∀ d ∈ ds, Sh n d) : Sh (n + 1) (.tuple ds) :=
  ⟨by rw [PyData.canLay0]; exact (Zjm h).1, by rw [PyData.depth]; exact Nat.succ_le_succ (Zjm h).2⟩
theorem Zt0 (i : Int) : Sh 0 (.int i) := ⟨rfl, Nat.le_of_eq rfl⟩
end L2
namespace L2
open PySem PySem.Spec PyProof.Rows
section
variable {X : Cx} {pins : List (Addr × Obj)} {σ : St} {H : Hp} {s : Shared}
end
end L2
namespace L2
open PySem PySem.Spec PyProof.Rows
variable {G : PySem.W.Frag}
section
variable {X : Cx} {io : List Nat} {p c : Bool} {e a b tg : Expr} {m : MEt} {mr : MAt}
noncomputable def Z15 (as bs : List PyData) : List PyData := (as.zip bs).map fun x => .tuple [x.1, x.2]
@[simp] theorem Zws (as bs : List PyData) : (Z15 as bs).length = min as.length bs.length := by simp [Z15]
end
end L2
namespace L2
open PySem PySem.Spec PyProof.Rows
variable {G : PySem.W.Frag}
section
variable {X : Cx} {io : List Nat} {c1 c2 c3 : Bool} {a b e : Expr} {ma mb mc : MEt} {pos : Pos} {f g : Int → Int → Bool}
end
section
variable {X : Cx} {io : List Nat} {p c : Bool} {a b e : Expr} {ma mb m : MEt} {pos pl : Pos}
noncomputable def Z50 (m mb : MEt) : MEt := fun δ K => m δ fun r δ1 => mb δ1 fun n _ => asI n.data fun k => (-(2 ^ 63) ≤ k ∧ k < 2 ^ 63 ∧ k.toNat ≤ sizeLine) ∧ K (.nd (List.replicate k.toNat (.fz r.data))) δ1
theorem Zmb {α : Type} (x : α) : ∀ n : Nat, (List.replicate n [x]).flatten = List.replicate n x
  | 0 => rfl
  | n + 1 => by rw [List.replicate_succ, List.flatten_cons, Zmb x n]; rfl
theorem Das.rep {H : Hp} {L : Addr → Prop} {v : V} {d : PyData} (h : Da G H L v d) : ∀ n : Nat, Das G H L (List.replicate n v) (List.replicate n d)
  | 0 => .nil
  | n + 1 => .cons h (Das.rep h n)
theorem Z3q (ha : ME X io p true a m) (hb : ME X io true c b mb) (hs : starEach [a] X.env = (false, eval a X.env) :: starEach [] X.env := by rfl) : ME X io p true (.BinOp (.List [a] pl) .Mult b pos) (Z50 m mb) := by
  obtain ⟨_, A, sa⟩ := ha
  obtain ⟨_, B, sb⟩ := hb
  refine ⟨_, Zuy Zy3 (Zs3 (Zb7 A Zex hs)) B, fun C H σ δ fp ex K Q R h k => ?_⟩
  refine sa C H σ δ fp ex _ _ R h fun H1 v r δ1 fp1 new r1 h1 => ⟨(by show 1 ≤ sizeLine; decide), fun l hl => ?_⟩
  have R1 := r1.base
  have s1 := Wq hl (.lst [v])
  refine sb.pureAfter (R1.mk0 s1) h1 fun H2 w n R2 s2 q2 h2 => ?_
  obtain ⟨i, rfl, h2⟩ := q2.intInv h2
  have q := (((r1.da R).wide (L' := Lf C fp1 ex) fun a l _ => l rfl).same s1).same s2
  refine ⟨l, i, [v], rfl, rfl, s2 _ _ Ym, h2.1.1, h2.1.2.1, by show 1 * i.toNat ≤ sizeLine; rw [Nat.one_mul]; exact h2.1.2.2, fun t ht => ?_⟩
  rw [Zmb]
  have S : Stp p H δ fp H2 δ1 fp1 := by
    have := r1.stp.trans (p' := true) (Stp.same (p := true) (δ := δ1) (fp := fp1) (s1.trans s2) (s1.trans s2).al)
    rwa [Bool.and_true] at this
  refine k _ _ _ δ1 fp1 [t] (RE.tree R R2 S (Wq ht _) (Zdn ht) (Zez t) ?_) h2.2
  have := Own.list ht ((Das.rep q i.toNat).wide (L' := fun a => true = true → Lf C fp1 ex a) fun a l _ _ => l)
  rwa [List.map_replicate] at this
end
end L2
namespace L2
open PySem PySem.Spec PyProof.Rows
variable {G : PySem.W.Frag}
section
variable {X : Cx}
noncomputable def Zvq : List V → Hp → VK → Prop := fun vs H Q => ∃ j : Int, vs = [.int j] ∧ ∀ r, H r = none → Q (.ref r) (upd H r (.rng 0 j))
theorem Zpv : Zeo X (.type "range") Zvq := by
  intro pins s σ H vs us Q I r h
  obtain ⟨j, rfl, q⟩ := h
  obtain ⟨u, rfl, t, rfl⟩ := vals1 r
  refine call_range_1 ?_
  exact ⟨.ref s.heap.objs.size, _, I.laid (o := .rng 0 j) (fun b o e => Heap.get?_push_of_some _ e) (Nat.le_refl _) ⟨_, _, _, Heap.get?_push_size _ rfl⟩, rfl, q _ I.fresh⟩
noncomputable def Zrs (lo : Int) (n : Nat) : List V := (List.range n).map fun (i : Nat) => V.int (lo + (i : Int))
noncomputable def Zsq : List V → Hp → VK → Prop := fun vs H Q => ∃ r lo hi, vs = [.ref r] ∧ H r = some (.rng lo hi) ∧ (-(2 ^ 62) ≤ lo ∧ lo < 2 ^ 62 ∧ -(2 ^ 62) ≤ hi ∧ hi < 2 ^ 62) ∧ (hi - lo).toNat ≤ sizeLine ∧ ∀ l, H l = none → Q (.ref l) (upd H l (.lst (Zrs lo (hi - lo).toNat)))
theorem Zi8 (lo : Int) (n : Nat) : Zrs lo (n + 1) = .int lo :: Zrs (lo + 1) n := by
  unfold Zrs
  rw [List.range_succ_eq_map, List.map_cons, List.map_map]
  congr 1
  · simp
  · refine List.map_congr_left fun i _ => ?_
    show V.int (lo + ((i + 1 : Nat) : Int)) = V.int (lo + 1 + (i : Int))
    congr 1
    omega
theorem Zlh : ∀ (acc : List Value) (lo : Int), (∀ (i : Nat) (v : Value), acc[i]? = some v → ∃ t, v = Value.int (lo + i) t) → Vals (Zrs lo acc.length) acc
  | [], _, _ => .nil
  | v :: acc, lo, h => by
    rw [List.length_cons, Zi8]
    obtain ⟨t, e⟩ := h 0 v rfl
    refine .cons ⟨t, by rw [e]; simp⟩ (Zlh acc (lo + 1) fun i w hw => ?_)
    obtain ⟨t', e'⟩ := h (i + 1) w (by simpa using hw)
    refine ⟨t', ?_⟩
    rw [e']
    congr 1
    omega
theorem Zin (hc : X.calm = true) : Zeo X (.type "list") Zsq := by
  intro pins s σ H vs us Q I r h
  obtain ⟨a, lo, hi, rfl, e, hb, hz, q⟩ := h
  obtain ⟨u, rfl, ru⟩ := vals1 r
  cases (show u = Value.ref a from ru)
  obtain ⟨t, u', v, e1⟩ := (show ObjOk X.prog X.w H s.heap a (.rng lo hi) from I.hok a _ e)
  refine call_list_range (n := (hi - lo).toNat) (I.ok.hd hc) e1 ?_ ?_ hz fun h' tk acc c' hk hS hacc => ?_
  · exact small_one hb.1 hb.2.1 hb.2.2.1 hb.2.2.2
  · rw [rangeSize_one]; split <;> omega
  · refine ⟨.ref s.heap.objs.size, _, I.laid (o := .lst (Zrs lo (hi - lo).toNat)) (t' := tk) hk (Nat.le_refl _) ⟨?_, acc.toList, c', ?_, by simpa using hS⟩, rfl, q _ I.fresh⟩
    · simp [Zrs]; omega
    · have := Zlh acc.toList lo fun i v hv => by
        obtain ⟨t, e⟩ := hacc.2 i v (by simpa using hv)
        exact ⟨t, by rw [e, Int.mul_one]⟩
      rwa [show acc.toList.length = (hi - lo).toNat by simpa using hacc.1] at this
end
end L2
namespace L2
open PySem PySem.Spec PyProof.Rows PySem.SeqAt
variable {G : PySem.W.Frag}
theorem Zqe (lo : Int) (n : Nat) : Zda lo (n + 1) = .int lo :: Zda (lo + 1) n := by
  unfold Zda
  rw [List.range_succ_eq_map, List.map_cons, List.map_map]
  congr 1
  · simp
  · refine List.map_congr_left fun i _ => ?_
    show PyData.int (lo + ((i + 1 : Nat) : Int)) = PyData.int (lo + 1 + (i : Int))
    congr 1
    omega
theorem Das.rng {H : Hp} {L : Addr → Prop} : ∀ (n : Nat) (lo : Int), Das G H L (Zrs lo n) (Zda lo n)
  | 0, _ => .nil
  | n + 1, lo => by
    rw [Zi8, Zqe]
    exact .cons (.int _) (Das.rng n _)
section
variable {X : Cx} {io : List Nat} {p c : Bool} {a b e : Expr} {ma mb m : MEt} {mr : MAt} {pos pos' pl pr : Pos}
noncomputable def Z4r (mr : MAt) : MEt := fun δ K => mr δ fun rs δ' => n1 (fun d => asI d fun j => (-(2 ^ 62) ≤ j ∧ j < 2 ^ 62 ∧ j.toNat ≤ sizeLine) ∧ K (.nd ((Zda 0 j.toNat).map OT.fz)) δ') (OT.datas rs)
theorem Zyz {C : MC G} {H H1 : Hp} {σ : St} {δ δ1 : Zj} {fp fp1 : Fp} {ex : Addr → Prop} {r l : Addr} {lo hi : Int} {n : Nat} (R : Rel C io H σ δ fp ex) (R1 : Rel C io H1 σ δ1 fp1 ex) (S : Stp p H δ fp H1 δ1 fp1) (hr : H1 r = none)
    (hl : upd H1 r (.rng lo hi) l = none) : RE C io p true H σ δ fp ex (upd (upd H1 r (.rng lo hi)) l (.lst (Zrs lo n))) (.ref l) (.nd ((Zda lo n).map OT.fz)) δ1 fp1 [l] := by
  have s1 := Wq hr (.rng lo hi)
  have S' : Stp p H δ fp (upd H1 r (.rng lo hi)) δ1 fp1 := by
    have := S.trans (p' := true) (Stp.same (p := true) (δ := δ1) (fp := fp1) s1 s1.al)
    rwa [Bool.and_true] at this
  exact RE.tree R (R1.mk0 s1) S' (Wq hl _) (Zdn hl) (Zez l) (Own.list hl (Das.rng n lo))
theorem Zjn (hc : X.calm = true) (hgl : Gl X "list") (hml : X.mg "list" = none) (hvl : bootBuiltins "list" = some (.type "list")) (hg : Gl X "range") (hm : X.mg "range" = none) (hv : bootBuiltins "range" = some (.type "range")) (ha : MA X io p c [a] mr)
    (he : starEach [a] X.env = (false, eval a X.env) :: starEach [] X.env := by rfl) (hpl : (backTo pos' (starEach [] X.env)).any (·.1) = false := by rfl)
    (he' : starEach [.Call (.Name "range" pr) [a] [] pos'] X.env = (false, eval (.Call (.Name "range" pr) [a] [] pos') X.env) :: starEach [] X.env := by rfl) (hpl' : (backTo pos (starEach [] X.env)).any (·.1) = false := by rfl) :
    ME X io p true (.Call (.Name "list" pl) [.Call (.Name "range" pr) [a] [] pos'] [] pos) (Z4r mr) := by
  obtain ⟨_, A, s⟩ := ha
  refine ⟨_, Zft (Zin hc) hgl hml hvl (Zb7 (Zft Zpv hg hm hv A (he := he) (hpl := hpl)) Zex he') (he := he') (hpl := hpl'), fun C H σ δ fp ex K Q R h kk => s C H σ δ fp ex _ _ R h fun H1 vs rs δ1 fp1 new r1 h1 => ?_⟩
  obtain ⟨v, d, rfl, e2, q, h2⟩ := (r1.das R).one h1
  obtain ⟨j, rfl, h2⟩ := q.intInv h2
  refine ⟨j, rfl, fun r hr => ⟨r, 0, j, rfl, Ym, ⟨by decide, by decide, h2.1.1, h2.1.2.1⟩, by rw [Int.sub_zero]; exact h2.1.2.2, fun l hl => ?_⟩⟩
  rw [Int.sub_zero]
  exact kk _ _ _ δ1 fp1 [l] (Zyz R r1.base r1.stp hr hl) h2.2
end
theorem Zio : ∀ {ns : List Int} {its : List Value}, Vals (ns.map V.int) its → IntsAre its ns
  | [], _, .nil => .nil
  | n :: ns, _, .cons r rs => by
    obtain ⟨t, e⟩ := (show ∃ t, _ = Value.int n t from r)
    rw [e]
    exact .cons n t (Zio rs)
section
variable {X : Cx} {io : List Nat} {p c : Bool} {a b e : Expr} {ma mb m : MEt} {mr : MAt} {pos pos' pl pr : Pos}
noncomputable def Zyy (K : PySem.W.Frag) : V → List V → Hp → VK → Prop := fun x vs H Q => ∃ (l : Addr) (ns : List Int) (k : Int), x = .ref l ∧ vs = [.int k] ∧ SqL K H l (ns.map V.int) ∧ ns.length ≤ 2 ^ 20 ∧ k ∈ ns ∧ Q (.int (ns.idxOf k : Nat)) H
theorem Zsj {K : PySem.W.Frag} (hK : X.K = K) : MtR X "list.index" (Zyy K) := by
  subst hK
  intro pins s σ H x vs v us Q I rx rv h
  obtain ⟨l, ns, k, rfl, rfl, hs, hb, hk, q⟩ := h
  cases rx
  obtain ⟨u, rfl, t, rfl⟩ := vals1 rv
  obtain ⟨its, rw', pl, hz⟩ := I.list hs
  have hi := Zio rw'
  obtain ⟨⟨cls, dd, data, sl⟩, ho, hc, n, hd⟩ := id pl.isList
  simp only at hc hd
  subst hc hd
  have hlen := hi.length
  have hj : ns.idxOf k < ns.length := List.idxOf_lt_length_iff.mpr hk
  refine call_meets PySem.F.slot_list_index ⟨_, ho, rfl⟩ PySem.F.entry_list_index (PySem.F.args_list_index_2 _ _)
    (list_indexAt l its.toArray n dd sl (.int k t) (isInt k) (ns.idxOf k) (by simpa [hlen] using hj) (by omega) ?_ ?_) ⟨ho, fun y hy => (eq_isInt k t hi y (by simpa using hy)).at _ _, ⟨.int (ns.idxOf k : Nat), H, I.kept (h' := s.heap) (fun b o e => e), ⟨_, rfl⟩, q⟩⟩
  · show isInt k its[ns.idxOf k] = true
    rw [isInt_at k hi _ (by omega) hj]
    simpa using List.getElem_idxOf hj
  · intro j hjs hlt
    show isInt k its[j] = false
    rw [isInt_at k hi j (by simpa using hjs) (by omega)]
    exact ne_of_lt_idxOf hlt _
noncomputable def Ztm (m mb : MEt) : MEt := fun δ K => m δ fun r δ1 => ∃ ns : List Int, r.data = .list (ns.map PyData.int) ∧ ns.length ≤ 2 ^ 20 ∧ mb δ1 fun n δ2 => asI n.data fun k => k ∈ ns ∧ K (.fz (.int (ns.idxOf k : Nat))) δ2
theorem Zvc {o : Expr} {apos cpos : Pos} (ho : ME X io true true o m) (he : ME X io true c e mb)
    (hbase : attributeBase o "index" X.env (eval o X.env) = eval o X.env := by rfl)
    (hfew : ((backTo cpos (starEach [e] X.env)).all (fun x => !x.1) && (backToKw cpos (keywordEach [] X.env)).all (fun x => x.1.isSome)
      && decide ([e].length + ([] : List Keyword).length + (if ([] : List Keyword).isEmpty then 0 else 1) < 30)) = true := by rfl)
    (hline : (apos.endLine == cpos.line) = true := by rfl) (hs : starEach [e] X.env = (false, eval e X.env) :: starEach [] X.env := by rfl) (hplain : (backTo cpos (starEach [] X.env)).any (·.1) = false := by rfl) :
    ME X io true true (.Call (.Attribute o "index" apos) [e] [] cpos) (Ztm m mb) := by
  obtain ⟨_, A, sa⟩ := ho
  obtain ⟨_, B, sb⟩ := he
  refine ⟨_, Zq7 PySem.F.plainAttrs_list PySem.F.slot_list_index PySem.F.type_list_index (Zsj rfl) A (Zb7 B Zex hs) hbase hfew hline hs hplain, fun C H σ δ fp ex K Q R h kk => ?_⟩
  refine sa.pureAfter R h fun H1 v r R1 s1 q1 h1 => ?_
  obtain ⟨ns, e1, hb, h1⟩ := h1
  rw [e1] at q1
  obtain ⟨a, rfl, hsq⟩ := q1.ints_sq
  refine ⟨.inl ⟨rfl, _, hsq⟩, ?_⟩
  refine sb.pureAfter R1 h1 fun H2 w n R2 s2 q2 h2 => ?_
  obtain ⟨k, e2, h2⟩ := q2.intInv h2
  subst e2
  obtain ⟨a', ea, hs'⟩ := (q1.same s2).ints_sq
  cases ea
  have s12 : Same H H2 := s1.trans s2
  exact ⟨a, ns, k, rfl, rfl, hs', hb, h2.1, kk H2 _ _ δ fp [] (.fz R2 (.same s12 s12.al) (.int _)) h2.2⟩
noncomputable def Z10 (i : Nat) (m : MEt) : MEt := fun δ K => match δ[i]? with
  | some (some (.nd _)) => m δ fun n δ1 => match δ1[i]? with
    | some (some (.nd ts)) => asI n.data fun j => match ixN ts.length j with
      | some k => match ts[k]? with
        | some (.fz d) => ts.length ≤ sizeLine ∧ K (.fz d) (δ1.set i (some (.nd (ts.eraseIdx k))))
        | _ => False
      | none => False
    | _ => False
  | _ => False
theorem Owns.erase {H : Hp} {L : Addr → Prop} : ∀ {xs : List V} {ts : List OT} {as : List Addr} {k : Nat} {d : PyData}, Owns G H L xs ts as → ts[k]? = Option.some (.fz d) → Owns G H L (xs.eraseIdx k) (ts.eraseIdx k) as
  | _, _, _, _, _, .nil, e => by simp at e
  | _, _, _, 0, d, .cons q r, e => by
    simp at e
    subst e
    cases q
    exact r
  | _, _, _, k + 1, d, .cons q r, e => .cons q (Owns.erase (k := k) r (by simpa using e))
theorem Z3x {x : Str} {px : Pos} {apos cpos : Pos} (i : Nat) (he : ME X io p c e m) (hN : X.N[i]? = some x := by rfl) (hv : Vis X.env.scope x := by first | exact Or.inl rfl | exact Or.inr (Or.inl rfl) | exact Or.inr (Or.inr rfl)) (hd : (x == ("__debug__" : Str)) = false := by decide)
    (hcd : (x == ("__classdict__" : Str)) = false := by decide)
    (hbase : attributeBase (.Name x px) "pop" X.env (eval (.Name x px) X.env) = eval (.Name x px) X.env := by rfl)
    (hfew : ((backTo cpos (starEach [e] X.env)).all (fun x => !x.1) && (backToKw cpos (keywordEach [] X.env)).all (fun x => x.1.isSome)
      && decide ([e].length + ([] : List Keyword).length + (if ([] : List Keyword).isEmpty then 0 else 1) < 30)) = true := by rfl)
    (hline : (apos.endLine == cpos.line) = true := by rfl) (hs : starEach [e] X.env = (false, eval e X.env) :: starEach [] X.env := by rfl) (hplain : (backTo cpos (starEach [] X.env)).any (·.1) = false := by rfl) :
    ME X io false true (.Call (.Attribute (.Name x px) "pop" apos) [e] [] cpos) (Z10 i m) := by
  obtain ⟨_, A, s⟩ := he
  refine ⟨_, Zq7 PySem.F.plainAttrs_list PySem.F.slot_list_pop PySem.F.type_list_pop Zqz (pv i hN hv hd hcd) (Zb7 A Zex hs) hbase hfew hline hs hplain, fun C H σ δ fp ex K Q R h kk => ?_⟩
  unfold Z10 at h
  split at h
  case h_2 => exact h.elim
  rename_i ts0 hi0
  obtain ⟨a', xs0, bs0, hv0, hx0, _, _⟩ := R.ownNd hi0
  refine ⟨_, hv0, .inl ⟨rfl, xs0, .inl (.inl hx0)⟩, ?_⟩
  refine s C H σ δ fp ex _ _ R h fun H1 v r δ1 fp1 new r1 h1 => ?_
  split at h1
  case h_2 => exact h1.elim
  rename_i ts1 hi1
  obtain ⟨j, rfl, h1⟩ := (r1.da R).intInv h1
  split at h1
  case h_2 => exact h1.elim
  rename_i k hk
  split at h1
  case h_2 => exact h1.elim
  rename_i d hd1
  have R1 := r1.base
  obtain ⟨a1, xs1, bs1, hv1, hx1, o1, hf1⟩ := R1.ownNd hi1
  rw [hv0] at hv1
  cases hv1
  obtain ⟨y, cs, hy, oy, _⟩ := o1.get hd1
  have qy : Da X.K H1 (Lf C fp1 ex) y d := by cases oy; assumption
  obtain ⟨z1, z2, z3, z4⟩ := Zk9 hk
  have hz := h1.1
  have hsz : sizeLine = 16777216 := sizeLine_eq
  refine ⟨a', xs1, j, k, y, rfl, rfl, hx1, by omega, by omega, by rw [o1.length]; exact z1, hy, ?_⟩
  obtain ⟨R2, S2⟩ := R1.top hi1 hv0 hf1 hx1 (o1.erase hd1) (List.Sublist.refl _)
  have S := (r1.stp.trans S2).cast (p' := false) fun z => nomatch z
  refine kk _ _ _ _ _ [] (.fz R2 S ?_) h1.2
  have ne' : ∀ a, ¬ Foot fp1 a → a ≠ a' := fun a h z => h ⟨i, by rw [z, hf1]; exact .head _⟩
  have f0 : ∀ a, ¬ Foot fp1 a → ¬ Foot (fpu fp1 i (a' :: bs1)) a := fun a h z => by
    rcases z.of_u with z | ⟨j, _, z⟩
    · exact h ⟨i, by rw [hf1]; exact z⟩
    · exact h ⟨j, z⟩
  refine qy.frame (fun a zs l q => ⟨fun _ => ⟨f0 a l.1, l.2.1, l.2.2⟩, ?_⟩) fun a zs q => ?_
  · rcases q with q | ⟨u, q⟩
    · exact .inl (by rw [Yc (ne' a l.1)]; exact q)
    · exact .inr ⟨u, by rw [Yc (ne' a l.1)]; exact q⟩
  · rw [Yc]
    · exact q
    · intro z
      exact ImO.nl q (z ▸ hx1)
end
end L2
namespace L2
open PySem PySem.Spec PyProof.Rows
section
variable {X : Cx} {io : List Nat} {p p' c : Bool} {a b e : Expr} {ma mb m : MEt} {pos p2 : Pos}
end
end L2
namespace L2
open PySem PySem.Spec PyProof.Rows
theorem ObjOk.is {P : Program} {w : World} {H : Hp} {h : Heap} {a : Addr} {o : HO} (x : ObjOk P w H h a o) : ∃ u, h.get? a = some u := by
  cases o with
  | lst xs => obtain ⟨_, _, _, _, e⟩ := x; exact ⟨_, e⟩
  | tup xs => obtain ⟨_, _, _, ob, e, _⟩ := x; exact ⟨_, e⟩
  | dK kvs => obtain ⟨_, _, _, _, o, _, _, e, _⟩ := x; exact ⟨_, e⟩
  | dT kvs => obtain ⟨_, _, _, _, o, _, _, e, _⟩ := x; exact ⟨_, e⟩
  | set S n => obtain ⟨o, _, _, _, e, _⟩ := x; exact ⟨_, e⟩
  | ins C dx fs => obtain ⟨_, _, _, e, _⟩ := x; exact ⟨_, e⟩
  | own y => obtain ⟨_, e⟩ := x; exact ⟨_, e⟩
  | xd fs => obtain ⟨_, ⟨_, _, _, e, _⟩, _⟩ := x; exact ⟨_, e⟩
  | rng lo hi => obtain ⟨_, _, _, e⟩ := x; exact ⟨_, e⟩
  | frz ob u => obtain ⟨e, _⟩ := x; exact ⟨_, e⟩
  | tbl ps => exact ⟨_, (show h.get? a = some _ from x)⟩
  | met f y => exact ⟨_, (show h.get? a = some _ from x)⟩
  | ext φ => obtain ⟨_, ⟨_, e⟩, _⟩ := x; exact ⟨_, e⟩
structure Apart (X : Cx) (pins : List (Addr × Obj)) (H : Hp) (b : Addr) : Prop where
  fr : H b = none
  new : X.s₀.heap.get? b = none
  loc : b ≠ X.env.locals
  cel : ∀ x c, X.env.cells.lookup x = some c → c ≠ b
  pin : ∀ p ∈ X.pn ++ pins, p.1 ≠ b
section
variable {X : Cx} {pins : List (Addr × Obj)} {σ : St} {H H' : Hp} {s : Shared} {h' : Heap} {b a C : Addr}
theorem Inv.apart (I : Inv X pins σ H s) (hex : X.ex = []) (hb : s.heap.get? b = none) (hH : H' b = none) : Apart X pins H' b := by
  have ne : ∀ c o, s.heap.get? c = some o → c ≠ b := fun c o e z => by rw [z, hb] at e; cases e
  refine ⟨hH, ?_, ?_, fun x c e => ?_, fun p hp => ?_⟩
  · cases q : X.s₀.heap.get? b with
    | none => rfl
    | some o =>
      obtain ⟨o', e⟩ := I.base.there b o q (by rw [hex]; simp)
      rw [hb] at e; cases e
  · obtain ⟨m, ⟨o, _, _, ho, _⟩, _⟩ := I.loc
    exact (ne _ _ ho).symm
  · obtain ⟨v, o, ho, _⟩ := I.cell x c e
    exact ne _ _ ho
  · exact ne _ _ (I.pin p hp).1
theorem Inv.unheld (I : Inv X pins σ H s) (hb : s.heap.get? b = none) : H b = none := by
  cases q : H b with
  | none => rfl
  | some u =>
    obtain ⟨o, e⟩ := (I.hok b u q).is
    rw [hb] at e; cases e
theorem Inv.nofrs (I : Inv X pins σ H s) (hb : b ≠ X.env.locals) (hf : b ∉ X.fs) : b ∉ frs X.stack := fun z => (List.mem_cons.mp (I.stkSub b z)).elim hb hf
theorem Inv.flown {t' : Nat} (I : Inv X pins σ H s) {ch : List Addr} (hch : ∀ b ∈ ch, Apart X pins H b) (keep : ∀ b o, b ∉ frs X.stack → b ∉ ch → s.heap.get? b = some o → h'.get? b = some o)
    (slot : ∀ b o, b ∈ frs X.stack → s.heap.get? b = some o → ∃ sl, h'.get? b = some { o with slots := sl }) : Inv X pins σ H { s with heap := h', toks := t' } := by
  have any : ∀ b o, b ∉ ch → s.heap.get? b = some o → ∃ sl, h'.get? b = some { o with slots := sl } := fun b o n e => by
    by_cases hb : b ∈ frs X.stack
    · exact slot b o hb e
    · exact ⟨o.slots, keep b o hb n e⟩
  have neL : ∀ b o, X.s₀.heap.get? b = some o → b ≠ X.env.locals := fun b o e => Nat.ne_of_lt (Nat.lt_of_lt_of_le (Heap.lt_size e) I.ok.above)
  have neC : ∀ b o, X.s₀.heap.get? b = some o → b ∉ ch := fun b o e hb => by
    have := (hch b hb).new
    rw [this] at e; cases e
  have cellK : ∀ x c, X.env.cells.lookup x = some c → ∀ v, s.heap.IsCell c v → h'.IsCell c v := fun x c e v q91 => by
    obtain ⟨o, ho, hd⟩ := q91
    obtain ⟨sl, q⟩ := any c o (fun z => (hch c z).cel x c e rfl) ho
    exact ⟨_, q, hd⟩
  have nL : X.env.locals ∉ ch := fun z => (hch _ z).loc rfl
  refine ⟨I.ok, I.os, I.bare, ⟨fun b o e n hb hx => ?_, fun b o e n hb hx => ?_, I.base.free, fun b o e hx => ?_, I.base.tups, I.base.frzs, I.base.tbls⟩, ?_, fun x c e => ?_, I.free, I.freeC, fun p hp => ?_, fun b u e => ?_, I.len⟩
  · exact keep b o (I.nofrs (neL b o e) hb) (neC b o e) (I.base.keep b o e n hb hx)
  · obtain ⟨sl, e1⟩ := I.base.slot b o e n hb hx
    obtain ⟨sl', e2⟩ := any b _ (neC b o e) e1
    exact ⟨sl', e2⟩
  · obtain ⟨o', e1⟩ := I.base.there b o e hx
    obtain ⟨sl, e2⟩ := any b o' (neC b o e) e1
    exact ⟨_, e2⟩
  · obtain ⟨m, ⟨o, es, ep, ho, r⟩, hl⟩ := I.loc
    obtain ⟨sl, q⟩ := any _ o nL ho
    refine ⟨m, ⟨_, es, ep, q, r⟩, fun i x v e1 e2 e3 => ?_⟩
    obtain ⟨u, rv, l⟩ := hl i x v e1 e2 e3
    refine ⟨u, rv, ?_⟩
    rcases l with l | ⟨k, c, e, z⟩
    · exact .inl l
    · exact .inr ⟨k, c, e, cellK x c e _ z⟩
  · obtain ⟨v, z⟩ := I.cell x c e
    exact ⟨v, cellK x c e v z⟩
  · obtain ⟨e, n, ne, nf, d⟩ := I.pin p hp
    exact ⟨keep p.1 p.2 (I.nofrs ne nf) (fun z => (hch _ z).pin p hp rfl) e, n, ne, nf, d⟩
  · refine (I.hok b u e).stay (fun c v hc q => keep c v (fun z => ?_) (fun z => ?_) q) (fun _ q => q) fun _ _ q => q
    · have n := I.stkFree c z
      rcases hc with rfl | hc
      · rw [n] at e; cases e
      · rw [n] at hc; cases hc
    · have n := (hch c z).fr
      rcases hc with rfl | hc
      · rw [n] at e; cases e
      · rw [n] at hc; cases hc
noncomputable def Fl (ap : Addr → Prop) (C a : Addr) (fl : Value) (h : Heap) : Prop := ∃ a0 oe vs T oT ts, h.get? a = some oe ∧ (oe.cls = .ref C ∧ vs[0]? = some a0) ∧ oe.data = .fields vs ∧ vs[1]? = some (.ref T) ∧ T ≠ a ∧ h.get? T = some oT ∧ oT.data = .fields ts ∧ ts[3]? = some fl ∧ ap a ∧ ap T
noncomputable def Fl0 (ap : Addr → Prop) (C a : Addr) (h : Heap) : Prop := ∃ a0 oe vs, h.get? a = some oe ∧ (oe.cls = .ref C ∧ vs[0]? = some a0) ∧ oe.data = .fields vs ∧ vs[1]? = some .none ∧ ap a
noncomputable def FlA (ap : Addr → Prop) (fl : Value) (C a : Addr) (h : Heap) : Prop := Fl ap C a .none h ∨ Fl0 ap C a h ∨ Fl ap C a fl h
theorem Fl.imp {ap ap' : Addr → Prop} {fl : Value} {h : Heap} (f : ∀ b, ap b → ap' b) (x : Fl ap C a fl h) : Fl ap' C a fl h := by
  obtain ⟨a0, oe, vs, T, oT, ts, h1, h2, h3, h4, h5, h6, h7, h8, h9, h10⟩ := x
  exact ⟨a0, oe, vs, T, oT, ts, h1, h2, h3, h4, h5, h6, h7, h8, f _ h9, f _ h10⟩
section
variable {M : Model} {A : Around} {E : Value → Shared → Prop} {Q : Unit → Shared → Prop} {ch : List Addr}
theorem Inv.hidFrames (I : Inv X pins σ H s) : s.heap.FunFrames (PySem.W.hideAll s.heap (frs X.stack ++ ch)) X.stack :=
  PySem.W.funFrames_hide I.stack fun env he b hb => List.mem_append_left _ (List.mem_filterMap.mpr ⟨env, he, hb⟩)
theorem Inv.flyTo (I : Inv X pins σ H s) (hch : ∀ b ∈ ch, Apart X pins H b) (k1 : (PySem.W.hideAll s.heap (frs X.stack ++ ch)).StaysIn h') (k4 : ∀ b o, s.heap.get? b = some o → (∀ vs, o.data ≠ .fields vs) → ∃ sl, h'.get? b = some { o with slots := sl }) :
    Inv X pins σ H { s with heap := h' } :=
  I.flown (t' := s.toks) hch (fun b o hf hc e => k1 b o (PySem.W.hideAll_get _ e fun z => (List.mem_append.mp z).elim hf hc)) fun b o hb e => by
    obtain ⟨_, o', ho', hd⟩ := I.stack.mem hb
    rw [e] at ho'; cases ho'
    exact k4 b o e hd
theorem Inv.flyT (I : Inv X pins σ H s) (hex : X.ex = []) (hch : ∀ b ∈ ch, Apart X pins H b) {T : Addr} {oT : Obj} {ts : Array Value} (k4 : ∀ b o, s.heap.get? b = some o → (∀ vs, o.data ≠ .fields vs) → ∃ sl, h'.get? b = some { o with slots := sl })
    (hT : (PySem.W.hideAll s.heap (frs X.stack ++ ch)).get? T = none) (h1 : h'.get? T = some oT) (h2 : oT.data = .fields ts) : Apart X pins H T := by
  by_cases hc : T ∈ ch
  · exact hch T hc
  by_cases hf : T ∈ frs X.stack
  · obtain ⟨_, o', ho', hd⟩ := I.stack.mem hf
    obtain ⟨sl, e⟩ := k4 T o' ho' hd
    rw [h1] at e
    cases e
    exact absurd h2 (hd ts)
  have hn : s.heap.get? T = none := by
    cases q : s.heap.get? T with
    | none => rfl
    | some o =>
      have := PySem.W.hideAll_get (frs X.stack ++ ch) q fun z => (List.mem_append.mp z).elim hf hc
      rw [hT] at this; cases this
  exact I.apart hex hn (I.unheld hn)
theorem Zl0 (I : Inv X pins σ H s) (hex : X.ex = []) (hst : X.stack = X.env :: X.outer) (hf : X.env.frame = some X.env.locals) (hA : A.frames = some X.stack) (F : FlA (Apart X pins H) (rawInt X.env.locals) C a s.heap)
    (h : ∀ s', Inv X pins σ H s' → Fl (Apart X pins H) C a (rawInt X.env.locals) s'.heap → Q () s') : wpAny M A (noteFrame (.ref a) X.env) Q E s := by
  rcases F with F | F | F
  · obtain ⟨a0, oe, vs, T, oT, ts, eA, cA, dA, v1, nT, eT, dT, t3, pA, pT⟩ := F
    have hch : ∀ b ∈ [a, T], Apart X pins H b := fun b hb => by
      rcases List.mem_cons.mp hb with rfl | hb
      · exact pA
      · rw [List.mem_singleton.mp hb]; exact pT
    have hen : (PySem.W.hideAll s.heap (frs X.stack ++ [a, T])).get? a = none := PySem.W.hideAll_none _ (List.mem_append_right _ (.head _))
    have hTn : (PySem.W.hideAll s.heap (frs X.stack ++ [a, T])).get? T = none := PySem.W.hideAll_none _ (List.mem_append_right _ (.tail _ (.head _)))
    have fr := I.hidFrames (ch := [a, T])
    refine wpAny_noteFrame_onW (base := PySem.W.hideAll s.heap (frs X.stack ++ [a, T])) (outer := X.outer) (hA.trans (by rw [hst])) (hst ▸ fr) hf ⟨oe, vs, T, oT, ts, eA, cA, dA, v1, hTn, nT, eT, dT, t3⟩ (fun b o e => PySem.W.of_hideAll _ e) hen fun h' hN => ?_
    obtain ⟨k1, _, ⟨oe', vs', T', oT', ts', e1, e2, e3, e4, e5, e6, e7, e8, e9⟩, k4⟩ := hN
    exact h _ (I.flyTo hch k1 k4) ⟨a0, oe', vs', T', oT', ts', e1, e2, e3, e4, e6, e7, e8, e9, pA, I.flyT hex hch k4 e5 e7 e8⟩
  · obtain ⟨a0, oe, vs, eA, cA, dA, v1, pA⟩ := F
    have hch : ∀ b ∈ [a], Apart X pins H b := fun b hb => by rw [List.mem_singleton.mp hb]; exact pA
    have hen : (PySem.W.hideAll s.heap (frs X.stack ++ [a])).get? a = none := PySem.W.hideAll_none _ (List.mem_append_right _ (.head _))
    have fr := I.hidFrames (ch := [a])
    unfold noteFrame
    simp only [hf]
    refine wpAny_bind (wpAny_field eA dA v1 ?_)
    rw [if_neg (by decide)]
    refine wpAny_entryW (base := PySem.W.hideAll s.heap (frs X.stack ++ [a])) (outer := X.outer) (hA.trans (by rw [hst])) (hst ▸ fr) hf eA (fun b o e => PySem.W.of_hideAll _ e) hen dA (Array.getElem?_eq_some_iff.mp v1).1 cA.2 fun h' hN => ?_
    obtain ⟨k1, _, ⟨oe', vs', T', oT', ts', e1, e2, e3, e4, e5, e6, e7, e8, e9⟩, k4⟩ := hN
    exact h _ (I.flyTo hch k1 k4) ⟨a0, oe', vs', T', oT', ts', e1, ⟨e2.1.trans cA.1, e2.2⟩, e3, e4, e6, e7, e8, e9, pA, I.flyT hex hch k4 e5 e7 e8⟩
  · have F' := F
    obtain ⟨a0, oe, vs, T, oT, ts, eA, cA, dA, v1, nT, eT, dT, t3, pA, pT⟩ := F
    unfold noteFrame
    simp only [hf]
    refine wpAny_bind (wpAny_field eA dA v1 ?_)
    rw [if_pos (by rfl)]
    refine wpAny_bind (wpAny_field eT dT t3 ?_)
    rw [if_pos (by simp)]
    exact wpAny_pure (h s I F')
theorem Zry (I : Inv X pins σ H s) (hex : X.ex = []) {fl : Value} (F : Fl (Apart X pins H) C a fl s.heap)
    (h : ∀ s', Inv X pins σ H s' → Fl (Apart X pins H) C a .none s'.heap → Q () s') : wpAny M A (setFlight (.ref a) none) Q E s := by
  obtain ⟨a0, oe, vs, T, oT, ts, eA, cA, dA, v1, nT, eT, dT, t3, pA, pT⟩ := F
  have hch : ∀ b ∈ [a, T], Apart X pins H b := fun b hb => by
    rcases List.mem_cons.mp hb with rfl | hb
    · exact pA
    · rw [List.mem_singleton.mp hb]; exact pT
  have hTn : (PySem.W.hideAll s.heap (frs X.stack ++ [a, T])).get? T = none := PySem.W.hideAll_none _ (List.mem_append_right _ (.tail _ (.head _)))
  refine wpAny_setFlight_noneW (base := PySem.W.hideAll s.heap (frs X.stack ++ [a, T])) (l := X.stack) (fun b o e => PySem.W.of_hideAll _ e) I.hidFrames ⟨oe, vs, T, oT, ts, eA, cA, dA, v1, hTn, nT, eT, dT, t3⟩ fun h' k1 _ k3 k4' => ?_
  have k4 : ∀ b o, s.heap.get? b = some o → (∀ vs, o.data ≠ .fields vs) → ∃ sl, h'.get? b = some { o with slots := sl } := fun b o e n => ⟨o.slots, k4' b o e n⟩
  obtain ⟨oe', vs', T', oT', ts', e1, e2, e3, e4, e5, e6, e7, e8, e9⟩ := k3
  exact h _ (I.flyTo hch k1 k4) ⟨a0, oe', vs', T', oT', ts', e1, e2, e3, e4, e6, e7, e8, e9, pA, I.flyT hex hch k4 e5 e7 e8⟩
theorem Znw (I : Inv X pins σ H s) (hex : X.ex = []) (hst : X.stack = X.env :: X.outer) (hf : X.env.frame = some X.env.locals) (hA : A.frames = some X.stack) (F : FlA (Apart X pins H) (rawInt X.env.locals) C a s.heap)
    (h : ∀ s', Inv X pins σ H s' → Fl (Apart X pins H) C a .none s'.heap → Q () s') : wpAny M A (leaving X.env (.ref a)) Q E s := by
  unfold leaving
  exact wpAny_bind (Zl0 I hex hst hf hA F fun s1 I1 F1 => Zry I1 hex F1 h)
end
end
end L2
namespace L2
open PySem PySem.Spec PyProof.Rows
noncomputable def Zpe (K : PySem.W.Frag) (C : Addr) : Prop := PySem.W.excIn K C [.type "ValueError", .type "Exception", .type "BaseException", .type "object"] "ValueError.__new__" = true
theorem Zt8 {K : PySem.W.Frag} {h : Heap} {C : Addr} {bmB : List Value} {newId : String} (X : K.In h) (q : PySem.W.excIn K C bmB newId = true) :
    ∃ bm N nm qn bs hdct sn sub ab col dd k0 k1 k2 k3 k5 mN, h.get? C = some (excClassObj nm qn C N bs bm hdct sn sub ab col dd k0 k1 k2 k3 k5 newId) ∧ h.Ns N mN ∧ mN "__init__" = none ∧ OwnTail h bmB bm := by
  unfold PySem.W.excIn at q
  split at q
  case h_2 => cases q
  rename_i dd cd sl ho
  split at q
  case h_2 => cases q
  rename_i C' bm k0 k1 k2 k3 n k5 hm hs
  simp only [Bool.and_eq_true, beq_iff_eq, Bool.not_eq_true'] at q
  obtain ⟨⟨⟨⟨⟨rfl, rfl⟩, e1⟩, e2⟩, e3⟩, e4⟩ := q
  obtain ⟨nm, bs, mro, ns, qn, hd, sn, sub, ab, col, del⟩ := cd
  dsimp only at hm e1 e3 e4
  subst hm e1
  obtain ⟨l⟩ := sl
  have e5 : l = [k0, k1, k2, k3, some (.builtin n), k5] := hs
  subst e5
  exact ⟨bm, ns, nm, qn, bs, hd, sn, sub, ab, col, dd, k0, k1, k2, k3, k5, _, X _ _ ho, .of_isNs (PySem.W.isNs_of_in X e3), PySem.W.nsMap_none_of_in X e3 e4, PySem.W.tail_of_in X e2⟩
noncomputable abbrev MXt := Zj → (Addr → Zj → Prop) → Prop
noncomputable def XW (X : Cx) (C : MC X.K) (io : List Nat) (pins : List (Addr × Obj)) (ex : Addr → Prop) (H : Hp) (fp : Fp) (k : Addr → Zj → Prop) (e : Value) (s' : Shared) : Prop :=
  ∃ a cl σ' H' δ' fp', e = .ref a ∧ Inv X pins σ' H' s' ∧ FlA (Apart X pins H') (rawInt X.env.locals) cl a s'.heap ∧ Rel C io H' σ' δ' fp' ex ∧ Kp H fp H' fp' ∧ k cl δ'
noncomputable def XE (X : Cx) (io : List Nat) (e : Expr) (m : MXt) : Prop := ∀ (C : MC X.K) (pins : List (Addr × Obj)) (s : Shared) (σ : St) (H : Hp) (δ : Zj) (fp : Fp) (ex : Addr → Prop) (k : Addr → Zj → Prop), Inv X pins σ H s → Rel C io H σ δ fp ex → m δ k →
  wpAny (model X.prog X.w) X.A (eval e X.env) (fun _ _ => False) (XW X C io pins ex H fp k) s
noncomputable def XS (X : Cx) (io : List Nat) (st : Stmt) (m : MXt) : Prop := ∀ (C : MC X.K) (pins : List (Addr × Obj)) (s : Shared) (σ : St) (H : Hp) (δ : Zj) (fp : Fp) (ex : Addr → Prop) (k : Addr → Zj → Prop), Inv X pins σ H s → Rel C io H σ δ fp ex → m δ k →
  wpAny (model X.prog X.w) X.A (exec st X.env) (fun _ _ => False) (XW X C io pins ex H fp k) s
noncomputable def XSs (X : Cx) (io : List Nat) (sts : List Stmt) (m : MXt) : Prop := ∀ (C : MC X.K) (pins : List (Addr × Obj)) (s : Shared) (σ : St) (H : Hp) (δ : Zj) (fp : Fp) (ex : Addr → Prop) (k : Addr → Zj → Prop), Inv X pins σ H s → Rel C io H σ δ fp ex → m δ k →
  wpAny (model X.prog X.w) X.A (execs sts X.env) (fun _ _ => False) (XW X C io pins ex H fp k) s
theorem XW.shift {X : Cx} {C : MC X.K} {io : List Nat} {pins : List (Addr × Obj)} {ex : Addr → Prop} {H H1 : Hp} {fp fp1 : Fp} {k : Addr → Zj → Prop} {e : Value} {s : Shared} (q : Kp H fp H1 fp1) (h : XW X C io pins ex H1 fp1 k e s) : XW X C io pins ex H fp k e s := by
  obtain ⟨a, cl, σ', H', δ', fp', e, I, F, R, K, hk⟩ := h
  exact ⟨a, cl, σ', H', δ', fp', e, I, F, R, q.trans K, hk⟩
noncomputable def Zor : MXt := fun _ _ => False
noncomputable def Z4f (u : MSt) (w : MXt) : MXt := fun δ k => u { nx := fun δ' => w δ' k, rt := fun _ _ => False } δ
noncomputable def Z6o (t : MTt) (u w : MXt) : MXt := fun δ k => t δ fun b δ' => if b = true then u δ' k else w δ' k
noncomputable def Zph (cl : Addr) : MXt := fun δ k => k cl δ
section
variable {X : Cx} {io : List Nat} {p c : Bool} {e : Expr} {es : List Expr} {mr : MAt} {m : MXt} {pos : Pos} {st : Stmt} {sts a b : List Stmt} {u : MSt} {w v : MXt} {mt : MTt} {i : Nat} {x : Str}
theorem Zno : XSs X io sts Zor := fun _ _ _ _ _ _ _ _ _ _ _ h => h.elim
theorem Zr7 : XS X io st Zor := fun _ _ _ _ _ _ _ _ _ _ _ h => h.elim
theorem Zln (h : XS X io st w) : XSs X io (st :: sts) w := fun C pins s σ H δ fp ex k I R hm => wpAny_execs_cons (thn (h C pins s σ H δ fp ex k I R hm) fun _ _ z => z.elim)
theorem Zqy (h : MS X io st u) (g : XSs X io sts w) (hx : X.xe = fun _ _ => False := by rfl) : XSs X io (st :: sts) (Z4f u w) := by
  obtain ⟨t, A, sS⟩ := h
  intro C pins s σ H δ fp ex k I R hm
  refine wpAny_execs_cons (wpAny_mono (A pins s σ H { nx := fun σ1 H1 => ∃ δ1 fp1, Rel C io H1 σ1 δ1 fp1 ex ∧ Kp H fp H1 fp1 ∧ w δ1 k, rt := fun _ _ => False } I
    (sS C H σ δ fp ex _ _ R hm ⟨fun H' σ' δ' fp' R' k' h' => ⟨δ', fp', R', k', h'⟩, fun _ _ _ _ _ _ z => z.elim, fun _ _ _ _ _ _ z => z.elim, fun _ _ _ _ _ _ _ _ _ _ _ z => z.elim⟩)) (fun f s1 q => ?_) fun e s1 q => by rw [hx] at q; exact q.elim)
  cases f with
  | next =>
    obtain ⟨σ1, H1, I1, δ1, fp1, R1, k1, h1⟩ := q
    exact wpAny_mono (g C pins s1 σ1 H1 δ1 fp1 ex k I1 R1 h1) (fun _ _ z => z) fun e s2 z => z.shift k1
  | ret v => obtain ⟨_, _, _, _, _, z⟩ := q; exact z.elim
  | brk => obtain ⟨_, _, _, z⟩ := q; exact z.elim
  | cont => obtain ⟨_, _, _, z⟩ := q; exact z.elim
theorem Zwd (ht : MT X io p e mt) (ha : XSs X io a w) (hb : XSs X io b v) (hx : X.xe = fun _ _ => False := by rfl) : XS X io (.If e a b pos) (Z6o mt w v) := by
  obtain ⟨t, A, sT⟩ := ht
  intro C pins s σ H δ fp ex k I R hm
  refine wpAny_If (wpAny_mono (A pins s σ H (fun r H1 => ∃ δ1 fp1, Rel C io H1 σ δ1 fp1 ex ∧ Kp H fp H1 fp1 ∧ if r = true then w δ1 k else v δ1 k) I
    (sT C H σ δ fp ex _ _ R hm fun H' r δ' fp' R' S' h' => ⟨δ', fp', R', S'.kp, h'⟩)) (fun r s1 q => ?_) fun e s1 q => by rw [hx] at q; exact q.elim)
  obtain ⟨H1, I1, δ1, fp1, R1, k1, h1⟩ := q
  cases r with
  | true => exact wpAny_mono (ha C pins s1 σ H1 δ1 fp1 ex k I1 R1 h1) (fun _ _ z => z) fun e s2 z => z.shift k1
  | false => exact wpAny_mono (hb C pins s1 σ H1 δ1 fp1 ex k I1 R1 h1) (fun _ _ z => z) fun e s2 z => z.shift k1
theorem Zng (he : XE X io e m) (hs : swapsWith e none pos.line X.env = pure false := by rfl) : XS X io (.Expr e pos) m := fun C pins s σ H δ fp ex k I R hm =>
  wpAny_Expr_any (thn (he C pins s σ H δ fp ex k I R hm) fun _ _ z => z.elim) I.quiet hs
theorem Zzq (he : XE X io e m) : XS X io (.Return (some e) pos) m := fun C pins s σ H δ fp ex k I R hm => wpAny_Return_some (thn (he C pins s σ H δ fp ex k I R hm) fun _ _ z => z.elim)
theorem Z0c {pos' : Pos} (he : XE X io e m) (hs : swapsWith e (some (.Name x pos')) pos.line X.env = pure false := by rfl) : XS X io (.Assign [.Name x pos'] e pos) m := fun C pins s σ H δ fp ex k I R hm =>
  wpAny_Assign_Name (thn (he C pins s σ H δ fp ex k I R hm) fun _ _ z => z.elim) hs
theorem Zhy {C : Addr} {x j : Str} {jk : Nat} {np cpos pos kp : Pos} (hex : X.ex = []) (hh : X.A.handled = none) (hg : Gl X x) (hm : X.mg x = some (.ref C)) (q : Zpe X.K C) (hd : (x == ("__debug__" : Str)) = false := by decide) :
    XS X io (.Raise (some (.Call (.Name x np) [.Constant (.str j) jk kp] [] cpos)) none pos) (Zph C) := by
  intro M pins s σ H δ fp ex k I R hk
  obtain ⟨tl, N, nm, qn, bs, hdct, sn, sub, ab, col, dd, k0, k1, k2, k3, k5, mN, hC, hN, hni, TL⟩ := Zt8 I.ok.mod.kin q
  refine wpAny_Raise_call_subT (C := C) (nm := nm) (q := qn) (N := N) (bs := bs) (bm := tl) (hdct := hdct) (sn := sn) (sub := sub) (ab := ab) (col := col) (dd := dd) (k0 := k0) (k1 := k1) (k2 := k2) (k3 := k3) (k5 := k5)
    PySem.F.excBase_ValueError (mN := mN) (TL.hasType PySem.F.excBase_ValueError.hasBase) hh rfl hni (Zk2 I hg hm ⟨rfl, ?_⟩ hd)
  refine Calls.evalArgs_plain ?_
  refine Calls.spliced_cons ?_
  show wpAny _ _ (eval (.Constant (.str j) jk kp) X.env) _ _ _
  refine Calls.Constant_str ?_
  refine Calls.spliced_nil ?_
  have I1 := I.tok (s.toks + 1)
  refine ⟨rfl, by show 1 ≤ sizeLine; decide, I1.bk _ _ hC, hN.keeps I1.bk, TL.keeps I1.bk, fun h' e hx => ?_⟩
  obtain ⟨t, e1, _, _⟩ := hx.there
  have I2 := I1.kept (t' := s.toks + 1) hx.keeps
  exact ⟨e, C, σ, H, δ, fp, rfl, I2, .inr (.inl ⟨_, _, _, e1, ⟨rfl, rfl⟩, rfl, rfl, I1.apart hex hx.new (I1.unheld hx.new)⟩), R, .refl _ _, hk⟩
end
end L2
namespace L2
open PySem PySem.Spec PyProof.Rows
noncomputable def CX1 (P : Program) (w : World) : CXT := fun outer H s E e s' => ∃ a C H', e = .ref a ∧ s'.os = s.os ∧ AllBare s'.gens ∧ Un (frs outer) [] H H' s.heap s'.heap ∧ HOk P w H' s'.heap ∧ Fl (fun b => H' b = none ∧ s.heap.get? b = none) C a .none s'.heap ∧ E (.ref C) none H'
noncomputable def spX (G : PySem.W.Frag) (S : List PyData → Addr → Prop) : Sp := fun vs H Q E => ∃ L ds cl, Das G H L vs ds ∧ S ds cl ∧ ∀ H', Same H H' → E (.ref cl) none H'
section
variable {P : Program} {w : World} {K : PySem.W.Frag} {mg : Str → Option Value} {base : Heap}
theorem Fun.okX {x qual : Str} {st : Stmt} {f : Addr} {fd : FuncData} {N ps : List Str} {n : Nat} {S : List PyData → Addr → Prop} (F : Fun K x qual st f fd) (Sc : Z8 N ps (Zi st)) (len : ∀ ds cl, S ds cl → ds.length = ps.length)
    (hbody : ∀ (cdv : Value) (A : Around) (outer : List Env) (s : Shared) (H : Hp) (E : XK), Room n (A.deeper (envOfC qual (Zi st) s.heap.objs.size f cdv)) →
      ∃ m, XSs (Zqx (CX1 P w) P w K mg base N qual (Zi st) f cdv A outer s H E).nox [] (Z6 st) m ∧ ∀ ds cl, S ds cl → m (Zg4 N ds) (fun c _ => c = cl)) : FnOk P w K mg base (CX1 P w) (n + 1) f fd ps (spX K S) := by
  obtain ⟨oc, od, kV, doc, pm, an, cdv, ct, osl, rfl, lk, hcd⟩ := F.ex
  refine Zx7 lk hcd Sc (fun vs H Q E h => ?_) fun A outer s H vs Q E hr hsp => ?_
  · obtain ⟨L, ds, cl, h1, h2, _⟩ := h
    rw [h1.length]
    exact len ds cl h2
  obtain ⟨L, ds, cl, h1, h2, h3⟩ := hsp
  obtain ⟨m, hX, q⟩ := hbody cdv A outer s H E hr
  refine ⟨fun _ σ' H' => σ' = start N vs ∧ H' = H, fun pins s1 σ1 H1 D I e => ?_, rfl, rfl⟩
  obtain ⟨rfl, rfl⟩ := e
  refine wpAny_mono (hX ⟨H1, fun _ => False, L, start N vs⟩ pins s1 _ _ _ _ _ (fun c _ => c = cl) (I.wish _) (Rel.entry h1) (q ds cl h2)) (fun _ _ z => z.elim) fun e s' z => ?_
  obtain ⟨a, cl', σ', H', δ', fp', rfl, I', F', R', K', rfl⟩ := z
  exact Znw I' rfl rfl rfl I'.ok.frames F' fun s'' J FF => ⟨a, cl', H', rfl, J.os, J.bare, J.base, J.hok, FF.imp fun b ap => ⟨ap.fr, ap.new⟩, h3 H' fun b o e => R'.fr b o e id⟩
end
theorem Rel.grown {G : PySem.W.Frag} {C : MC G} {io : List Nat} {H H' : Hp} {σ : St} {δ : Zj} {fp : Fp} {ex : Addr → Prop} (R : Rel C io H σ δ fp ex) (s : Same H H') : Rel C io H' σ δ fp ex :=
  (R.made (new := []) s (fun a m => nomatch m)).drop fun a z => .inl z
noncomputable def Zs6 (S : List PyData → Addr → Prop) (mr : MAt) : MXt := fun δ k => mr δ fun rs δ1 => ∃ cl, S (OT.datas rs) cl ∧ k cl δ1
section
variable {X : Cx} {io : List Nat} {p c : Bool} {e : Expr} {es : List Expr} {mr : MAt} {pos pp : Pos} {k : Nat} {f : Addr} {fd : FuncData} {ps : List Str} {x : Str}
theorem Zip {S} (F : FnOk X.prog X.w X.K X.mg X.base (CX1 X.prog X.w) k f fd ps (spX X.K S)) (hr : Room k X.A) (hg : Gl X x) (hm : X.mg x = some (.ref f)) (hk : PySem.W.keepIn X.K (.ref f) = true) (hb : Binds X.K fd ps [])
    (ha : MA X io p c (e :: es) mr) (hex : X.ex = [] := by rfl) (hx : X.xe = fun _ _ => False := by rfl) (hdb : (x == ("__debug__" : Str)) = false := by decide) (he : starEach (e :: es) X.env = (false, eval e X.env) :: starEach es X.env := by rfl) (hpl : (backTo pos (starEach es X.env)).any (·.1) = false := by rfl) :
    XE X io (.Call (.Name x pp) (e :: es) [] pos) (Zs6 S mr) := by
  obtain ⟨t, A, sA⟩ := ha
  intro C pins s σ H δ fp ex kk I R hm'
  refine wpAny_Call_Name_kw (Zk2 I hg hm ?_ hdb)
  refine PySem.W.callWith_K (h₀ := X.base) I.ok.mod.kin hk (wpAny_mono (A pos pins s σ H (fun vs H1 => ∃ δ1 fp1 L ds cl, Rel C io H1 σ δ1 fp1 ex ∧ Kp H fp H1 fp1 ∧ Das X.K H1 L vs ds ∧ S ds cl ∧ kk cl δ1) I
    (sA C H σ δ fp ex _ _ R hm' fun H1 vs rs δ1 fp1 new r1 h1 => let ⟨cl, h2, h3⟩ := h1; ⟨δ1, fp1, _, _, cl, r1.base, r1.stp.kp, r1.das R, h2, h3⟩)) (fun us s1 ⟨vs, H1, I1, r, q⟩ => ⟨I1.kIn, ?_⟩) fun e s1 z => by rw [hx] at z; exact z.elim) he hpl
  obtain ⟨δ1, fp1, L, ds, cl, R1, k1, hd, hS, hkk⟩ := q
  have hsp : spX X.K S vs H1 (fun _ _ => False) (fun c _ H' => c = .ref cl ∧ Same H1 H') := ⟨L, ds, cl, hd, hS, fun H' s => ⟨rfl, s⟩⟩
  have hl : (us ++ []).length = ps.length := by rw [List.append_nil, ← r.length]; exact F.len _ _ _ _ hsp
  have hB := hb s1 us I1.kIn hl
  rw [List.append_nil] at hB
  refine wpAny_call (codeAny_mono (F.run X.A X.stack s1 H1 ⟨us, []⟩ us vs _ _ hr I1.env0 hB r hsp) fun res s' hq => ?_)
  cases res with
  | error e =>
    obtain ⟨a, C', H', rfl, ho, bare, un, hok, FF, eC, same⟩ := hq
    cases eC
    have J := I1.call' (ch := []) ho un hok bare fun b z => nomatch z
    exact ⟨a, cl, σ, H', δ1, fp1, rfl, J, .inl (FF.imp fun b z => I1.apart hex z.2 z.1), R1.grown same, k1.trans (Stp.same same same.al), hkk⟩
  | ok fl =>
    cases fl with
    | ret u => obtain ⟨_, _, _, _, _, _, _, z⟩ := hq; exact z.elim
    | next => exact False.elim hq
    | brk => exact False.elim hq
    | cont => exact False.elim hq
end
section
variable {X : Cx} {pins : List (Addr × Obj)} {σ : St} {H : Hp} {s : Shared} {a C : Addr}
noncomputable abbrev Cx.suite (X : Cx) (a : Addr) : Cx := { X with A := X.A.mark (some (.ref a)), calm := false }
end
end L2
namespace L2
open PySem PySem.Spec PyProof.Rows
section
variable {X : Cx} {io : List Nat} {i : Nat} {n y : Str} {Dc : Addr} {b₀ : Stmt} {body suite : List Stmt} {pos hpos np : Pos} {u h : MSt} {x : MXt}
end
end L2
namespace L2
open PySem PySem.Spec PyProof.Rows
theorem Zt1 (b : Bool) (k : Bool → Prop) : asB (.bool b) k = k b := rfl
inductive Z2h : V → Value → Prop where
  | own (D : Addr) : Z2h (.ref D) (.ref D)
  | ty (T : String) : Z2h (.ty T) (.type T)
inductive ClsVs : List V → List Value → Prop where
  | nil : ClsVs [] []
  | cons {v : V} {c : Value} {vs : List V} {cs : List Value} : Z2h v c → ClsVs vs cs → ClsVs (v :: vs) (c :: cs)
theorem ClsVs.length : ∀ {vs : List V} {cs : List Value}, ClsVs vs cs → vs.length = cs.length
  | _, _, .nil => rfl
  | _, _, .cons _ t => by simp [t.length]
section
variable {X : Cx} {io : List Nat} {p c : Bool} {a b : Expr} {ma : MEt} {pos pp p2 : Pos}
end
end L2
namespace L2
open PySem PySem.Spec PyProof.Rows PySem.P
section
variable {prog : Program} {w : World} {A : Around} {E : Value → Shared → Prop} {s : Shared} {e t0 C : Addr} {o : Obj} {vs : Array Value} {K : PySem.W.Frag} {m : Str} {tk : Tok}
structure Z7y (s : Shared) (e C t0 : Addr) (m : Str) (tk : Tok) : Prop where
  ob : ∃ o vs, s.heap.get? e = some o ∧ o.cls = .ref C ∧ o.data = .fields vs ∧ vs[0]? = some (.ref t0)
  tx : s.heap.TupAt t0 [.str m tk]
end
section
variable {X : Cx} {C : Addr} {x j : Str} {jk : Nat} {np cpos pos kp p1 : Pos}
end
end L2
namespace L2
open PySem PySem.Spec PyProof.Rows
variable {G : PySem.W.Frag}
section
variable {X : Cx} {io : List Nat} {p c : Bool} {e : Expr} {m : MEt} {pos apos cpos px : Pos} {i : Nat} {x : Str}
end
end L2
namespace L2
open PySem PySem.Spec PyProof.Rows
variable {G : PySem.W.Frag}
section
variable {X : Cx} {io : List Nat} {e : Expr} {pos apos cpos px pt pl p2 : Pos} {i j : Nat} {x y : Str}
end
section
variable {X : Cx} {io : List Nat} {e : Expr} {i : Nat} {y : Str}
end
end L2
namespace L2
open PySem PySem.Spec PyProof.Rows
section
variable {X : Cx} {pins : List (Addr × Obj)} {σ : St} {H : Hp} {s : Shared} {M : Model} {A : Around} {E : Value → Shared → Prop} {Q : Unit → Shared → Prop} {C a L : Addr} {fl : Value}
theorem Zrh (I : Inv X pins σ H s) (F : Fl (Apart X pins H) C a fl s.heap)
    (h : ∀ s', Inv X pins σ H s' → Fl (Apart X pins H) C a (rawInt L) s'.heap → Q () s') : wpAny M A (setFlight (.ref a) (some L)) Q E s := by
  obtain ⟨a0, oe, vs, T, oT, ts, eA, cA, dA, v1, nT, eT, dT, t3, pA, pT⟩ := F
  have hsz : 3 < ts.size := (Array.getElem?_eq_some_iff.mp t3).1
  unfold setFlight
  refine wpAny_bind (wpAny_field eA dA v1 ?_)
  rw [if_pos (show (Value.ref T != Value.none) = true from by simp)]
  refine wpAny_setField eT dT hsz ?_
  have hm : Obj.mapFields (fun z => z.setIfInBounds 3 ((some L : Option Addr).elim Value.none fun f => rawInt f)) oT = { oT with data := .fields (ts.setIfInBounds 3 (rawInt L)) } := by
    obtain ⟨c1, c2, c3, c4⟩ := oT
    have dT' : c3 = .fields ts := dT
    subst dT'
    rfl
  have self := Heap.get?_update_self (Obj.mapFields (fun z => z.setIfInBounds 3 ((some L : Option Addr).elim Value.none fun f => rawInt f))) eT (by rw [hm]; rfl)
  have other : ∀ b o, b ≠ T → s.heap.get? b = some o → (s.heap.update T (Obj.mapFields (fun z => z.setIfInBounds 3 ((some L : Option Addr).elim Value.none fun f => rawInt f)))).get? b = some o := fun b o n e => (Heap.get?_update_other _ _ (Ne.symm n)).trans e
  rw [hm] at self
  refine h _ (I.flown (t' := s.toks) (ch := [T]) (fun b hb => by rw [List.mem_singleton.mp hb]; exact pT) (fun b o hf hc e => other b o (fun z => hc (by simp [z])) e) fun b o hb e => ?_) ⟨a0, oe, vs, T, _, _, other a oe (Ne.symm nT) eA, cA, dA, v1, nT, self, rfl, ?_, pA, pT⟩
  · obtain ⟨_, o', ho', hd⟩ := I.stack.mem hb
    have hbT : b ≠ T := fun z => by
      subst z
      rw [eT] at ho'
      cases ho'
      exact hd ts dT
    exact ⟨o.slots, other b o hbT e⟩
  · simp [hsz]
theorem Zo1 {Cm : MC X.K} {io : List Nat} {ex : Addr → Prop} {fp : Fp} {k : Addr → Zj → Prop} (hex : X.ex = [] := by rfl) (hst : X.stack = X.env :: X.outer := by rfl) (hf : X.env.frame = some X.env.locals := by rfl) :
    PassesOwn (model X.prog X.w) X.A X.env (XW X Cm io pins ex H fp k) := by
  rintro e s' ⟨a, cl, σ', H', δ', fp', rfl, I, F, R, Kp, hk⟩
  refine Zl0 I hex hst hf I.ok.frames F fun s1 I1 F1 => ?_
  have F1' := F1
  obtain ⟨a0, oe, vs, T, oT, ts, eA, cA, dA, v1, nT, eT, dT, t3, pA, pT⟩ := F1
  show wpAny _ _ _ _ _ s1
  refine wpAny_bind (wpAny_field eA dA v1 ?_)
  rw [if_neg (by simp)]
  rw [hf]
  exact Zrh I1 F1' fun s2 I2 F2 => ⟨a, cl, σ', H', δ', fp', rfl, I2, .inr (.inr F2), R, Kp, hk⟩
end
end L2
namespace L2
open PySem PySem.Spec PyProof.Rows
noncomputable def Zxs (ds : List PyData) (g : MGt) (u : MSt) (x : MXt) (δ : Zj) (k : Addr → Zj → Prop) : Prop := ∃ (I : Nat → Zj → Prop) (r : Nat), r < ds.length ∧ I 0 δ ∧
  (∀ i d δ', i < r → ds[i]? = some d → I i δ' → g d δ' fun δ2 => u { nx := I (i + 1), ct := I (i + 1), rt := fun _ _ => False } δ2) ∧ ∀ d δ', ds[r]? = some d → I r δ' → g d δ' fun δ2 => x δ2 k
noncomputable def Z0f (mi : MIt) (g : MGt) (u : MSt) (x : MXt) : MXt := fun δ k => mi δ fun ds δ1 => Zxs ds g u x δ1 k
section
variable {X : Cx} {io : List Nat} {p : Bool} {tg iter : Expr} {body : List Stmt} {mi : MIt} {g : MGt} {u : MSt} {x : MXt} {pos : Pos}
theorem XW.unpin {C : MC X.K} {pins more : List (Addr × Obj)} {ex : Addr → Prop} {H : Hp} {fp : Fp} {k : Addr → Zj → Prop} {e : Value} {s : Shared} (h : XW X C io (pins ++ more) ex H fp k e s) : XW X C io pins ex H fp k e s := by
  obtain ⟨a, cl, σ', H', δ', fp', rfl, I, F, R, K, hk⟩ := h
  have ap : ∀ b, Apart X (pins ++ more) H' b → Apart X pins H' b := fun b z => ⟨z.fr, z.new, z.loc, z.cel, fun q hq => z.pin q ((List.mem_append.mp hq).elim (fun m => List.mem_append_left _ m) fun m => List.mem_append_right _ (List.mem_append_left _ m))⟩
  refine ⟨a, cl, σ', H', δ', fp', rfl, I.unpinned, ?_, R, K, hk⟩
  rcases F with F | F | F
  · exact .inl (F.imp ap)
  · obtain ⟨a0, oe, vs, eA, cA, dA, v1, pA⟩ := F
    exact .inr (.inl ⟨a0, oe, vs, eA, cA, dA, v1, ap _ pA⟩)
  · exact .inr (.inr (F.imp ap))
theorem Z0p (hc : X.calm = true) (hi : MI X io p true tg iter mi) (hg : MG X io true tg g) (hb : MSs X io body u) (hbx : XSs X io body x) (hx : X.xe = fun _ _ => False := by rfl)
    (hex : X.ex = [] := by rfl) (hst : X.stack = X.env :: X.outer := by rfl) (hf : X.env.frame = some X.env.locals := by rfl) (hs : ∀ x, foldedSetIterable iter X.env x = pure x := by intro _; rfl) : XS X io (.For tg iter body [] pos) (Z0f mi g u x) := by
  obtain ⟨_, A, sI⟩ := hi
  obtain ⟨gt, G, sg⟩ := hg
  obtain ⟨tb, B, sb⟩ := hb
  intro C pins s σ H δ fp ex k I R hm
  have hp : PassesOwn (model X.prog X.w) X.A X.env (XW X C io pins ex H fp k) := Zo1 hex hst hf
  have no : ∀ (E : Value → Shared → Prop) (e : Value) (s' : Shared), X.xe e s' → E e s' := fun E e s' z => by rw [hx] at z; exact z.elim
  refine wpAny_For (wpAny_mono (A pins s σ H (fun J H1 => ∃ W : Nat → Nat → St → Hp → Prop, (∃ m, W 0 m σ H1) ∧ ∀ i m σ' H', W i m σ' H' → J.go i H' ∧ ∃ N : St → Hp → Prop, (∀ σ2 H2, N σ2 H2 → ∃ m', m' < m ∧ W (i + 1) m' σ2 H2) ∧
      ∀ x' H3, J.yld i H' x' H3 → gt x' σ' H3 fun σ4 H4 => tb { nx := N, ct := N, bk := fun _ _ => False, rt := fun _ _ => False } σ4 H4 ∨ ∃ δ4 fp4, Rel C io H4 σ4 δ4 fp4 ex ∧ Kp H fp H4 fp4 ∧ x δ4 k) I (sI C H σ δ fp ex _ _ R hm fun J H1 ds δ1 fp1 R1 S1 it h1 => ?_)) (fun v s1 h1 => wpAny_mono h1 (fun itv s2 h2 => ?_) (no _)) (no _)) hs
  · obtain ⟨I0, r, hr, h0, turn, last⟩ := h1
    refine ⟨fun i n σ' H' => n = r - i ∧ i ≤ r ∧ ∃ δ' fp', Rel C io H' σ' δ' fp' ex ∧ Kp H1 fp1 H' fp' ∧ I0 i δ', ⟨r, rfl, Nat.zero_le _, δ1, fp1, R1, .refl _ _, h0⟩, ?_⟩
    rintro i n σ2 H2 ⟨rfl, hle, δ2, fp2, R2, k2, i2⟩
    have itk := it H2 (fun b o e q => k2.keep b o e (.inr (q.resolve_left (by decide)))) i
    have hlt : i < ds.length := by omega
    have hd : ds[i]? = some ds[i] := List.getElem?_eq_getElem hlt
    obtain ⟨go, yl⟩ := itk.1 _ hd
    refine ⟨go, fun σ' H' => i < r ∧ ∃ δ' fp', Rel C io H' σ' δ' fp' ex ∧ Kp H1 fp1 H' fp' ∧ I0 (i + 1) δ', fun σ' H' ⟨hir, δ', fp', R', k', i'⟩ => ⟨r - (i + 1), by omega, rfl, hir, δ', fp', R', k', i'⟩, fun x' H3 hy => ?_⟩
    obtain ⟨s3, q3⟩ := yl x' H3 hy
    have R3 := R2.mk0 s3
    have k3 : Kp H1 fp1 H3 fp2 := k2.trans ⟨fun b o e _ => s3 _ _ e, fun z => (nomatch z), fun a z => .inl z, s3.al⟩
    by_cases hir : i < r
    · refine sg C H3 σ2 δ2 fp2 ex x' _ _ _ R3 (IterOk.at (H' := H2) (J := J) (ds := ds) k2.grow q3) (turn i _ δ2 hir hd i2) fun σ4 δ4 fp4 R4 k4 h4 => ?_
      have k5 := k3.trans k4
      exact .inl (sb C H3 σ4 δ4 fp4 ex _ _ R4 h4 ⟨fun H' σ' δ' fp' R' k' n' => ⟨hir, δ', fp', R', k5.trans k', n'⟩, fun _ _ _ _ _ _ z => z.elim, fun H' σ' δ' fp' R' k' n' => ⟨hir, δ', fp', R', k5.trans k', n'⟩, fun _ _ _ _ _ _ _ _ _ _ _ z => z.elim⟩)
    · have e : i = r := by omega
      subst e
      refine sg C H3 σ2 δ2 fp2 ex x' _ _ _ R3 (IterOk.at (H' := H2) (J := J) (ds := ds) k2.grow q3) (last _ δ2 hd i2) fun σ4 δ4 fp4 R4 k4 h4 => ?_
      exact .inr ⟨δ4, fp4, R4, S1.kp.trans (k3.trans k4), h4⟩
  · obtain ⟨it, fpi, tn, J, H2, e, I2, T, st2, f2, W, ⟨m0, w0⟩, turn⟩ := h2
    subst e
    have stat : ∀ {H' : Hp}, (∀ b ∈ fpi, H' b = none) → ∀ b ∈ fpi, Zo4 X pins H' b := fun hn b hb => ⟨hn b hb, (f2 b hb).2⟩
    refine codeAny_forLoop_any (fun n s' => ∃ i σ' H', Inv X pins σ' H' s' ∧ tn i s'.heap ∧ (∀ b ∈ fpi, H' b = none) ∧ W i n σ' H') ?_ m0 ⟨0, σ, H2, I2, st2, fun b hb => (f2 b hb).1, w0⟩
    rintro n s3 ⟨i, σ3, H3, I3, st3, fr3, w3⟩
    obtain ⟨go, N, hN, step⟩ := turn i n σ3 H3 w3
    refine wpAny_passesOwn hp (wpAny_mono (T.item X rfl rfl rfl hc i pins s3 σ3 H3 X.xe I3 (stat fr3) st3 go) (fun r s4 qz9 => ?_) (no _))
    obtain ⟨u', hr, h4⟩ := qz9
    subst hr
    refine wpAny_passesOwn hp (wpAny_mono h4 (fun _ s5 qz9 => ?_) (no _))
    obtain ⟨x5, H5, I5, r5, y5, st5, fr5⟩ := qz9
    have I5' := I5.pinned (stat fr5) (T.obj _ _ st5)
    refine wpAny_passesOwn hp (wpAny_mono (G _ s5 σ3 H5 x5 u' _ I5' r5 (step x5 H5 y5)) (fun _ s6 qz9 => ?_) (no _))
    obtain ⟨σ6, H6, I6, q6⟩ := qz9
    rcases q6 with q6 | ⟨δ4, fp4, R4, K4, h4⟩
    · refine wpAny_passesOwn hp (wpAny_mono (B _ s6 σ6 H6 _ I6 q6) (fun f s7 q7 => ?_) (no _))
      have again : ∀ {σ7 : St} {H7 : Hp}, Inv X (pins ++ Zhc fpi s5.heap) σ7 H7 s7 → N σ7 H7 → ∃ m, m < n ∧ ∃ i σ' H', Inv X pins σ' H' s7 ∧ tn i s7.heap ∧ (∀ b ∈ fpi, H' b = none) ∧ W i m σ' H' := fun {σ7 H7} I7 n7 => by
        obtain ⟨m', hm, w7⟩ := hN σ7 H7 n7
        refine ⟨m', hm, i + 1, σ7, H7, I7.unpinned, T.keep _ _ _ st5 fun b hb o e => (I7.pin (b, o) (List.mem_append_right _ (List.mem_append_right _ (Zay hb e)))).1, fun b hb => ?_, w7⟩
        obtain ⟨o, e, d⟩ := T.obj _ _ st5 b hb
        exact (I7.pin (b, o) (List.mem_append_right _ (List.mem_append_right _ (Zay hb e)))).2.1
      cases f with
      | next => obtain ⟨σ7, H7, I7, n7⟩ := q7; exact again I7 n7
      | cont => obtain ⟨σ7, H7, I7, n7⟩ := q7; exact again I7 n7
      | brk => obtain ⟨_, _, _, z⟩ := q7; exact z.elim
      | ret v => obtain ⟨_, _, _, _, _, z⟩ := q7; exact z.elim
    · exact wpAny_passesOwn hp (wpAny_mono (hbx C _ s6 σ6 H6 δ4 fp4 ex k I6 R4 h4) (fun _ _ z => z.elim) fun e s7 z => (z.shift K4).unpin)
end
end L2
namespace L2
open PySem PySem.Spec PyProof.Rows
noncomputable abbrev FE := Zj → Option (OT × Zj)
noncomputable abbrev FA := Zj → Option (List OT × Zj)
noncomputable abbrev FT := Zj → Option (Bool × Zj)
noncomputable abbrev FI := Zj → Option (List PyData × Zj)
noncomputable abbrev FO := Zj → Option (Option Int × Zj)
noncomputable abbrev FG := PyData → Zj → Option Zj
noncomputable abbrev FGs := List PyData → Zj → Option Zj
noncomputable def o2 {α : Type} (f : Zj → Option (α × Zj)) : Zj → (α → Zj → Prop) → Prop := fun δ K => ∃ r δ', f δ = some (r, δ') ∧ K r δ'
noncomputable def oG (g : FG) : MGt := fun d δ k => ∃ δ', g d δ = some δ' ∧ k δ'
noncomputable def oGs (g : FGs) : Zqv := fun d δ k => ∃ δ', g d δ = some δ' ∧ k δ'
section
variable {X : Cx} {io : List Nat} {p c : Bool} {e tg : Expr} {es : List Expr} {m m' : MEt} {mr mr' : MAt} {mt mt' : MTt} {mi mi' : MIt} {g g' : MGt} {gs gs' : Zqv} {mo mo' : MOt} {st : Stmt} {sts : List Stmt} {u u' : MSt} {eo : Option Expr}
theorem ME.weak (h : ME X io p c e m) (w : ∀ δ K, m' δ K → m δ K) : ME X io p c e m' := let ⟨t, A, s⟩ := h; ⟨t, A, fun C H σ δ fp ex K Q R h k => s C H σ δ fp ex K Q R (w δ K h) k⟩
theorem MA.weak (h : MA X io p c es mr) (w : ∀ δ K, mr' δ K → mr δ K) : MA X io p c es mr' := let ⟨t, A, s⟩ := h; ⟨t, A, fun C H σ δ fp ex K Q R h k => s C H σ δ fp ex K Q R (w δ K h) k⟩
theorem MT.weak (h : MT X io p e mt) (w : ∀ δ K, mt' δ K → mt δ K) : MT X io p e mt' := let ⟨t, A, s⟩ := h; ⟨t, A, fun C H σ δ fp ex K Q R h k => s C H σ δ fp ex K Q R (w δ K h) k⟩
theorem MW.weak (h : MW X io p e mt) (w : ∀ δ K, mt' δ K → mt δ K) : MW X io p e mt' := let ⟨t, A, s⟩ := h; ⟨t, A, fun C H σ δ fp ex K Q R h k => s C H σ δ fp ex K Q R (w δ K h) k⟩
theorem MIfs.weak (h : MIfs X io p es mt) (w : ∀ δ K, mt' δ K → mt δ K) : MIfs X io p es mt' := let ⟨t, A, s⟩ := h; ⟨t, A, fun C H σ δ fp ex K Q R h k => s C H σ δ fp ex K Q R (w δ K h) k⟩
theorem MI.weak (h : MI X io p c tg e mi) (w : ∀ δ K, mi' δ K → mi δ K) : MI X io p c tg e mi' := let ⟨t, A, s⟩ := h; ⟨t, A, fun C H σ δ fp ex K Q R h k => s C H σ δ fp ex K Q R (w δ K h) k⟩
theorem MO.weak (h : MO X io p eo mo) (w : ∀ δ K, mo' δ K → mo δ K) : MO X io p eo mo' := let ⟨t, A, s⟩ := h; ⟨t, A, fun C H σ δ fp ex K Q R h k => s C H σ δ fp ex K Q R (w δ K h) k⟩
theorem MG.weak (h : MG X io c tg g) (w : ∀ d δ K, g' d δ K → g d δ K) : MG X io c tg g' := let ⟨t, A, s⟩ := h; ⟨t, A, fun C H σ δ fp ex v d k Q R q h kk => s C H σ δ fp ex v d k Q R q (w d δ k h) kk⟩
theorem MGs.weak (h : MGs X io c es gs) (w : ∀ d δ K, gs' d δ K → gs d δ K) : MGs X io c es gs' := let ⟨t, A, s⟩ := h; ⟨t, A, fun C H σ δ fp ex v d k Q R q h kk => s C H σ δ fp ex v d k Q R q (w d δ k h) kk⟩
theorem MS.weak (h : MS X io st u) (w : ∀ D δ, u' D δ → u D δ) : MS X io st u' := let ⟨t, A, s⟩ := h; ⟨t, A, fun C H σ δ fp ex D D' R h E => s C H σ δ fp ex D D' R (w D δ h) E⟩
theorem MSs.weak (h : MSs X io sts u) (w : ∀ D δ, u' D δ → u D δ) : MSs X io sts u' := let ⟨t, A, s⟩ := h; ⟨t, A, fun C H σ δ fp ex D D' R h E => s C H σ δ fp ex D D' R (w D δ h) E⟩
end
noncomputable def Zg (i : Nat) : FE := fun δ => match δ[i]? with | some (some (.fz d)) => some (.fz d, δ) | _ => none
noncomputable def Zmf (i : Nat) : FE := fun δ => match δ[i]? with | some (some t) => some (.fz t.data, δ) | _ => none
noncomputable def fC (d : PyData) : FE := fun δ => some (.fz d, δ)
noncomputable def Zk (g : PyData → PyData → Option PyData) (a b : FE) : FE := fun δ => (a δ).bind fun p => (b p.2).bind fun q => (g p.1.data q.1.data).bind fun d => some (.fz d, q.2)
noncomputable def W5 (g : PyData → PyData → Option OT) (a b : FE) : FE := fun δ => (a δ).bind fun p => (b p.2).bind fun q => (g p.1.data q.1.data).bind fun d => some (d, q.2)
noncomputable def fUn (g : PyData → Option PyData) (a : FE) : FE := fun δ => (a δ).bind fun p => (g p.1.data).bind fun d => some (.fz d, p.2)
noncomputable def Zvk (a b : FE) : FE := fun δ => (a δ).bind fun p => match p.1.data with | .bool true => b p.2 | .bool false => some (.fz (.bool false), p.2) | _ => none
noncomputable def fOr (a b : FE) : FE := fun δ => (a δ).bind fun p => match p.1.data with | .bool true => some (.fz (.bool true), p.2) | .bool false => b p.2 | _ => none
noncomputable def fIf (t : FT) (a b : FE) : FE := fun δ => (t δ).bind fun p => if p.1 = true then a p.2 else b p.2
noncomputable def tV (e : FE) : FT := fun δ => (e δ).bind fun p => match p.1 with | .fz (.bool b) => some (b, p.2) | _ => none
noncomputable def tNo (t : FT) : FT := fun δ => (t δ).bind fun p => some (!p.1, p.2)
noncomputable def tAn (t u : FT) : FT := fun δ => (t δ).bind fun p => if p.1 = true then u p.2 else some (false, p.2)
noncomputable def tO (t u : FT) : FT := fun δ => (t δ).bind fun p => if p.1 = true then some (true, p.2) else u p.2
noncomputable def tD (e : FE) : FT := fun δ => (e δ).bind fun p => (Zrx p.1.data).bind fun b => some (b, p.2)
noncomputable def Yk : FA := fun δ => some ([], δ)
noncomputable def Zh (e : FE) (a : FA) : FA := fun δ => (e δ).bind fun p => (a p.2).bind fun q => some (p.1 :: q.1, q.2)
noncomputable def Zg8 (a : FA) : FE := fun δ => (a δ).bind fun p => if p.1.length ≤ sizeLine then some (.fz (.tuple (OT.datas p.1)), p.2) else none
noncomputable def Zp1 (a : FA) : FE := fun δ => (a δ).bind fun p => if p.1.length ≤ sizeLine then some (.nd p.1, p.2) else none
noncomputable def Z3w (e : FE) : FE := fun δ => (e δ).bind fun p => if Zfd p.1.data = true then some (.fz p.1.data, p.2) else none
noncomputable def Z1a (e : FE) : FE := fun δ => (e δ).bind fun p => if Zve p.1 = true then some (p.1, p.2) else none
inductive RF where
  | ok (r : OT)
  | exn (c : Str)
  | bad
noncomputable abbrev FD := List PyData → RF
noncomputable abbrev FIO := OT → List PyData → Option (OT × OT)
noncomputable def Wa (F : FD) (a : FA) : FE := fun δ => (a δ).bind fun p => match F (OT.datas p.1) with | .ok r => some (r, p.2) | _ => none
noncomputable def Zs1 (i : Nat) (F : FIO) (a : FA) : FE := fun δ => match δ[i]? with
  | some (some _) => (a δ).bind fun p => match p.2[i]? with
    | some (some t) => (F t (OT.datas p.1)).bind fun q => some (q.1, p.2.set i (some q.2))
    | _ => none
  | _ => none
noncomputable def Ze5 (g : List PyData → Option PyData) (a : FA) : FE := fun δ => (a δ).bind fun p => (g (OT.datas p.1)).bind fun d => some (.fz d, p.2)
noncomputable def fBl (g : List PyData → Option OT) (a : FA) : FE := fun δ => (a δ).bind fun p => (g (OT.datas p.1)).bind fun d => some (d, p.2)
noncomputable def Zt2 (T : String) (e : FE) : FE := fun δ => (e δ).bind fun p => if Zgp p.1.data = true then none else some (.fz (.bool (Zne T p.1.data)), p.2)
noncomputable def oN : FO := fun δ => some (none, δ)
noncomputable def oI (e : FE) : FO := fun δ => (e δ).bind fun p => match p.1.data with | .int i => some (some i, p.2) | _ => none
noncomputable def fSl (e : FE) (lo hi : FO) : FE := fun δ => (e δ).bind fun p => (lo p.2).bind fun q => (hi q.2).bind fun r => match p.1.data with | .list ds => some (.nd ((cutD ds q.1 r.1).map OT.fz), r.2) | _ => none
noncomputable def Zgo (e : FE) : FI := fun δ => (e δ).bind fun p => match p.1.data with | .list ds => some (ds, p.2) | _ => none
noncomputable def iTp (e : FE) : FI := fun δ => (e δ).bind fun p => match p.1.data with | .tuple ds => some (ds, p.2) | _ => none
noncomputable def rOk (j : Int) : Bool := decide (-(2 ^ 62) ≤ j) && decide (j < 2 ^ 62)
theorem Zcz {j : Int} (h : rOk j = true) : -(2 ^ 62) ≤ j ∧ j < 2 ^ 62 := by
  unfold rOk at h
  rw [Bool.and_eq_true] at h
  exact ⟨of_decide_eq_true h.1, of_decide_eq_true h.2⟩
theorem Zg2 {j : Int} (h0 : -1000000 ≤ j) (h1 : j ≤ 1000000) : rOk j = true := by
  unfold rOk
  rw [decide_eq_true (show -(2 ^ 62) ≤ j by omega), decide_eq_true (show j < 2 ^ 62 by omega)]; rfl
noncomputable def iRa (a : FA) : FI := fun δ => (a δ).bind fun p => match OT.datas p.1 with | [.int j] => if rOk j = true then some (Zda 0 j.toNat, p.2) else none | _ => none
noncomputable def iRb (a : FA) : FI := fun δ => (a δ).bind fun p => match OT.datas p.1 with | [.int i, .int j] => if (rOk i && rOk j) = true then some (Zda i (j - i).toNat, p.2) else none | _ => none
noncomputable def Zy2 (a : FA) : FI := fun δ => (a δ).bind fun p => match OT.datas p.1 with | [.list as, .list bs] => some (Z15 as bs, p.2) | _ => none
noncomputable def gNm (i : Nat) : FG := fun d δ => some (δ.set i (some (.fz d)))
noncomputable def Z78 (i : Nat) : FG := fun d δ => if Zfd d = true then some (δ.set i (some (.fz d))) else none
noncomputable def gNl : FGs := fun ds δ => match ds with | [] => some δ | _ => none
noncomputable def gCn (g : FG) (gs : FGs) : FGs := fun ds δ => match ds with | d :: r => (g d δ).bind (gs r) | [] => none
noncomputable def gTp (n : Nat) (gs : FGs) : FG := fun d δ => match d with | .tuple ds => if ds.length = n then gs ds δ else none | _ => none
noncomputable def gLs (n : Nat) (gs : FGs) : FG := fun d δ => match d with | .list ds => if ds.length = n then gs ds δ else none | _ => none
noncomputable def compLoop (g : FG) (t : FT) (e : FE) : List PyData → Zj → Option (List OT × Zj)
  | [], δ => some ([], δ)
  | d :: ds, δ => (g d δ).bind fun δ1 => (t δ1).bind fun p => if p.1 = true then (e p.2).bind fun q => (compLoop g t e ds q.2).bind fun z => some (q.1 :: z.1, z.2) else compLoop g t e ds p.2
noncomputable def Zak (n : Nat) (caps : List Nat) (it : FI) (g : FG) (t : FT) (e : FE) : FE := fun δ => (it δ).bind fun p => if p.1.length ≤ sizeLine then (compLoop g t e p.1 (blk n caps p.2)).bind fun z => some (.nd z.1, p.2) else none
noncomputable def Zge : FT := fun δ => some (true, δ)
inductive RS where
  | nx (δ : Zj)
  | rt (r : OT) (δ : Zj)
  | bk (δ : Zj)
  | ct (δ : Zj)
  | ex (c : Str) (δ : Zj)
  | bad
noncomputable abbrev FS := Zj → RS
noncomputable def RS.fits (D : Zgs) : RS → Prop
  | .nx δ => D.nx δ
  | .rt r δ => D.rt r δ
  | .bk δ => D.bk δ
  | .ct δ => D.ct δ
  | _ => False
noncomputable def oS (f : FS) : MSt := fun D δ => (f δ).fits D
noncomputable def xS (K : PySem.W.Frag) (f : FS) : MXt := fun δ k => ∃ c C δ', f δ = .ex c δ' ∧ ClsAt K c C ∧ k C δ'
noncomputable def Yu (f g : FS) : FS := fun δ => match f δ with | .nx δ' => g δ' | r => r
noncomputable def fNx : FS := fun δ => .nx δ
noncomputable def Z7v : FS := fun δ => .bk δ
noncomputable def Z7u : FS := fun δ => .ct δ
noncomputable def wE (e : FE) (k : OT → Zj → RS) : FS := fun δ => match e δ with | some (r, δ') => k r δ' | none => .bad
noncomputable def wX (F : FD) (a : FA) (k : OT → Zj → RS) : FS := fun δ => match a δ with
  | some (rs, δ1) => match F (OT.datas rs) with
    | .ok r => k r δ1
    | .exn c => .ex c δ1
    | .bad => .bad
  | none => .bad
noncomputable def Znn : OT → Zj → RS := fun _ δ => .nx δ
noncomputable def Zce : OT → Zj → RS := fun r δ => .rt r δ
noncomputable def Z2g : OT → Zj → RS := fun r δ => if Zfd r.data = true then .rt (.fz r.data) δ else .bad
noncomputable def Jj (i : Nat) : OT → Zj → RS := fun r δ => .nx (δ.set i (some (.fz r.data)))
noncomputable def Z32 (i : Nat) : OT → Zj → RS := fun r δ => if Zfd r.data = true then .nx (δ.set i (some (.fz r.data))) else .bad
noncomputable def Zdl (i : Nat) : OT → Zj → RS := fun r δ => .nx (δ.set i (some r))
noncomputable def Zxw (g : FG) : OT → Zj → RS := fun r δ => match g r.data δ with | some δ' => .nx δ' | none => .bad
noncomputable def Z3p : FS := fun δ => .rt (.fz .none) δ
noncomputable def Zfa (i : Nat) : FS := fun δ => match δ[i]? with | some (some t) => .rt t (δ.set i none) | _ => .bad
noncomputable def Zde (t : FT) (u w : FS) : FS := fun δ => match t δ with | some (b, δ') => if b = true then u δ' else w δ' | none => .bad
noncomputable def Zgx (c : Str) : FS := fun δ => .ex c δ
noncomputable def Zbd (i : Nat) (e : FE) : FS := fun δ => match δ[i]? with
  | some (some (.nd _)) => wE e (fun r δ1 => match δ1[i]? with
    | some (some (.nd ts)) => if ts.length < sizeLine then .nx (δ1.set i (some (.nd (ts ++ [.fz r.data])))) else .bad
    | _ => .bad) δ
  | _ => .bad
noncomputable def Zl5 (i : Nat) (e : FE) : FS := fun δ => match δ[i]? with
  | some (some (.nd _)) => wE e (fun r δ1 => match δ1[i]? with
    | some (some (.nd ts)) => if ts.length < sizeLine then .nx (δ1.set i (some (.nd (ts ++ [r])))) else .bad
    | _ => .bad) δ
  | _ => .bad
noncomputable def Z5p (i : Nat) (e j : FE) : FS := wE e fun r δ1 => match δ1[i]? with
  | some (some (.nd ts)) => wE j (fun n _ => match n.data with
    | .int k => match ixN ts.length k with
      | some j => .nx (δ1.set i (some (.nd (ts.set j (.fz r.data)))))
      | none => .bad
    | _ => .bad) δ1
  | _ => .bad
noncomputable def Zqq (i : Nat) (e j j2 : FE) : FS := wE e fun r δ1 => match δ1[i]? with
  | some (some (.nd ts)) => wE j (fun n _ => match n.data with
    | .int k => match ixN ts.length k with
      | some j => match ts[j]? with
        | some (.nd us) => wE j2 (fun n' _ => match n'.data with
          | .int k' => match ixN us.length k' with
            | some j' => .nx (δ1.set i (some (.nd (ts.set j (.nd (us.set j' (.fz r.data)))))))
            | none => .bad
          | _ => .bad) δ1
        | _ => .bad
      | none => .bad
    | _ => .bad) δ1
  | _ => .bad
noncomputable def Zev (i : Nat) (u : FS) : FS := fun δ => match δ[i]? with | some (some t) => u (δ.set i (some (.fz t.data))) | _ => .bad
noncomputable def forLoop (g : FG) (u : FS) : List PyData → Zj → RS
  | [], δ => .nx δ
  | d :: ds, δ => match g d δ with
    | none => .bad
    | some δ1 => match u δ1 with
      | .nx δ2 => forLoop g u ds δ2
      | .ct δ2 => forLoop g u ds δ2
      | .bk δ2 => .nx δ2
      | r => r
noncomputable def Ze8 (it : FI) (g : FG) (u : FS) : FS := fun δ => match it δ with | some (ds, δ1) => forLoop g u ds δ1 | none => .bad
noncomputable def whileLoop (t : FT) (u : FS) : Nat → Zj → RS
  | 0, _ => .bad
  | n + 1, δ => match t δ with
    | none => .bad
    | some (b, δ1) => if b = true then match u δ1 with
      | .nx δ2 => whileLoop t u n δ2
      | .ct δ2 => whileLoop t u n δ2
      | .bk δ2 => .nx δ2
      | .rt r δ2 => .rt r δ2
      | _ => .bad
      else .nx δ1
open Classical in
noncomputable def Zha (t : FT) (u : FS) : FS := fun δ => if h : ∃ n, whileLoop t u n δ ≠ .bad then whileLoop t u (Classical.choose h) δ else .bad
noncomputable def Zfq (n : Nat) (ds : List PyData) : Zj := ds.map (fun d => some (.fz d)) ++ List.replicate (n - ds.length) none
noncomputable def Z2j (n : Nat) (t : OT) (ds : List PyData) : Zj := some t :: (ds.map (fun d => some (.fz d)) ++ List.replicate (n - (ds.length + 1)) none)
noncomputable def RS.told : RS → RF
  | .nx _ => .ok (.fz .none)
  | .rt r _ => .ok r
  | .ex c _ => .exn c
  | _ => .bad
noncomputable def Zci (np n : Nat) (S : FS) : FD := fun ds => if ds.length = np then (S (Zfq n ds)).told else .bad
end L2
namespace L2
open PySem PySem.Spec PyProof.Rows
noncomputable def sD (F : FD) : List PyData → (OT → Prop) → Prop := fun ds k => ∃ r, F ds = .ok r ∧ k r
noncomputable def sI (F : FIO) : OT → List PyData → (OT → OT → Prop) → Prop := fun t ds k => ∃ r t', F t ds = some (r, t') ∧ k r t'
noncomputable def sX (K : PySem.W.Frag) (F : FD) : List PyData → Addr → Prop := fun ds cl => ∃ c, F ds = .exn c ∧ ClsAt K c cl
theorem bs {α β : Type} {x : Option α} {f : α → Option β} {b : β} (h : x.bind f = some b) : ∃ a, x = some a ∧ f a = some b := Option.bind_eq_some_iff.mp h
section
variable {X : Cx} {io : List Nat} {p c : Bool} {e tg : Expr} {es : List Expr} {st : Stmt} {sts : List Stmt} {eo : Option Expr} {fa fb fc : FE} {ra : FA} {ta tb : FT} {i : Nat}
theorem Zb (h : ME X io p c e (Z1l i)) : ME X io p c e (o2 (Zg i)) := h.weak fun δ K q91 => by
  obtain ⟨r, δ', h, k⟩ := q91
  unfold Zg at h; unfold Z1l
  split at h
  · rename_i d hd; (try rw [hd]); cases h; exact k
  · cases h
theorem Zgu (h : ME X io p c e (Z1y i)) : ME X io p c e (o2 (Zmf i)) := h.weak fun δ K q92 => by
  obtain ⟨r, δ', h, k⟩ := q92
  unfold Zmf at h; unfold Z1y
  split at h
  · rename_i d hd; (try rw [hd]); cases h; exact k
  · cases h
theorem Yg {d : PyData} (h : ME X io p c e (mC d)) : ME X io p c e (o2 (fC d)) := h.weak fun δ K ⟨r, δ', h, k⟩ => by cases h; exact k
noncomputable def ByS (g : PyData → PyData → Option PyData) (rp : PyData → PyData → (PyData → Prop) → Prop) : Prop := ∀ d e r k, g d e = some r → k r → rp d e k
noncomputable def ByO (g : PyData → PyData → Option OT) (rp : PyData → PyData → (OT → Prop) → Prop) : Prop := ∀ d e r k, g d e = some r → k r → rp d e k
theorem Ztt {g rp} (G : ByS g rp) {δ : Zj} {K : OT → Zj → Prop} (h : o2 (Zk g fa fb) δ K) : Zk5 rp (o2 fa) (o2 fb) δ K := by
  obtain ⟨r, δ', h, k⟩ := h
  obtain ⟨⟨x, δ1⟩, h1, h⟩ := bs h
  obtain ⟨⟨y, δ2⟩, h2, h⟩ := bs h
  obtain ⟨d, h3, h⟩ := bs h
  cases h
  exact ⟨x, δ1, h1, y, δ2, h2, G _ _ _ _ h3 k⟩
theorem Zf {g rp} (G : ByS g rp) (h : ME X io p c e (Zk5 rp (o2 fa) (o2 fb))) : ME X io p c e (o2 (Zk g fa fb)) := h.weak fun δ K z => Ztt G z
theorem Z4s {f : FE} {δ : Zj} {K : Bool → Zj → Prop} (h : o2 (tV f) δ K) : o2 f δ (kB K) := by
  obtain ⟨b, δ', h, k⟩ := h
  obtain ⟨⟨x, δ1⟩, h1, h⟩ := bs h
  refine ⟨x, δ1, h1, ?_⟩
  unfold kB
  try dsimp only at h ⊢
  split at h
  · cases h; exact k
  · cases h
theorem Wt {g rp} (G : ByS g rp) (h : MT X io p e (fun δ K => Zk5 rp (o2 fa) (o2 fb) δ (kB K))) : MT X io p e (o2 (tV (Zk g fa fb))) := h.weak fun δ K z => Ztt G (Z4s z)
theorem Z7 {g rp} (G : ByO g rp) (h : ME X io p c e (Z0d rp (o2 fa) (o2 fb))) : ME X io p c e (o2 (W5 g fa fb)) := h.weak fun δ K h => by
  obtain ⟨r, δ', h, k⟩ := h
  obtain ⟨⟨x, δ1⟩, h1, h⟩ := bs h
  obtain ⟨⟨y, δ2⟩, h2, h⟩ := bs h
  obtain ⟨d, h3, h⟩ := bs h
  cases h
  exact ⟨x, δ1, h1, y, δ2, h2, G _ _ _ _ h3 k⟩
noncomputable def Zs4 : PyData → Option PyData | .int i => some (.int (-i)) | _ => none
noncomputable def Z4m : PyData → Option PyData | .bool b => some (.bool (!b)) | _ => none
theorem Zlo (h : ME X io p c e (Z5i (o2 fa))) : ME X io p c e (o2 (fUn Zs4 fa)) := h.weak fun δ K h => by
  obtain ⟨r, δ', h, k⟩ := h
  obtain ⟨⟨x, δ1⟩, h1, h⟩ := bs h
  obtain ⟨d, h3, h⟩ := bs h
  cases h
  refine ⟨x, δ1, h1, ?_⟩
  dsimp only at h3 ⊢
  cases q : x.data <;> rw [q] at h3 <;> cases h3
  exact k
theorem Zwk (h : ME X io p c e (Z0u (o2 fa))) : ME X io p c e (o2 (fUn Z4m fa)) := h.weak fun δ K h => by
  obtain ⟨r, δ', h, k⟩ := h
  obtain ⟨⟨x, δ1⟩, h1, h⟩ := bs h
  obtain ⟨d, h3, h⟩ := bs h
  cases h
  refine ⟨x, δ1, h1, ?_⟩
  dsimp only at h3 ⊢
  cases q : x.data <;> rw [q] at h3 <;> cases h3
  exact k
theorem Zqs (h : ME X io p c e (Z1b (o2 fa) (o2 fb))) : ME X io p c e (o2 (Zvk fa fb)) := h.weak fun δ K h => by
  obtain ⟨r, δ', h, k⟩ := h
  obtain ⟨⟨x, δ1⟩, h1, h⟩ := bs h
  refine ⟨x, δ1, h1, ?_⟩
  try dsimp only at h ⊢
  split at h
  · rename_i q; (try rw [q]); rw [Zt1, if_pos rfl]; exact ⟨r, δ', h, k⟩
  · rename_i q; (try rw [q]); cases h; rw [Zt1, if_neg Bool.false_ne_true]; exact k
  · cases h
theorem Za5 (h : MT X io p e (Z48 (o2 ta))) : MT X io p e (o2 (tNo ta)) := h.weak fun δ K h => by
  obtain ⟨r, δ', h, k⟩ := h
  obtain ⟨⟨x, δ1⟩, h1, h⟩ := bs h
  cases h
  exact ⟨x, δ1, h1, k⟩
theorem Z09 (h : MW X io p e (Z53 (o2 ta) (o2 tb))) : MW X io p e (o2 (tAn ta tb)) := h.weak fun δ K h => by
  obtain ⟨r, δ', h, k⟩ := h
  obtain ⟨⟨x, δ1⟩, h1, h⟩ := bs h
  refine ⟨x, δ1, h1, ?_⟩
  try dsimp only at h ⊢
  split at h
  · rename_i q; rw [if_pos q]; exact ⟨r, δ', h, k⟩
  · rename_i q; rw [if_neg q]; cases h; exact k
theorem Zd1 (h : MW X io p e (mOr (o2 ta) (o2 tb))) : MW X io p e (o2 (tO ta tb)) := h.weak fun δ K h => by
  obtain ⟨r, δ', h, k⟩ := h
  obtain ⟨⟨x, δ1⟩, h1, h⟩ := bs h
  refine ⟨x, δ1, h1, ?_⟩
  try dsimp only at h ⊢
  split at h
  · rename_i q; rw [if_pos q]; cases h; exact k
  · rename_i q; rw [if_neg q]; exact ⟨r, δ', h, k⟩
theorem Zby (h : MT X io p e (Z55 (o2 fa))) : MT X io p e (o2 (tD fa)) := h.weak fun δ K h => by
  obtain ⟨r, δ', h, k⟩ := h
  obtain ⟨⟨x, δ1⟩, h1, h⟩ := bs h
  obtain ⟨d, h3, h⟩ := bs h
  cases h
  refine ⟨x, δ1, h1, ?_⟩
  dsimp only at h3 ⊢
  rw [h3]
  exact k
theorem Zn (h : MA X io p c es Z5e) : MA X io p c es (o2 Yk) := h.weak fun δ K ⟨r, δ', h, k⟩ => by cases h; exact k
theorem Zwf (h : MA X io p c es (Zzd (o2 fa) (o2 ra))) : MA X io p c es (o2 (Zh fa ra)) := h.weak fun δ K h => by
  obtain ⟨r, δ', h, k⟩ := h
  obtain ⟨⟨x, δ1⟩, h1, h⟩ := bs h
  obtain ⟨⟨y, δ2⟩, h2, h⟩ := bs h
  cases h
  exact ⟨x, δ1, h1, y, δ2, h2, k⟩
theorem Zcp (h : ME X io p c e (Z5u (o2 ra))) : ME X io p c e (o2 (Zg8 ra)) := h.weak fun δ K h => by
  obtain ⟨r, δ', h, k⟩ := h
  obtain ⟨⟨x, δ1⟩, h1, h⟩ := bs h
  refine ⟨x, δ1, h1, ?_⟩
  dsimp only at h
  split at h
  · rename_i q; cases h; exact ⟨q, k⟩
  · cases h
theorem Zg7 (h : ME X io p c e (Z6j (o2 ra))) : ME X io p c e (o2 (Zp1 ra)) := h.weak fun δ K h => by
  obtain ⟨r, δ', h, k⟩ := h
  obtain ⟨⟨x, δ1⟩, h1, h⟩ := bs h
  refine ⟨x, δ1, h1, ?_⟩
  dsimp only at h
  split at h
  · rename_i q; cases h; exact ⟨q, k⟩
  · cases h
theorem Zu {F : FD} (h : ME X io p c e (Zwy (sD F) (o2 ra))) : ME X io p c e (o2 (Wa F ra)) := h.weak fun δ K h => by
  obtain ⟨r, δ', h, k⟩ := h
  obtain ⟨⟨x, δ1⟩, h1, h⟩ := bs h
  refine ⟨x, δ1, h1, ?_⟩
  dsimp only at h
  split at h
  · rename_i q; cases h; exact ⟨_, q, k⟩
  · cases h
theorem W6 {g rp} (G : ∀ ds r k, g ds = some r → k r → rp ds k) (h : ME X io p c e (Z11 rp (o2 ra))) : ME X io p c e (o2 (Ze5 g ra)) := h.weak fun δ K h => by
  obtain ⟨r, δ', h, k⟩ := h
  obtain ⟨⟨x, δ1⟩, h1, h⟩ := bs h
  obtain ⟨d, h3, h⟩ := bs h
  cases h
  exact ⟨x, δ1, h1, G _ _ _ h3 k⟩
theorem Z38 {g rp} (G : ∀ ds r k, g ds = some r → k r → rp ds k) (h : ME X io p c e (mBl rp (o2 ra))) : ME X io p c e (o2 (fBl g ra)) := h.weak fun δ K h => by
  obtain ⟨r, δ', h, k⟩ := h
  obtain ⟨⟨x, δ1⟩, h1, h⟩ := bs h
  obtain ⟨d, h3, h⟩ := bs h
  cases h
  exact ⟨x, δ1, h1, G _ _ _ h3 k⟩
theorem Zi7 {T : String} (h : ME X io p c e (Z5h T (o2 fa))) : ME X io p c e (o2 (Zt2 T fa)) := h.weak fun δ K h => by
  obtain ⟨r, δ', h, k⟩ := h
  obtain ⟨⟨x, δ1⟩, h1, h⟩ := bs h
  by_cases hf : Zgp x.data = true
  · have h' : (if Zgp x.data = true then none else some (OT.fz (.bool (Zne T x.data)), δ1)) = some (r, δ') := h
    rw [if_pos hf] at h'
    cases h'
  · have h' : (if Zgp x.data = true then none else some (OT.fz (.bool (Zne T x.data)), δ1)) = some (r, δ') := h
    rw [if_neg hf] at h'
    injection h' with h'
    injection h' with e1 e2
    subst e1 e2
    exact ⟨x, _, h1, Bool.eq_false_iff.mpr hf, k⟩
theorem Zh2 (h : MO X io p eo Zp2) : MO X io p eo (o2 oN) := h.weak fun δ K ⟨r, δ', h, k⟩ => by cases h; exact k
theorem Zb1 (h : MO X io p eo (Z0k (o2 fa))) : MO X io p eo (o2 (oI fa)) := h.weak fun δ K h => by
  obtain ⟨r, δ', h, k⟩ := h
  obtain ⟨⟨x, δ1⟩, h1, h⟩ := bs h
  refine ⟨x, δ1, h1, ?_⟩
  try dsimp only at h ⊢
  split at h
  · rename_i q; (try rw [q]); cases h; exact k
  · cases h
theorem Zou {lo hi : FO} (h : ME X io p c e (mSl (o2 fa) (o2 lo) (o2 hi))) : ME X io p c e (o2 (fSl fa lo hi)) := h.weak fun δ K h => by
  obtain ⟨r, δ', h, k⟩ := h
  obtain ⟨⟨x, δ1⟩, h1, h⟩ := bs h
  obtain ⟨⟨y, δ2⟩, h2, h⟩ := bs h
  obtain ⟨⟨z, δ3⟩, h3, h⟩ := bs h
  refine ⟨x, δ1, h1, y, δ2, h2, z, δ3, h3, ?_⟩
  try dsimp only at h ⊢
  split at h
  · rename_i q; (try rw [q]); cases h; exact k
  · cases h
theorem Zaa (h : MI X io p c tg e (iL (o2 fa))) : MI X io p c tg e (o2 (Zgo fa)) := h.weak fun δ K h => by
  obtain ⟨r, δ', h, k⟩ := h
  obtain ⟨⟨x, δ1⟩, h1, h⟩ := bs h
  refine ⟨x, δ1, h1, ?_⟩
  try dsimp only at h ⊢
  split at h
  · rename_i q; (try rw [q]); cases h; exact k
  · cases h
theorem Zgh (h : MI X io p c tg e (iR1 (o2 ra))) : MI X io p c tg e (o2 (iRa ra)) := h.weak fun δ K h => by
  obtain ⟨r, δ', h, k⟩ := h
  obtain ⟨⟨x, δ1⟩, h1, h⟩ := bs h
  refine ⟨x, δ1, h1, ?_⟩
  try dsimp only at h ⊢
  split at h
  case h_2 => cases h
  rename_i q
  (try rw [q])
  try dsimp only
  split at h
  · rename_i b; cases h; exact ⟨Zcz b, k⟩
  · cases h
theorem Z2p (h : MI X io p c tg e (iR2 (o2 ra))) : MI X io p c tg e (o2 (iRb ra)) := h.weak fun δ K h => by
  obtain ⟨r, δ', h, k⟩ := h
  obtain ⟨⟨x, δ1⟩, h1, h⟩ := bs h
  refine ⟨x, δ1, h1, ?_⟩
  try dsimp only at h ⊢
  split at h
  case h_2 => cases h
  rename_i q
  (try rw [q])
  try dsimp only
  split at h
  · rename_i b
    cases h
    rw [Bool.and_eq_true] at b
    exact ⟨⟨(Zcz b.1).1, (Zcz b.1).2, (Zcz b.2).1, (Zcz b.2).2⟩, k⟩
  · cases h
theorem Ye (h : MG X io c tg (dName i)) : MG X io c tg (oG (gNm i)) := h.weak fun d δ K ⟨δ', h, k⟩ => by cases h; exact k
theorem Zf8 (h : MGs X io c es Z6n) : MGs X io c es (oGs gNl) := h.weak fun d δ K q94 => by
  obtain ⟨δ', h, k⟩ := q94
  unfold gNl at h
  split at h
  · cases h; exact ⟨rfl, k⟩
  · cases h
theorem Zai {g : FG} {gs : FGs} (h : MGs X io c es (Zzy (oG g) (oGs gs))) : MGs X io c es (oGs (gCn g gs)) := h.weak fun d δ K q95 => by
  obtain ⟨δ', h, k⟩ := q95
  unfold gCn at h
  split at h
  · obtain ⟨δ1, h1, h⟩ := bs h
    exact ⟨δ1, h1, δ', h, k⟩
  · cases h
theorem Zjs {n : Nat} {gs : FGs} (h : MG X io c tg (dTup n (oGs gs))) : MG X io c tg (oG (gTp n gs)) := h.weak fun d δ K q96 => by
  obtain ⟨δ', h, k⟩ := q96
  unfold gTp at h
  split at h
  case h_2 => cases h
  split at h
  · rename_i q; exact ⟨q, δ', h, k⟩
  · cases h
theorem Zbo (h : MIfs X io p es Zxp) : MIfs X io p es (o2 Zge) := h.weak fun δ K ⟨r, δ', h, k⟩ => by cases h; exact k
theorem Zuo {g : FG} {t : FT} {me : FE} {ds : List PyData} {δ0 : Zj} {zs : List OT} {δe : Zj} (h : compLoop g t me ds δ0 = some (zs, δe)) :
    ∃ I : Nat → List OT → Zj → Prop, I 0 [] δ0 ∧
  (∀ (i : Nat) (d : PyData) (rs : List OT) (δ' : Zj), ds[i]? = some d → I i rs δ' → oG g d δ' fun δ2 => o2 t δ2 fun b δ3 => if b = true then o2 me δ3 fun r δ4 => I (i + 1) (rs ++ [r]) δ4 else I (i + 1) rs δ3) ∧
  ∀ rs δ', I ds.length rs δ' → rs = zs ∧ δ' = δe := by
  refine ⟨fun i rs δ' => ∃ ys, rs ++ ys = zs ∧ compLoop g t me (ds.drop i) δ' = some (ys, δe), ⟨zs, rfl, by rw [List.drop_zero]; exact h⟩, ?_, ?_⟩
  · rintro i d rs δ' hd ⟨ys, e, hl⟩
    obtain ⟨hi, hdi⟩ := List.getElem?_eq_some_iff.mp hd
    rw [List.drop_eq_getElem_cons hi, hdi] at hl
    unfold compLoop at hl
    obtain ⟨δ1, h1, hl⟩ := bs hl
    obtain ⟨⟨b, δ2⟩, h2, hl⟩ := bs hl
    refine ⟨δ1, h1, b, δ2, h2, ?_⟩
    dsimp only at hl
    split at hl
    · rename_i hb
      rw [if_pos hb]
      obtain ⟨⟨r, δ3⟩, h3, hl⟩ := bs hl
      obtain ⟨⟨ws, δ4⟩, h4, hl⟩ := bs hl
      cases hl
      exact ⟨r, δ3, h3, ws, by rw [List.append_assoc]; exact e, h4⟩
    · rename_i hb
      rw [if_neg hb]
      exact ⟨ys, e, hl⟩
  · rintro rs δ' ⟨ys, e, hl⟩
    rw [List.drop_length] at hl
    unfold compLoop at hl
    cases hl
    exact ⟨by rw [← e, List.append_nil], rfl⟩
theorem Zqk {n : Nat} {caps : List Nat} {it : FI} {g : FG} {t : FT} {me : FE} {δ : Zj} {K : OT → Zj → Prop} (h : o2 (Zak n caps it g t me) δ K) : Zgq n caps (o2 it) (oG g) (o2 t) (o2 me) δ K := by
  obtain ⟨r, δ', h, k⟩ := h
  obtain ⟨⟨ds, δ1⟩, h1, h⟩ := bs h
  refine ⟨ds, δ1, h1, ?_⟩
  dsimp only at h
  split at h
  case isFalse => cases h
  rename_i hz
  obtain ⟨⟨zs, δe⟩, h2, h⟩ := bs h
  cases h
  obtain ⟨I, i0, st, en⟩ := Zuo h2
  refine ⟨hz, I, i0, st, fun rs δ'' q => ?_⟩
  obtain ⟨rfl, rfl⟩ := en rs δ'' q
  exact k
theorem Zdv {n : Nat} {caps : List Nat} {it : FI} {g : FG} {t : FT} {me : FE} (h : ME X io p c e (Zgq n caps (o2 it) (oG g) (o2 t) (o2 me))) : ME X io p c e (o2 (Zak n caps it g t me)) := h.weak fun δ K z => Zqk z
end
end L2
namespace L2
open PySem PySem.Spec PyProof.Rows
section
variable {X : Cx} {io : List Nat} {p c : Bool} {e tg iter : Expr} {es : List Expr} {st : Stmt} {sts : List Stmt} {fa fb fc : FE} {ra : FA} {ta tb : FT} {i : Nat} {f g u w : FS}
theorem Zq (h : MSs X io sts (Z3b (oS f) (oS g))) : MSs X io sts (oS (Yu f g)) := h.weak fun D δ h => by
  unfold oS Yu at h; unfold Z3b oS
  cases q : f δ <;> rw [q] at h <;> exact h
theorem Wg (h : MSs X io sts Zx4) : MSs X io sts (oS fNx) := h.weak fun D δ h => h
theorem Zli {k : OT → Zj → RS} {D : Zgs} {δ : Zj} (h : oS (wE fa k) D δ) : o2 fa δ fun r δ' => (k r δ').fits D := by
  unfold oS wE at h
  split at h
  · rename_i q; exact ⟨_, _, q, h⟩
  · exact h.elim
theorem o2.imp {α : Type} {f : Zj → Option (α × Zj)} {δ : Zj} {K K' : α → Zj → Prop} (h : o2 f δ K) (k : ∀ r δ', K r δ' → K' r δ') : o2 f δ K' := let ⟨r, δ', e, q⟩ := h; ⟨r, δ', e, k r δ' q⟩
theorem Zhs {P : Prop} [Decidable P] {a : RS} {D : Zgs} (h : (if P then a else .bad : RS).fits D) : P ∧ a.fits D := by
  split at h
  · exact ⟨‹_›, h⟩
  · exact h.elim
theorem Zhj (h : MS X io st (Z03 (o2 fa))) : MS X io st (oS (wE fa Znn)) := h.weak fun D δ h => Zli h
theorem Yz (h : MS X io st (Z5g (o2 fa))) : MS X io st (oS (wE fa Zce)) := h.weak fun D δ h => Zli h
theorem Zia (h : MS X io st (Zsf i)) : MS X io st (oS (Zfa i)) := h.weak fun D δ h => by
  unfold oS Zfa at h; unfold Zsf
  split at h
  · rename_i q; (try rw [q]); exact h
  · exact h.elim
theorem Zbx (h : MS X io st (Z5o (o2 ta) (oS u) (oS w))) : MS X io st (oS (Zde ta u w)) := h.weak fun D δ h => by
  unfold oS Zde at h
  split at h
  · rename_i b δ' q
    refine ⟨b, δ', q, ?_⟩
    split at h
    · rename_i hb; rw [if_pos hb]; exact h
    · rename_i hb; rw [if_neg hb]; exact h
  · exact h.elim
theorem Z1 (h : MS X io st (Zw5 i (o2 fa))) : MS X io st (oS (wE fa (Jj i))) := h.weak fun D δ h => Zli h
theorem Zdp (h : MS X io st (Zm3 i (o2 fa))) : MS X io st (oS (wE fa (Zdl i))) := h.weak fun D δ h => Zli h
section
variable {n : Nat} {caps : List Nat} {o q : Nat} {it : FI} {gg : FG} {t : FT} {me : FE}
theorem Zsr (h : MS X io st (if true = true then Zm3 i (Zgq n caps (o2 it) (oG gg) (o2 t) (o2 me)) else Zw5 i (Zgq n caps (o2 it) (oG gg) (o2 t) (o2 me)))) : MS X io st (oS (wE (Zak n caps it gg t me) (Zdl i))) :=
  h.weak fun D δ h => by rw [if_pos rfl]; exact Zqk (Zli h)
theorem Znh (h : MS X io st (if false = true then Zm3 i (Zgq n caps (o2 it) (oG gg) (o2 t) (o2 me)) else Zw5 i (Zgq n caps (o2 it) (oG gg) (o2 t) (o2 me)))) : MS X io st (oS (wE (Zak n caps it gg t me) (Jj i))) :=
  h.weak fun D δ h => by rw [if_neg Bool.false_ne_true]; exact Zqk (Zli h)
end
theorem Zzz {gg : FG} (h : MS X io st (Z4z (o2 fa) (oG gg))) : MS X io st (oS (wE fa (Zxw gg))) := h.weak fun D δ h => (Zli h).imp fun r δ' q => by
  unfold Zxw at q
  split at q
  · rename_i z; exact ⟨_, z, q⟩
  · exact q.elim
theorem Zje (h : MS X io st (Zh7 i (o2 fa))) : MS X io st (oS (Zbd i fa)) := h.weak fun D δ h => by
  unfold oS Zbd at h; unfold Zh7
  split at h
  case h_2 => exact h.elim
  rename_i q; (try rw [q])
  refine (Zli h).imp fun r δ' z => ?_
  split at z
  · rename_i q2; (try rw [q2]); exact Zhs z
  · exact z.elim
theorem Zol (h : MS X io st (Zxn i (o2 fa) (o2 fb) (o2 fc))) : MS X io st (oS (Zqq i fa fb fc)) := h.weak fun D δ h => by
  refine (Zli h).imp fun r δ' z => ?_
  split at z
  case h_2 => exact z.elim
  rename_i q; (try rw [q])
  refine (Zli z).imp fun n δ2 z => ?_
  split at z
  case h_2 => exact z.elim
  rename_i k q2; (try rw [q2])
  show match ixN _ k with | some j => _ | none => _
  split at z
  case h_2 => exact z.elim
  rename_i q3; (try rw [q3])
  try dsimp only
  split at z
  case h_2 => exact z.elim
  rename_i q4; (try rw [q4])
  refine (Zli z).imp fun n' δ3 z => ?_
  split at z
  case h_2 => exact z.elim
  rename_i k' q5; (try rw [q5])
  show match ixN _ k' with | some j => _ | none => _
  split at z
  · rename_i q6; (try rw [q6]); exact z
  · exact z.elim
theorem Zo6 (h : MS X io st (Zif i (oS u))) : MS X io st (oS (Zev i u)) := h.weak fun D δ h => by
  unfold oS Zev at h; unfold Zif
  split at h
  · rename_i q; (try rw [q]); exact h
  · exact h.elim
theorem Zco {gg : FG} {d : PyData} {ds : List PyData} {δ : Zj} : forLoop gg u (d :: ds) δ = match gg d δ with
    | none => .bad
    | some δ1 => match u δ1 with
      | .nx δ2 => forLoop gg u ds δ2
      | .ct δ2 => forLoop gg u ds δ2
      | .bk δ2 => .nx δ2
      | r => r := rfl
theorem Zbt {it : FI} {gg : FG} (h : MS X io st (Z51 (o2 it) (oG gg) (oS u))) : MS X io st (oS (Ze8 it gg u)) := h.weak fun D δ h => by
  unfold oS Ze8 at h
  split at h
  case h_2 => exact h.elim
  rename_i ds δ1 q
  refine ⟨ds, δ1, q, fun i δ' => (forLoop gg u (ds.drop i) δ').fits D, by show RS.fits D (forLoop gg u (ds.drop 0) δ1); rw [List.drop_zero]; exact h, fun i d δ' hd z => ?_, fun δ' z => ?_⟩
  · obtain ⟨hi, hdi⟩ := List.getElem?_eq_some_iff.mp hd
    replace z : RS.fits D (forLoop gg u (ds.drop i) δ') := z
    rw [List.drop_eq_getElem_cons hi, hdi, Zco] at z
    split at z
    case h_1 => exact z.elim
    rename_i δ2 q2
    refine ⟨δ2, q2, ?_⟩
    unfold oS
    cases q3 : u δ2 <;> rw [q3] at z <;> (try rw [q3]) <;> exact z
  · replace z : RS.fits D (forLoop gg u (ds.drop ds.length) δ') := z
    rw [List.drop_length] at z; exact z
theorem Zlr (h : MS X io st (Zsw (o2 ta) (oS u))) : MS X io st (oS (Zha ta u)) := h.weak fun D δ h => by
  unfold oS Zha at h
  split at h
  case isFalse => exact h.elim
  rename_i hn
  refine ⟨fun n δ' => (whileLoop ta u n δ').fits D, ⟨_, h⟩, fun n δ' z => ?_⟩
  cases n with
  | zero => exact z.elim
  | succ n =>
    unfold whileLoop at z
    split at z
    case h_1 => exact z.elim
    rename_i b δ1 q
    refine ⟨b, δ1, q, ?_⟩
    split at z
    · rename_i hb
      rw [if_pos hb]
      refine ⟨fun δ'' => (whileLoop ta u n δ'').fits D, fun δ'' y => ⟨n, Nat.lt_succ_self n, y⟩, ?_⟩
      unfold oS
      cases q3 : u δ1 <;> rw [q3] at z <;> exact z
    · rename_i hb
      rw [if_neg hb]
      exact z
theorem Zdb {n m : Nat} : ∀ {δ : Zj}, whileLoop ta u n δ ≠ .bad → whileLoop ta u (n + m) δ = whileLoop ta u n δ := by
  induction n with
  | zero => intro δ h; exact absurd rfl h
  | succ n ih =>
    intro δ h
    rw [Nat.succ_add]
    unfold whileLoop at h ⊢
    cases q : ta δ with
    | none => rfl
    | some x =>
      obtain ⟨b, δ1⟩ := x
      rw [q] at h
      try dsimp only at h ⊢
      split
      · rename_i hb
        rw [if_pos hb] at h
        cases q3 : u δ1 <;> rw [q3] at h <;> first | exact ih h | rfl
      · rfl
theorem Zj8 {r : RS} {δ : Zj} (n : Nat) (h : whileLoop ta u n δ = r) (hr : r ≠ .bad) : Zha ta u δ = r := by
  have hn : ∃ n, whileLoop ta u n δ ≠ .bad := ⟨n, by rw [h]; exact hr⟩
  unfold Zha
  rw [dif_pos hn]
  have h1 := Classical.choose_spec hn
  have e1 := Zdb (m := n) h1
  have e2 := Zdb (m := Classical.choose hn) (show whileLoop ta u n δ ≠ .bad by rw [h]; exact hr)
  rw [Nat.add_comm] at e2
  rw [← e1, e2, h]
theorem Zfi {cn : Str} : MS X io st (oS (Zgx cn)) := Zre.weak fun D δ h => h
theorem Zpc {F : FD} {k : OT → Zj → RS} (h : MS X io st (oS (wE (Wa F ra) k))) : MS X io st (oS (wX F ra k)) := h.weak fun D δ h => by
  unfold oS wX at h; unfold oS wE Wa
  split at h
  case h_2 => exact h.elim
  rename_i rs δ1 q
  (try rw [q])
  dsimp only [Option.bind]
  split at h
  · rename_i q2; (try rw [q2]); exact h
  · exact h.elim
  · exact h.elim
theorem XS.weak {m m' : MXt} (h : XS X io st m) (w : ∀ δ k, m' δ k → m δ k) : XS X io st m' := fun C pins s σ H δ fp ex k I R hm => h C pins s σ H δ fp ex k I R (w δ k hm)
theorem XSs.weak {m m' : MXt} (h : XSs X io sts m) (w : ∀ δ k, m' δ k → m δ k) : XSs X io sts m' := fun C pins s σ H δ fp ex k I R hm => h C pins s σ H δ fp ex k I R (w δ k hm)
theorem XE.weak {m m' : MXt} (h : XE X io e m) (w : ∀ δ k, m' δ k → m δ k) : XE X io e m' := fun C pins s σ H δ fp ex k I R hm => h C pins s σ H δ fp ex k I R (w δ k hm)
class NoEx (f : FS) : Prop where
  no : ∀ δ cn δ', f δ ≠ .ex cn δ'
class NoExK (k : OT → Zj → RS) : Prop where
  no : ∀ r δ cn δ', k r δ ≠ .ex cn δ'
theorem Zxv (f : FS) [NoEx f] : XS X io st (xS X.K f) := Zr7.weak fun δ k ⟨cn, _, δ', h, _⟩ => (NoEx.no δ cn δ' h).elim
theorem Zhf (f : FS) [NoEx f] : XSs X io sts (xS X.K f) := Zno.weak fun δ k ⟨cn, _, δ', h, _⟩ => (NoEx.no δ cn δ' h).elim
instance nx_kDrop_k : NoExK Znn := ⟨fun _ _ _ _ h => by cases h⟩
instance nx_kRet_k : NoExK Zce := ⟨fun _ _ _ _ h => by cases h⟩
instance nx_kSet_k : NoExK (Jj i) := ⟨fun _ _ _ _ h => by cases h⟩
instance nx_kSetO_k : NoExK (Zdl i) := ⟨fun _ _ _ _ h => by cases h⟩
instance nx_wE {k : OT → Zj → RS} [NoExK k] : NoEx (wE fa k) := ⟨fun δ cn δ' h => by
  unfold wE at h
  split at h
  · exact NoExK.no _ _ _ _ h
  · cases h⟩
instance nx_fSeq [NoEx f] [NoEx g] : NoEx (Yu f g) := ⟨fun δ cn δ' h => by
  unfold Yu at h
  split at h
  · exact NoEx.no _ _ _ h
  · exact NoEx.no _ _ _ h⟩
instance nx_fNx : NoEx fNx := ⟨fun _ _ _ h => by cases h⟩
instance nx_fRetO : NoEx (Zfa i) := ⟨fun _ _ _ h => by unfold Zfa at h; split at h <;> cases h⟩
instance nx_fIfS [NoEx u] [NoEx w] : NoEx (Zde ta u w) := ⟨fun δ cn δ' h => by
  unfold Zde at h
  split at h
  · split at h
    · exact NoEx.no _ _ _ h
    · exact NoEx.no _ _ _ h
  · cases h⟩
theorem Zon {k : OT → Zj → RS} {δ : Zj} (n : ∀ r δ cn δ', k r δ ≠ .ex cn δ') {cn : Str} {δ' : Zj} (h : wE fa k δ = .ex cn δ') : False := by
  unfold wE at h
  split at h
  · exact n _ _ _ _ h
  · cases h
theorem Zh3 {cn : Str} {C : Addr} (hc : ClsAt X.K cn C) (h : XS X io st (Zph C)) : XS X io st (xS X.K (Zgx cn)) := h.weak fun δ k z => by
  obtain ⟨c', C', δ', h, k1, k2⟩ := z
  cases h
  have := k1.symm.trans hc
  injection this with this; injection this with this; injection this with this
  subst this
  exact k2
theorem Zhq {F : FD} {k : OT → Zj → RS} [NoExK k] (h : XE X io e (Zs6 (sX X.K F) (o2 ra))) : XE X io e (xS X.K (wX F ra k)) := h.weak fun δ kk z => by
  obtain ⟨c', C', δ', h, k1, k2⟩ := z
  unfold wX at h
  split at h
  case h_2 => cases h
  rename_i rs δ1 q
  refine ⟨rs, δ1, q, ?_⟩
  split at h
  · exact (NoExK.no _ _ _ _ h).elim
  · rename_i q2
    cases h
    exact ⟨C', ⟨_, q2, k1⟩, k2⟩
  · cases h
theorem Zfr (h1 : XS X io st (xS X.K f)) (m1 : MS X io st (oS f)) (h2 : XSs X io sts (xS X.K g)) (hx : X.xe = fun _ _ => False := by rfl) : XSs X io (st :: sts) (xS X.K (Yu f g)) := by
  intro C pins s σ H δ fp ex k I R hm
  obtain ⟨cn, C', δ', h, k1, k2⟩ := hm
  unfold Yu at h
  split at h
  · rename_i δ1 q
    exact Zqy m1 h2 hx C pins s σ H δ fp ex k I R (by
      show (f δ).fits _
      (try rw [q])
      exact ⟨cn, C', δ', h, k1, k2⟩)
  · exact Zln h1 C pins s σ H δ fp ex k I R ⟨cn, C', δ', h, k1, k2⟩
theorem Zeq (h1 : XS X io st (xS X.K f)) : XSs X io [st] (xS X.K f) := Zln h1
theorem Zwm {a b : List Stmt} {pos : Pos} (h : XS X io (.If e a b pos) (Z6o (o2 ta) (xS X.K u) (xS X.K w))) : XS X io (.If e a b pos) (xS X.K (Zde ta u w)) := h.weak fun δ k z => by
  obtain ⟨cn, C', δ', h, k1, k2⟩ := z
  unfold Zde at h
  split at h
  case h_2 => cases h
  rename_i b δ1 q
  refine ⟨b, δ1, q, ?_⟩
  split at h
  · rename_i hb; rw [if_pos hb]; exact ⟨cn, C', δ', h, k1, k2⟩
  · rename_i hb; rw [if_neg hb]; exact ⟨cn, C', δ', h, k1, k2⟩
theorem Zg6 {gg : FG} {cn : Str} {δ' : Zj} : ∀ (ds : List PyData) (δ : Zj), forLoop gg u ds δ = .ex cn δ' → ∃ (S : Nat → Zj) (r : Nat), r < ds.length ∧ S 0 = δ ∧
    (∀ i d, i < r → ds[i]? = some d → ∃ δ1, gg d (S i) = some δ1 ∧ (u δ1 = .nx (S (i + 1)) ∨ u δ1 = .ct (S (i + 1)))) ∧ ∀ d, ds[r]? = some d → ∃ δ1, gg d (S r) = some δ1 ∧ u δ1 = .ex cn δ'
  | [], δ, h => by cases h
  | d :: ds, δ, h => by
    rw [Zco] at h
    split at h
    · cases h
    rename_i δ1 q
    have go : ∀ δ2, (u δ1 = .nx δ2 ∨ u δ1 = .ct δ2) → forLoop gg u ds δ2 = .ex cn δ' → ∃ (S : Nat → Zj) (r : Nat), r < (d :: ds).length ∧ S 0 = δ ∧
        (∀ i d', i < r → (d :: ds)[i]? = some d' → ∃ δ1, gg d' (S i) = some δ1 ∧ (u δ1 = .nx (S (i + 1)) ∨ u δ1 = .ct (S (i + 1)))) ∧ ∀ d', (d :: ds)[r]? = some d' → ∃ δ1, gg d' (S r) = some δ1 ∧ u δ1 = .ex cn δ' := fun δ2 hu hl => by
      obtain ⟨S, r, h1, h2, h3, h4⟩ := Zg6 ds δ2 hl
      refine ⟨fun i => match i with | 0 => δ | i + 1 => S i, r + 1, by simpa using h1, rfl, fun i d' hi hd => ?_, fun d' hd => h4 d' (by simpa using hd)⟩
      cases i with
      | zero =>
        have : d = d' := by simpa using hd
        subst this
        exact ⟨δ1, q, by show _ = RS.nx (S 0) ∨ _ = RS.ct (S 0); rw [h2]; exact hu⟩
      | succ i => exact h3 i d' (by omega) (by simpa using hd)
    split at h
    · rename_i q2; exact go _ (.inl q2) h
    · rename_i q2; exact go _ (.inr q2) h
    · cases h
    · rename_i q2 _ _ _
      exact ⟨fun _ => δ, 0, by simp, rfl, fun i d' hi => absurd hi (Nat.not_lt_zero i), fun d' hd => by
        have : d = d' := by simpa using hd
        subst this
        exact ⟨δ1, q, h⟩⟩
theorem Zyh {it : FI} {gg : FG} (h : XS X io st (Z0f (o2 it) (oG gg) (oS u) (xS X.K u))) : XS X io st (xS X.K (Ze8 it gg u)) := h.weak fun δ k z => by
  obtain ⟨cn, C', δ', h, k1, k2⟩ := z
  unfold Ze8 at h
  split at h
  case h_2 => cases h
  rename_i ds δ1 q
  refine ⟨ds, δ1, q, ?_⟩
  obtain ⟨S, r, h1, h2, h3, h4⟩ := Zg6 ds δ1 h
  refine ⟨fun i δ => δ = S i, r, h1, h2.symm, fun i d δ2 hi hd e => ?_, fun d δ2 hd e => ?_⟩
  · subst e
    obtain ⟨δ3, a, b⟩ := h3 i d hi hd
    refine ⟨δ3, a, ?_⟩
    unfold oS
    rcases b with b | b <;> rw [b] <;> rfl
  · subst e
    obtain ⟨δ3, a, b⟩ := h4 d hd
    exact ⟨δ3, a, cn, C', δ', b, k1, k2⟩
end
section
variable {P : Program} {w : World} {K : PySem.W.Frag} {mg : Str → Option Value} {base : Heap} {x qual : Str} {st : Stmt} {f : Addr} {fd : FuncData} {N ps : List Str} {n np nn : Nat} {S : FS}
theorem RS.told_fits {r : RS} {o : OT} {k : OT → Prop} (h : r.told = .ok o) (hk : k o) : r.fits (Zwe k) := by
  cases r <;> unfold RS.told at h <;> first | (cases h; exact hk) | cases h
theorem Ws (F : Fun K x qual st f fd) (Sc : Z8 N ps (Zi st)) (hN : N.length = nn) (hp : np = ps.length)
    (hb : ∀ (cdv : Value) (A : Around) (outer : List Env) (s : Shared) (H : Hp) (E : XK), Room n (A.deeper (envOfC qual (Zi st) s.heap.objs.size f cdv)) → MSs (Zqx CX0 P w K mg base N qual (Zi st) f cdv A outer s H E).nox [] (Z6 st) (oS S)) :
    FnOk P w K mg base CX0 (n + 1) f fd ps (spD K (sD (Zci np nn S))) := by
  subst hN hp
  refine F.okD Sc (fun ds k h => ?_) fun cdv A outer s H E hr => ⟨_, hb cdv A outer s H E hr, fun ds k h => ?_⟩
  · obtain ⟨r, h, _⟩ := h
    unfold Zci at h
    split at h
    · assumption
    · cases h
  · obtain ⟨r, h, hk⟩ := h
    unfold Zci at h
    split at h
    · exact RS.told_fits h hk
    · cases h
theorem Zjg (F : Fun K x qual st f fd) (Sc : Z8 N ps (Zi st)) (hN : N.length = nn) (hp : np = ps.length)
    (hb : ∀ (cdv : Value) (A : Around) (outer : List Env) (s : Shared) (H : Hp) (E : XK), Room n (A.deeper (envOfC qual (Zi st) s.heap.objs.size f cdv)) → XSs (Zqx (CX1 P w) P w K mg base N qual (Zi st) f cdv A outer s H E).nox [] (Z6 st) (xS K S)) :
    FnOk P w K mg base (CX1 P w) (n + 1) f fd ps (spX K (sX K (Zci np nn S))) := by
  subst hN hp
  refine F.okX Sc (fun ds cl h => ?_) fun cdv A outer s H E hr => ⟨_, hb cdv A outer s H E hr, fun ds cl h => ?_⟩
  · obtain ⟨r, h, _⟩ := h
    unfold Zci at h
    split at h
    · assumption
    · cases h
  · obtain ⟨c, h, hc⟩ := h
    unfold Zci at h
    split at h
    case isFalse => cases h
    have e : Zfq N.length ds = Zg4 N ds := rfl
    rw [e] at h
    cases q : S (Zg4 N ds) <;> rw [q] at h <;> unfold RS.told at h <;> cases h
    exact ⟨_, cl, _, q, hc, rfl⟩
end
end L2
namespace L2
open PySem PySem.Spec PyProof.Rows
noncomputable def i2 (g : Int → Int → PyData) : PyData → PyData → Option PyData := fun d e => match d, e with | .int i, .int j => some (g i j) | _, _ => none
noncomputable def i2c (c : Int → Int → Bool) (g : Int → Int → PyData) : PyData → PyData → Option PyData := fun d e => match d, e with | .int i, .int j => if c i j = true then some (g i j) else none | _, _ => none
theorem Zn8 {g : Int → Int → PyData} : ByS (i2 g) (Ztz g) := fun d e r k h hk => by
  unfold i2 at h
  split at h
  · cases h; exact hk
  · cases h
theorem Zld {c : Int → Int → Bool} {C : Int → Int → Prop} {g : Int → Int → PyData} (hc : ∀ i j, c i j = true → C i j) : ByS (i2c c g) (d2I C g) := fun d e r k h hk => by
  unfold i2c at h
  split at h
  · split at h
    · cases h; exact ⟨hc _ _ ‹_›, hk⟩
    · cases h
  · cases h
noncomputable def Zvm (a b : Int) : Bool := !(decide (Builtin.Int.intBits a > shortFactorBits) && decide (Builtin.Int.intBits b > shortFactorBits) && Builtin.Int.intTooBig (Builtin.Int.intBits a + Builtin.Int.intBits b))
noncomputable def Z0t (_ j : Int) : Bool := decide (j ≠ 0) && decide (j.natAbs.log2 < 9000)
noncomputable def Z5c (_ j : Int) : Bool := decide (j ≠ 0)
noncomputable def Z65 (i j : Int) : Bool := decide (0 ≤ j ∧ j ≤ 1000000 ∧ i.natAbs < 2 ^ 64)
theorem Zfn {a b : Int} : Zvm a b = true ↔ IntMulOk a b := by
  unfold Zvm IntMulOk
  rw [Bool.not_eq_true', Bool.not_eq_true]
noncomputable def Zcj := i2 fun i j => .int (i + j)
noncomputable def gSb := i2 fun i j => .int (i - j)
noncomputable def Zc7 := i2c Zvm fun i j => .int (i * j)
noncomputable def J0 := i2c Z0t fun i j => .int (i.fdiv j)
noncomputable def Zd0 := i2c Z5c fun i j => .int (i.fmod j)
noncomputable def Zue := i2c Z65 fun i j => .int (i ^ j.toNat)
noncomputable def gLt := i2 fun i j => .bool (decide (i < j))
noncomputable def gLe := i2 fun i j => .bool (decide (i ≤ j))
noncomputable def gGt := i2 fun i j => .bool (decide (j < i))
noncomputable def gGe := i2 fun i j => .bool (decide (j ≤ i))
theorem Zar : ByS Zcj (Ztz fun i j => .int (i + j)) := Zn8
theorem Zo0 : ByS gSb (Ztz fun i j => .int (i - j)) := Zn8
theorem Zb5 : ByS Zc7 (d2I MulOk fun i j => .int (i * j)) := Zld fun i j h => ⟨Zfn.mp h⟩
theorem Za6 : ByS J0 (d2I Z44 fun i j => .int (i.fdiv j)) := Zld fun i j h => ⟨by
  unfold Z0t at h
  rw [Bool.and_eq_true] at h
  exact ⟨of_decide_eq_true h.1, of_decide_eq_true h.2⟩⟩
theorem Zcb : ByS Zd0 (d2I (fun _ j => j ≠ 0) fun i j => .int (i.fmod j)) := Zld fun i j h => of_decide_eq_true h
theorem Zud : ByS Zue (d2I Z5n fun i j => .int (i ^ j.toNat)) := Zld fun i j h => ⟨(of_decide_eq_true h : 0 ≤ j ∧ j ≤ 1000000 ∧ i.natAbs < 2 ^ 64)⟩
theorem Zs5 : ByS gLt (Ztz fun i j => .bool (decide (i < j))) := Zn8
theorem Z4j : ByS gGt (Ztz fun i j => .bool (decide (j < i))) := Zn8
theorem Z61 : ByS gGe (Ztz fun i j => .bool (decide (j ≤ i))) := Zn8
noncomputable def gEq : PyData → PyData → Option PyData := fun d e => if (SeqAt.shaped d && SeqAt.shaped e) = true then some (.bool (PyData.eqv d e)) else none
noncomputable def gNe : PyData → PyData → Option PyData := fun d e => if (SeqAt.shaped d && SeqAt.shaped e) = true then some (.bool (!PyData.eqv d e)) else none
theorem Zze : ByS gEq dEq := fun d e r k h hk => by
  unfold gEq at h
  split at h
  · rename_i q
    rw [Bool.and_eq_true] at q
    cases h
    exact ⟨⟨q.1⟩, ⟨q.2⟩, hk⟩
  · cases h
theorem Zrn : ByS gNe dNe := fun d e r k h hk => by
  unfold gNe at h
  split at h
  · rename_i q
    rw [Bool.and_eq_true] at q
    cases h
    exact ⟨⟨q.1⟩, ⟨q.2⟩, hk⟩
  · cases h
noncomputable def gIs : PyData → PyData → Option PyData := fun d e => match e with | .none => some (.bool (Zdr d)) | _ => none
noncomputable def Z1e : PyData → PyData → Option PyData := fun d e => match e with | .none => some (.bool (!Zdr d)) | _ => none
theorem Z5k : ByS gIs Z5r := fun d e r k h hk => by
  unfold gIs at h
  split at h
  · cases h; exact ⟨rfl, hk⟩
  · cases h
noncomputable def Zmy (neg : Bool) : PyData → PyData → Option PyData := fun d e => match Zs2 e with
  | some ds => if (scD d && ds.all scD) = true then some (.bool (if neg then !memS d ds else memS d ds)) else none
  | none => none
theorem Zsl {neg : Bool} : ByS (Zmy neg) (dIn neg) := fun d e r k h hk => by
  unfold Zmy at h
  split at h
  case h_2 => cases h
  rename_i ds q
  split at h
  case isFalse => cases h
  rename_i q2
  rw [Bool.and_eq_true] at q2
  cases h
  refine ⟨q2.1, ?_⟩
  cases e <;> cases q
  · exact ⟨q2.2, hk⟩
  · exact ⟨q2.2, hk⟩
noncomputable def gIx : PyData → PyData → Option OT := fun d e => (ixD d e).bind fun x => some (.fz x)
theorem Zcd : ByO gIx dIx := fun d e r k h hk => by
  obtain ⟨x, h1, h2⟩ := bs h
  cases h2
  unfold dIx
  rw [h1]
  exact hk
noncomputable def Zqw : PyData → PyData → Option OT := fun d e => match d, e with | .list ds, .list es => if ds.length + es.length ≤ sizeLine then some (.nd ((ds ++ es).map OT.fz)) else none | _, _ => none
theorem Zuq : ByO Zqw dCat := fun d e r k h hk => by
  unfold Zqw at h
  split at h
  · split at h
    · cases h; exact ⟨‹_›, hk⟩
    · cases h
  · cases h
noncomputable def Ze1 : List PyData → Option PyData := fun ds => match ds with | [d] => (Zrt d).bind fun n => some (.int n) | _ => none
theorem Zb9 : ∀ ds r k, Ze1 ds = some r → k r → Z6q ds k := fun ds r k h hk => by
  unfold Ze1 at h
  split at h
  · obtain ⟨n, h1, h2⟩ := bs h
    cases h2
    show match Zrt _ with | some n => _ | none => _
    rw [h1]
    exact hk
  · cases h
noncomputable def Zxd : List PyData → Option PyData := fun ds => match ds with | [.int i] => some (.int (if i < 0 then -i else i)) | _ => none
theorem Zt6 : ∀ ds r k, Zxd ds = some r → k r → Z5t ds k := fun ds r k h hk => by
  unfold Zxd at h
  split at h
  · cases h; exact hk
  · cases h
noncomputable def Z6u : List PyData → Option PyData := fun ds => match ds with | [.int i, .int j] => some (.int (if j > i then j else i)) | _ => none
noncomputable def Z7i : List PyData → Option PyData := fun ds => match ds with | [.int i, .int j] => some (.int (if j < i then j else i)) | _ => none
noncomputable def Zw9 : List PyData → Option PyData := fun ds => match ds with | [.int i] => some (.int i) | [.bool b] => some (.int (if b then 1 else 0)) | _ => none
theorem Z4d : ∀ ds r k, Zw9 ds = some r → k r → Z5m ds k := fun ds r k h hk => by
  unfold Zw9 at h
  split at h
  · cases h; exact hk
  · cases h; exact hk
  · cases h
noncomputable def Z0r : List PyData → Option OT := fun ds => match ds with | [d] => (Zs2 d).bind fun es => some (.nd (es.map OT.fz)) | _ => none
noncomputable def Zkj : List PyData → Option (List Int)
  | [] => some []
  | .int i :: r => (Zkj r).bind fun l => some (i :: l)
  | _ :: _ => none
theorem Zhx : ∀ {ds : List PyData} {ns : List Int}, Zkj ds = some ns → ds = ns.map PyData.int
  | [], _, h => by cases h; rfl
  | .int i :: r, _, h => by
    obtain ⟨l, h1, h2⟩ := bs h
    cases h2
    rw [Zhx h1]; rfl
  | .none :: _, _, h => by cases h
  | .bool _ :: _, _, h => by cases h
  | .str _ :: _, _, h => by cases h
  | .list _ :: _, _, h => by cases h
  | .tuple _ :: _, _, h => by cases h
  | .dict _ :: _, _, h => by cases h
@[simp] theorem Zgb : ∀ ns : List Int, Zkj (ns.map PyData.int) = some ns
  | [] => rfl
  | n :: ns => by rw [List.map_cons, Zkj, Zgb ns]; rfl
section
variable {X : Cx} {io : List Nat} {p c : Bool} {e tg : Expr} {es : List Expr} {st : Stmt} {fa fb fc : FE} {ra : FA} {i : Nat}
noncomputable def Ztq (a : FA) : FE := fun δ => (a δ).bind fun p => match OT.datas p.1 with | [.int j] => if rOk j = true ∧ j.toNat ≤ sizeLine then some (.nd ((Zda 0 j.toNat).map OT.fz), p.2) else none | _ => none
theorem Zt5 (h : ME X io p c e (Z4r (o2 ra))) : ME X io p c e (o2 (Ztq ra)) := h.weak fun δ K h => by
  obtain ⟨r, δ', h, k⟩ := h
  obtain ⟨⟨x, δ1⟩, h1, h⟩ := bs h
  refine ⟨x, δ1, h1, ?_⟩
  dsimp only at h
  split at h
  case h_2 => cases h
  rename_i q
  split at h
  case isFalse => cases h
  rename_i b
  cases h
  (try rw [q])
  exact ⟨⟨(Zcz b.1).1, (Zcz b.1).2, b.2⟩, k⟩
noncomputable def Zw6 (a b : FE) : FE := fun δ => (a δ).bind fun p => (b p.2).bind fun q => match q.1.data with | .int k => if rOk k = true ∧ k.toNat ≤ sizeLine then some (.nd (List.replicate k.toNat (.fz p.1.data)), p.2) else none | _ => none
theorem Zzl (h : ME X io p c e (Z50 (o2 fa) (o2 fb))) : ME X io p c e (o2 (Zw6 fa fb)) := h.weak fun δ K h => by
  obtain ⟨r, δ', h, k⟩ := h
  obtain ⟨⟨x, δ1⟩, h1, h⟩ := bs h
  obtain ⟨⟨y, δ2⟩, h2, h⟩ := bs h
  refine ⟨x, δ1, h1, y, δ2, h2, ?_⟩
  try dsimp only at h ⊢
  split at h
  case h_2 => cases h
  rename_i q
  (try rw [q])
  split at h
  case isFalse => cases h
  rename_i b
  cases h
  have z := Zcz b.1
  exact ⟨⟨by omega, by omega, b.2⟩, k⟩
noncomputable def Zis (a b : FE) : FE := fun δ => (a δ).bind fun p => match p.1.data with
  | .list es => (Zkj es).bind fun ns => if ns.length ≤ 2 ^ 20 then (b p.2).bind fun q => match q.1.data with
    | .int k => if k ∈ ns then some (.fz (.int (ns.idxOf k : Nat)), q.2) else none
    | _ => none else none
  | _ => none
theorem Zrj (h : ME X io p c e (Ztm (o2 fa) (o2 fb))) : ME X io p c e (o2 (Zis fa fb)) := h.weak fun δ K h => by
  obtain ⟨r, δ', h, k⟩ := h
  obtain ⟨⟨x, δ1⟩, h1, h⟩ := bs h
  refine ⟨x, δ1, h1, ?_⟩
  try dsimp only at h ⊢
  split at h
  case h_2 => cases h
  rename_i q
  obtain ⟨ns, h2, h⟩ := bs h
  split at h
  case isFalse => cases h
  obtain ⟨⟨y, δ2⟩, h3, h⟩ := bs h
  refine ⟨ns, by rw [q, Zhx h2], ‹_›, y, δ2, h3, ?_⟩
  try dsimp only at h ⊢
  split at h
  case h_2 => cases h
  rename_i q2
  (try rw [q2])
  split at h
  case isFalse => cases h
  cases h
  exact ⟨‹_›, k⟩
noncomputable def Zys (i : Nat) (a : FE) : FE := fun δ => match δ[i]? with
  | some (some (.nd _)) => (a δ).bind fun p => match p.2[i]? with
    | some (some (.nd ts)) => match p.1.data with
      | .int j => match ixN ts.length j with
        | some k => match ts[k]? with
          | some (.fz d) => if ts.length ≤ sizeLine then some (.fz d, p.2.set i (some (.nd (ts.eraseIdx k)))) else none
          | _ => none
        | none => none
      | _ => none
    | _ => none
  | _ => none
theorem Z0h (h : ME X io p c e (Z10 i (o2 fa))) : ME X io p c e (o2 (Zys i fa)) := h.weak fun δ K h => by
  obtain ⟨r, δ', h, k⟩ := h
  unfold Zys at h; unfold Z10
  split at h
  case h_2 => cases h
  rename_i q; (try rw [q])
  obtain ⟨⟨x, δ1⟩, h1, h⟩ := bs h
  refine ⟨x, δ1, h1, ?_⟩
  try dsimp only at h ⊢
  split at h
  case h_2 => cases h
  rename_i q2; (try rw [q2])
  try dsimp only
  split at h
  case h_2 => cases h
  rename_i j q3; (try rw [q3])
  show match ixN _ j with | some k => _ | none => _
  split at h
  case h_2 => cases h
  rename_i q4; (try rw [q4]); (try dsimp only)
  split at h
  case h_2 => cases h
  rename_i q5; (try rw [q5])
  split at h
  case isFalse => cases h
  cases h
  exact ⟨‹_›, k⟩
end
end L2
namespace L2
open PySem PySem.Spec PyProof.Rows
variable {G : PySem.W.Frag}
section
variable {X : Cx} {io : List Nat} {p c : Bool} {e a b : Expr} {es : List Expr} {m ma mb : MEt} {mr : MAt} {pos apos cpos px py pt sp kp : Pos} {i j : Nat} {x y : Str} {fa fb : FE} {ra : FA} {st : Stmt}
noncomputable def Z3c (a : FA) : FE := fun δ => (a δ).bind fun p => if p.1.length ≤ sizeLine then some (.tp p.1, p.2) else none
noncomputable def Zto (i c : Nat) (e : FE) : FS := fun δ => match δ[i]? with
  | some (some (.tp ts)) => match ts[c]? with
    | some (.nd us) => wE e (fun r _ => if us.length < sizeLine then .nx (δ.set i (some (.tp (ts.set c (.nd (us ++ [.fz r.data])))))) else .bad) δ
    | _ => .bad
  | _ => .bad
noncomputable def Z5a (i j : Nat) (a : FA) : FS := fun δ => match a δ with
  | some (rs, δ1) => match OT.datas rs with
    | [d, e] => .nx ((δ1.set i (some (.fz d))).set j (some (.fz e)))
    | _ => .bad
  | none => .bad
end
class NoStar (e : Expr) : Prop where
  h : ∀ es env, starEach (e :: es) env = (false, eval e env) :: starEach es env
instance nx_Name {x : Str} {p : Pos} : NoStar (.Name x p) := ⟨fun _ _ => rfl⟩
instance nx_Constant {x k} {p : Pos} : NoStar (.Constant x k p) := ⟨fun _ _ => rfl⟩
instance nx_BinOp {a o b} {p : Pos} : NoStar (.BinOp a o b p) := ⟨fun _ _ => rfl⟩
instance nx_Compare {a o b} {p : Pos} : NoStar (.Compare a o b p) := ⟨fun _ _ => rfl⟩
instance nx_Call {f a k} {p : Pos} : NoStar (.Call f a k p) := ⟨fun _ _ => rfl⟩
instance nx_Tuple {a k} {p : Pos} : NoStar (.Tuple a k p) := ⟨fun _ _ => rfl⟩
instance nx_Subscript {a b} {p : Pos} : NoStar (.Subscript a b p) := ⟨fun _ _ => rfl⟩
instance nx_ListComp {a b s} {p : Pos} : NoStar (.ListComp a b s p) := ⟨fun _ _ => rfl⟩
theorem Za {X : Cx} {io : List Nat} {p p' c c' p2 c2 : Bool} {e : Expr} {es : List Expr} {fa : FE} {ra : FA} [NoStar e] (ha : ME X io p c e (o2 fa)) (hr : MA X io p' c' es (o2 ra)) (hc : p' = true ∨ c = true := by first | exact Or.inl rfl | exact Or.inr rfl) (h2 : (p && p') = p2 := by rfl) (h3 : (c && c') = c2 := by rfl) : MA X io p2 c2 (e :: es) (o2 (Zh fa ra)) :=
  h2 ▸ h3 ▸ Zwf (Zvn ha hr hc (NoStar.h es X.env))
theorem Y0 {X : Cx} {io : List Nat} {p p' c c' : Bool} {e : Expr} {m : MEt} (h : ME X io p c e m) (h2 : p = p' := by rfl) (h3 : c = c' := by rfl) : ME X io p' c' e m := h2 ▸ h3 ▸ h
end L2
namespace L2
open PySem PySem.Spec PyProof.Rows
variable {G : PySem.W.Frag}
section
variable {X : Cx} {io : List Nat} {p c : Bool} {e a b : Expr} {es : List Expr} {m ma mb : MEt} {mr : MAt} {pos apos cpos px py pt sp kp : Pos} {i j : Nat} {x y : Str} {fa fb : FE} {ra : FA} {st : Stmt} {u : FS}
noncomputable def insI (x : Int) : List Int → List Int
  | [] => [x]
  | y :: ys => if x ≤ y then x :: y :: ys else y :: insI x ys
noncomputable def Zd8 : List Int → List Int
  | [] => []
  | x :: xs => insI x (Zd8 xs)
theorem insI_perm (x : Int) : ∀ l, (insI x l).Perm (x :: l)
  | [] => .refl _
  | y :: ys => by
    unfold insI
    split
    · exact .refl _
    · exact ((insI_perm x ys).cons y).trans (.swap x y ys)
theorem Zbw : ∀ l, (Zd8 l).Perm l
  | [] => .refl _
  | x :: xs => (insI_perm x _).trans ((Zbw xs).cons x)
theorem Zfs (x : Int) : ∀ {l}, l.Pairwise (· ≤ ·) → (insI x l).Pairwise (· ≤ ·)
  | [], _ => .cons (fun _ m => nomatch m) .nil
  | y :: ys, h => by
    unfold insI
    cases h with
    | cons h1 h2 =>
      split
      · rename_i c
        refine .cons (fun z m => ?_) (.cons h1 h2)
        rcases List.mem_cons.mp m with rfl | m
        · exact c
        · exact Int.le_trans c (h1 z m)
      · rename_i c
        refine .cons (fun z m => ?_) (Zfs x h2)
        rcases List.mem_cons.mp ((insI_perm x ys).mem_iff.mp m) with rfl | m
        · omega
        · exact h1 z m
theorem Zcy : ∀ l, (Zd8 l).Pairwise (· ≤ ·)
  | [] => .nil
  | x :: xs => Zfs x (Zcy xs)
theorem Zb4 : ∀ {l₁ l₂ : List Int}, l₁.Perm l₂ → l₁.Pairwise (· ≤ ·) → l₂.Pairwise (· ≤ ·) → l₁ = l₂
  | [], l₂, h, _, _ => h.nil_eq
  | a :: l₁, [], h, _, _ => h.eq_nil
  | a :: l₁, b :: l₂, h, h1, h2 => by
    cases h1 with
    | cons p1 q1 =>
      cases h2 with
      | cons p2 q2 =>
        have e : a = b := by
          have m1 : a ∈ b :: l₂ := h.mem_iff.mp (.head _)
          have m2 : b ∈ a :: l₁ := h.mem_iff.mpr (.head _)
          rcases List.mem_cons.mp m1 with e | m1
          · exact e
          · rcases List.mem_cons.mp m2 with e | m2
            · exact e.symm
            · have := p2 a m1
              have := p1 b m2
              omega
        subst e
        rw [Zb4 h.cons_inv q1 q2]
noncomputable def Ztw (K : PySem.W.Frag) : List V → Hp → VK → Prop := fun xs H Q => ∃ (a : Addr) (ns : List Int), xs = [.ref a] ∧ SqL K H a (ns.map V.int) ∧ ns.length < 64 ∧ ∀ l, H l = none → Q (.ref l) (upd H l (.lst ((Zd8 ns).map V.int)))
theorem Zy9 : ∀ {its : List Value} {ns : List Int}, IntsAre its ns → Vals (ns.map V.int) its
  | [], _, h => by cases h; exact .nil
  | v :: its, _, h => by
    cases h with
    | cons n t h => exact .cons ⟨_, rfl⟩ (Zy9 h)
theorem Zmm {K : PySem.W.Frag} (hK : X.K = K) : Zeo X (.builtin "sorted") (Ztw K) := by
  subst hK
  intro pins s σ H xs us Q I r h
  obtain ⟨l, ns, rfl, hs, h64, q⟩ := h
  obtain ⟨u, rfl, ru⟩ := vals1 r
  cases (show u = Value.ref l from ru)
  obtain ⟨its, rv, pl, hz⟩ := I.list hs
  have hl := rv.length
  rw [List.length_map] at hl
  refine sorted_ints pl.isList (Zio rv) (by omega) fun out ns' a1 a2 a3 => ?_
  obtain ⟨e, he⟩ := sortedAll_at s.heap its out
  have en : ns' = Zd8 ns := Zb4 (a2.trans (Zbw ns).symm) a3 (Zcy ns)
  subst en
  refine ⟨.ref (s.heap.objs.size + 1), _, I.laid (t' := s.toks) (o := .lst ((Zd8 ns).map V.int)) (fun b ob q => sortedAll_old q) (by omega) ⟨?_, out.toList, e, Zy9 a1, he⟩, rfl, q _ (I.hok.fresh (by omega))⟩
  rw [List.length_map, (Zbw ns).length_eq, sizeLine_eq]; omega
noncomputable def Ztr : List PyData → (OT → Prop) → Prop := fun ds k => n1 (fun d => ∃ ns : List Int, d = .list (ns.map PyData.int) ∧ ns.length < 64 ∧ k (.nd (((Zd8 ns).map PyData.int).map OT.fz))) ds
theorem Zr0 : PN G (Ztw G) Ztr := fun H L xs ds k Q hx h kk => by
  obtain ⟨v, d, rfl, rfl, q, ns, e, h64, h⟩ := hx.one h
  have fin : ∀ (p : Addr), H p = none → Q (.ref p) (upd H p (.lst ((Zd8 ns).map V.int))) := fun p hp => kk _ _ _ [p] (Wq hp _) (Own.list hp (Das.ints _)) (Zez p) (Zdn hp) h
  subst e
  generalize ed : PyData.list (ns.map PyData.int) = d at q
  cases q with
  | lst l e r =>
    cases ed
    exact ⟨_, ns, rfl, by rw [r.int_inv] at e; exact .inl e, h64, fin⟩
  | scr ks =>
    injection ed with ed
    have : ns = _ := List.map_inj_right (fun x y z => by injection z) |>.mp ed
    subst this
    exact ⟨_, _, rfl, ks.sq, h64, fin⟩
  | _ => cases ed
noncomputable def Zi5 : List PyData → Option OT := fun ds => match ds with | [.list es] => (Zkj es).bind fun ns => if ns.length < 64 then some (.nd (((Zd8 ns).map PyData.int).map OT.fz)) else none | _ => none
theorem Zwo : ∀ ds r k, Zi5 ds = some r → k r → Ztr ds k := fun ds r k h hk => by
  unfold Zi5 at h
  split at h
  case h_2 => cases h
  obtain ⟨ns, h1, h⟩ := bs h
  split at h
  case isFalse => cases h
  rename_i h2
  cases h
  exact ⟨ns, by rw [Zhx h1], h2, hk⟩
end
end L2
namespace L2
open PySem PySem.Spec PyProof.Rows
structure Gives (P : Program) (w : World) (it : Addr) (f : List Addr) (St : Heap → Prop) (x : Value) (St' : Heap → Prop) : Prop where
  mem : it ∈ f
  run : ∀ {A : Around} {E : Value → Shared → Prop} {s : Shared} {Q : Value → Shared → Prop}, St s.heap → (∀ h', St' h' → Heap.SameBut it s.heap h' → Q x { s with heap := h' }) → wpAny (model P w) A (Builtin.SmallTypes.nextOf (.ref it)) Q E s
  keep : ∀ h h', (∀ c ∈ f, ∀ o, h.get? c = some o → h'.get? c = some o) → St h → St h'
  keep' : ∀ h h', (∀ c ∈ f, ∀ o, h.get? c = some o → h'.get? c = some o) → St' h → St' h'
structure Z5b (P : Program) (w : World) (it : Addr) (f : List Addr) (St : Heap → Prop) : Prop where
  mem : it ∈ f
  run : ∀ {A : Around} {E : Value → Shared → Prop} {s : Shared} {Q : Value → Shared → Prop}, A.handled = none → St s.heap → (∀ h' e, Heap.ExtBut it s.heap h' → (∃ o, h'.get? e = some o ∧ o.cls = .type "StopIteration") → E (.ref e) { s with heap := h' }) → wpAny (model P w) A (Builtin.SmallTypes.nextOf (.ref it)) Q E s
  keep : ∀ h h', (∀ c ∈ f, ∀ o, h.get? c = some o → h'.get? c = some o) → St h → St h'
structure ZA (z TI TO i1 i2 : Addr) (f1 f2 : List Addr) : Prop where
  TIz : TI ≠ z
  TOz : TO ≠ z
  a1 : ∀ c ∈ f1, c ≠ z ∧ c ≠ TO ∧ c ≠ i2
  a2 : ∀ c ∈ f2, c ≠ z ∧ c ≠ TO ∧ c ≠ i1
section
variable {P : Program} {w : World} {A : Around} {E : Value → Shared → Prop} {s : Shared}
end
noncomputable abbrev zT1 (h : Heap) (a : Addr) : Heap := h.push { cls := .type "tuple_iterator", data := .fields #[.ref a, .int 0 0] }
noncomputable abbrev zT2 (h : Heap) (a b : Addr) : Heap := (zT1 h a).push { cls := .type "tuple_iterator", data := .fields #[.ref b, .int 0 0] }
noncomputable abbrev zT3 (h : Heap) (a b : Addr) : Heap := (zT2 h a b).push { cls := .type "tuple", data := .seq #[.ref h.objs.size, .ref (zT1 h a).objs.size] }
noncomputable abbrev zT4 (h : Heap) (a b : Addr) : Heap := (zT3 h a b).push { cls := .type "tuple", data := .seq #[.none, .none] }
noncomputable abbrev zT5 (h : Heap) (a b : Addr) : Heap := (zT4 h a b).push { cls := .type "zip", data := .fields #[.none, .bool false, .bool false, .ref (zT2 h a b).objs.size, .ref (zT3 h a b).objs.size] }
section
variable {P : Program} {w : World} {A : Around} {E : Value → Shared → Prop} {s : Shared}
end
section
variable {X : Cx} {io : List Nat} {p c : Bool} {a b : Expr} {mr : MAt}
end
end L2
namespace L2
open PySem PySem.Spec PyProof.Rows
noncomputable def Zej {α : Type} (xs : List α) (lo hi st : Option Int) : List α :=
  (sliceRange (sliceBounds lo hi st xs.length).1 (sliceBounds lo hi st xs.length).2.1 (sliceBounds lo hi st xs.length).2.2).filterMap (xs[·]?)
theorem Vals.places : ∀ {xs : List V} {its : List Value}, Vals xs its → ∀ js : List Nat, Vals (js.filterMap (xs[·]?)) (js.filterMap (its[·]?))
  | _, _, _, [] => .nil
  | xs, its, h, j :: js => by
    have ih := Vals.places h js
    cases hn : xs[j]? with
    | some x =>
      obtain ⟨u, hu, ru⟩ := h.get hn
      simp only [List.filterMap_cons, hn, hu]
      exact .cons ru ih
    | none =>
      have hv : its[j]? = none := by
        rw [List.getElem?_eq_none_iff] at hn ⊢
        rw [← h.length]; exact hn
      simp only [List.filterMap_cons, hn, hv]
      exact ih
theorem Das.places {G : PySem.W.Frag} {H : Hp} {L : Addr → Prop} {xs : List V} {ds : List PyData} (h : Das G H L xs ds) : ∀ js : List Nat, Das G H L (js.filterMap (xs[·]?)) (js.filterMap (ds[·]?))
  | [] => .nil
  | j :: js => by
    have ih := Das.places h js
    cases hn : ds[j]? with
    | some x =>
      obtain ⟨u, hu, ru⟩ := h.get hn
      simp only [List.filterMap_cons, hn, hu]
      exact .cons ru ih
    | none =>
      have hv : xs[j]? = none := by
        rw [List.getElem?_eq_none_iff] at hn ⊢
        rw [h.length]; exact hn
      simp only [List.filterMap_cons, hn, hv]
      exact ih
theorem Das.pick {G : PySem.W.Frag} {H : Hp} {L : Addr → Prop} {xs : List V} {ds : List PyData} (h : Das G H L xs ds) (lo hi st : Option Int) : Das G H L (Zej xs lo hi st) (Zej ds lo hi st) := by
  unfold Zej
  rw [h.length]
  exact h.places _
theorem Vals.pick {xs : List V} {its : List Value} (h : Vals xs its) (lo hi st : Option Int) : Vals (Zej xs lo hi st) (slicePick its.toArray lo hi st).toList := by
  have e : (slicePick its.toArray lo hi st).toList = (sliceRange (sliceBounds lo hi st xs.length).1 (sliceBounds lo hi st xs.length).2.1 (sliceBounds lo hi st xs.length).2.2).filterMap (its[·]?) := by
    simp [slicePick, h.length]
  rw [e]
  exact h.places _
theorem Zga {xs : List V} {its : List Value} (h : Vals xs its) (lo hi st : Option Int) : (Zej xs lo hi st).length ≤ xs.length := by
  have e := (h.pick lo hi st).length
  have s := slicePick_size_le its.toArray lo hi st
  have l := h.length
  simp only [Array.length_toList, List.size_toArray] at e s
  omega
section
variable {X : Cx} {e : Expr} {te : TE} {lo hi : Option Expr} {se : Expr} {tl th ts : TO} {pos p2 : Pos}
noncomputable def tSt (K : PySem.W.Frag) (te : TE) (tl th ts : TO) : TE := fun σ H Q => te σ H fun x H1 => tl σ H1 fun l H2 => th σ H2 fun u H3 => ts σ H3 fun k H4 => ∃ a xs, x = .ref a ∧ SqL K H4 a xs ∧ k ≠ some 0 ∧ ∀ p, H4 p = none → Q (.ref p) (upd H4 p (.lst (Zej xs l u k)))
theorem Zvt (he : PE X e te) (hl : PO X lo tl) (hu : PO X hi th) (hst : PO X (some se) ts) : PE X (.Subscript e (.Slice lo hi (some se) p2) pos) (tSt X.K te tl th ts) := by
  intro pins s σ H Q I h
  refine Subscript_ (thn (he pins s σ H _ I h) fun v s1 qz9 => ?_)
  obtain ⟨x, H1, I1, r1, q1⟩ := qz9
  refine wpAny_Slice (thn (hl pins s1 σ H1 _ I1 q1) fun vl s2 qz9 => ?_)
  obtain ⟨l, H2, I2, pl, q2⟩ := qz9
  refine thn (hu pins s2 σ H2 _ I2 q2) fun vu s3 qz9 => ?_
  obtain ⟨u, H3, I3, pu, q3⟩ := qz9
  refine thn (hst pins s3 σ H3 _ I3 q3) fun vs s4 qz9 => ?_
  obtain ⟨k, H4, I4, ps, q4⟩ := qz9
  obtain ⟨a, xs, rfl, hx, hk, q⟩ := q4
  cases r1
  have I5 : Inv X pins σ H4 { s4 with heap := s4.heap.push { cls := .type "slice", data := .fields #[vl, vu, vs] } } := I4.kept (t' := s4.toks) fun b ob q => Heap.get?_push_of_some _ q
  obtain ⟨its, r, ht, hz⟩ := I5.list hx
  have hlen := r.length
  show wpAny (model X.prog X.w) X.A (subscriptTail e (.Slice lo hi (some se) p2) (.ref a) (.ref s4.heap.objs.size)) (EP X pins σ Q) X.xe { s4 with heap := s4.heap.push { cls := .type "slice", data := .fields #[vl, vu, vs] } }
  refine tail_any (ops := [.ref a, .ref s4.heap.objs.size]) ht.isList.typeIs slot_list_getitem.lookup ?_ (by with_unfolding_all rfl)
  refine wpAny_getItem_list_slice ht.isList (Heap.IsSliceOf.new ..) pl pu ps hk ?_ (by rw [List.size_toArray] <;> omega)
  refine ⟨.ref _, _, I5.laid (t' := s4.toks) (o := .lst (Zej xs l u k)) (fun b ob q => Heap.get?_push_of_some _ q) (Nat.le_refl _) ?_, rfl, q _ (I5.hok.fresh (Nat.le_refl _))⟩
  exact ⟨Nat.le_trans (Zga r l u k) hz, _, 0, r.pick l u k, Heap.get?_push_size _ rfl⟩
end
section
variable {X : Cx} {io : List Nat} {p c : Bool} {a e : Expr} {ma : MEt} {lo hi : Option Expr} {se : Expr} {ml mh ms : MOt} {pos p2 : Pos} {fa : FE}
noncomputable def Z0j (m : MEt) (ml mh ms : MOt) : MEt := fun δ K => m δ fun r δ1 => ml δ1 fun lo δ2 => mh δ2 fun hi δ3 => ms δ3 fun st δ4 => st ≠ some 0 ∧ asL r.data fun ds => K (.nd ((Zej ds lo hi st).map OT.fz)) δ4
theorem Zx2 (ha : ME X io true c a ma) (hl : MO X io true lo ml) (hh : MO X io true hi mh) (hs : MO X io true (some se) ms) : ME X io true c (.Subscript a (.Slice lo hi (some se) p2) pos) (Z0j ma ml mh ms) := by
  obtain ⟨_, A, s⟩ := ha
  obtain ⟨_, B, sl⟩ := hl
  obtain ⟨_, D, sh⟩ := hh
  obtain ⟨_, F, ss⟩ := hs
  refine ⟨_, Zvt A B D F, ?_⟩
  intro C H σ δ fp ex K' Q R h k
  refine s C H σ δ fp ex _ _ R h fun H1 v r δ1 fp1 new r1 h1 => ?_
  refine sl C H1 σ δ1 fp1 ex _ _ r1.base h1 fun H2 l δ2 fp2 R2 S2 h2 => ?_
  refine sh C H2 σ δ2 fp2 ex _ _ R2 h2 fun H3 u δ3 fp3 R3 S3 h3 => ?_
  refine ss C H3 σ δ3 fp3 ex _ _ R3 h3 fun H4 w δ4 fp4 R4 S4 h4 => ?_
  obtain ⟨hw, h4⟩ := h4
  have s2 : Same H1 H2 := fun b o e => S2.keep b o e (.inl rfl)
  have s3 : Same H2 H3 := fun b o e => S3.keep b o e (.inl rfl)
  have s4 : Same H3 H4 := fun b o e => S4.keep b o e (.inl rfl)
  obtain ⟨e3, e4⟩ := S2.env rfl
  obtain ⟨e5, e6⟩ := S3.env rfl
  obtain ⟨e7, e8⟩ := S4.env rfl
  have q := (((r1.da R).same s2).same s3).same s4
  obtain ⟨a', xs, ds, rfl, e, qs, h4⟩ := q.lstInv h4
  refine ⟨a', xs, rfl, e, hw, fun p hp => ?_⟩
  have S := ((r1.stp.trans S2).trans S3).trans S4
  refine k _ _ _ δ4 fp4 [p] (RE.tree R R4 S (Wq hp _) (Zdn hp) (Zez p) (Own.list hp ((qs.pick l u w).wide fun a l _ => ?_))) h4
  rw [e8, e6, e4]
  exact l
noncomputable def stepOf (d : PyData) (lo hi st : Option Int) : Option OT := match d with | .list ds => if st = some 0 then none else some (.nd ((Zej ds lo hi st).map OT.fz)) | _ => none
noncomputable def Zr2 (e : FE) (lo hi st : FO) : FE := fun δ => (e δ).bind fun p => (lo p.2).bind fun q => (hi q.2).bind fun r => (st r.2).bind fun t => (stepOf p.1.data q.1 r.1 t.1).bind fun o => some (o, t.2)
theorem Zwz {lo hi st : FO} (h : ME X io p c e (Z0j (o2 fa) (o2 lo) (o2 hi) (o2 st))) : ME X io p c e (o2 (Zr2 fa lo hi st)) := h.weak fun δ K h => by
  obtain ⟨r, δ', h, k⟩ := h
  obtain ⟨⟨x, δ1⟩, h1, h⟩ := bs h
  obtain ⟨⟨y, δ2⟩, h2, h⟩ := bs h
  obtain ⟨⟨z, δ3⟩, h3, h⟩ := bs h
  obtain ⟨⟨t, δ4⟩, h4, h⟩ := bs h
  obtain ⟨o, h5, h⟩ := bs h
  cases h
  refine ⟨x, δ1, h1, y, δ2, h2, z, δ3, h3, t, δ4, h4, ?_⟩
  unfold stepOf at h5
  dsimp only at h5 ⊢
  split at h5
  · rename_i q
    split at h5
    · cases h5
    · rename_i n
      cases h5
      refine ⟨n, ?_⟩
      rw [show x.data = _ from q]
      exact k
  · cases h5
end
theorem Zir {α β : Type} {f g : α → Option β} : ∀ {l : List α}, (∀ k ∈ l, f k = g k) → l.filterMap f = l.filterMap g
  | [], _ => rfl
  | a :: l, h => by
    rw [List.filterMap_cons, List.filterMap_cons, h a (by simp), Zir fun k hk => h k (by simp [hk])]
theorem Zqr {α : Type} (xs : List α) : Zej xs none none (some (-1)) = xs.reverse := by
  unfold Zej sliceRange sliceBounds
  simp only [Option.getD_some]
  have d0 : ¬ ((-1 : Int) > 0) := by decide
  simp only [if_neg d0]
  have hc : (if (xs.length : Int) - 1 > -1 then ((xs.length : Int) - 1 - -1 - -1 - 1) / (- -1) else 0) = (xs.length : Int) := by
    split
    · simp
    · omega
  rw [hc, List.filterMap_map, Int.toNat_natCast]
  apply List.ext_getElem?
  intro i
  have hf : List.filterMap ((fun x => xs[x]?) ∘ fun k : Nat => ((xs.length : Int) - 1 + -1 * (k : Int)).toNat) (List.range xs.length) = xs.reverse := by
    have : ∀ k ∈ List.range xs.length, ((fun x => xs[x]?) ∘ fun k : Nat => ((xs.length : Int) - 1 + -1 * (k : Int)).toNat) k = xs.reverse[k]? := fun k hk => by
      have hk := List.mem_range.mp hk
      show xs[((xs.length : Int) - 1 + -1 * (k : Int)).toNat]? = _
      rw [List.getElem?_reverse hk]
      congr 1
      omega
    rw [Zir this]
    have gen : ∀ (ys : List α) (m : Nat), m = ys.length → List.filterMap (fun k => ys[k]?) (List.range m) = ys := by
      intro ys
      induction ys with
      | nil => intro m hm; subst hm; rfl
      | cons y ys ih =>
        intro m hm
        subst hm
        rw [List.length_cons, List.range_succ_eq_map, List.filterMap_cons]
        simp only [List.getElem?_cons_zero, List.filterMap_map]
        exact congrArg _ (ih _ rfl)
    exact gen _ _ (by simp)
  rw [hf]
theorem Zmt {α : Type} (xs : List α) : Zej xs none (some 0) (some (-1)) = (xs.drop 1).reverse := by
  cases xs with
  | nil => rfl
  | cons y ys =>
    rw [List.drop_succ_cons, List.drop_zero, ← Zqr ys]
    unfold Zej sliceRange sliceBounds
    simp only [Option.getD_some, List.length_cons]
    have d0 : ¬ ((-1 : Int) > 0) := by decide
    have d1 : ¬ ((0 : Int) < 0) := by decide
    simp only [if_neg d0, if_neg d1]
    have e0 : max (-1 : Int) (min 0 (((ys.length + 1 : Nat) : Int) - 1)) = 0 := by omega
    rw [e0]
    have c1 : (if ((ys.length + 1 : Nat) : Int) - 1 > 0 then (((ys.length + 1 : Nat) : Int) - 1 - 0 - -1 - 1) / (- -1) else 0) = (ys.length : Int) := by
      split
      · simp
      · omega
    have c2 : (if (ys.length : Int) - 1 > -1 then ((ys.length : Int) - 1 - -1 - -1 - 1) / (- -1) else 0) = (ys.length : Int) := by
      split
      · simp
      · omega
    rw [c1, c2, List.filterMap_map, List.filterMap_map]
    refine Zir fun k hk => ?_
    have hk : k < ys.length := by simpa using hk
    show (y :: ys)[(((ys.length + 1 : Nat) : Int) - 1 + -1 * (k : Int)).toNat]? = ys[((ys.length : Int) - 1 + -1 * (k : Int)).toNat]?
    rw [show (((ys.length + 1 : Nat) : Int) - 1 + -1 * (k : Int)).toNat = ((ys.length : Int) - 1 + -1 * (k : Int)).toNat + 1 by omega, List.getElem?_cons_succ]
theorem Zkd (ds : List PyData) : stepOf (.list ds) none (some 0) (some (-1)) = some (.nd (((ds.drop 1).reverse).map OT.fz)) := by
  show (if some (-1 : Int) = some 0 then none else _) = _
  rw [Zmt]; exact if_neg (by decide)
end L2
namespace L2
open PySem PySem.Spec PyProof.Rows
section
variable {X : Cx} {io : List Nat} {c1 c2 c3 c4 p : Bool} {a b e d : Expr} {ma mb mc md : MEt} {pos : Pos} {f g h : Int → Int → Bool} {ta tb tc td : TE} {fa fb fc fd : FE} {G : PySem.W.Frag}
noncomputable def Znq (r r' r'' : R2) (ta tb tc td : TE) : TE := fun σ H Q => ta σ H fun x H1 => tb σ H1 fun y H2 => r x y H2 fun z H3 => ∃ k, z = .bl k ∧
  (if k = true then tc σ H3 fun w H4 => r' y w H4 fun z' H5 => ∃ k', z' = .bl k' ∧ (if k' = true then td σ H5 fun u H6 => r'' w u H6 Q else Q (.bl false) H5) else Q (.bl false) H3)
theorem Znm {op op' op'' : CmpOp} {r r' r'' : R2} (ho : OpR X (compareOp op) r) (ho' : OpR X (compareOp op') r') (ho'' : OpR X (compareOp op'') r'') (ha : PE X a ta) (hb : PE X b tb) (hc : PE X e tc) (hd : PE X d td)
    (hm : lastMarks [op, op', op''] [b, e, d] = false := by with_unfolding_all rfl) : PT X (.Compare a [op, op', op''] [b, e, d] pos) (Zus (Znq r r' r'' ta tb tc td)) := by
  intro pins s σ H Q I h
  refine isTrue_chain (thn (ha pins s σ H _ I h) fun v s1 ⟨x, H1, I1, r1, q1⟩ => test_link (thn (hb pins s1 σ H1 _ I1 q1) fun u s2 ⟨y, H2, I2, r2, q2⟩ =>
    thn (ho pins s2 σ H2 x y v u _ I2 r1 r2 q2) fun d s3 ⟨z, H3, I3, r3, k, e, q3⟩ => ?_)) hm
  subst e
  cases r3
  refine wpAny_truthy_bool ?_
  cases k with
  | false =>
    obtain ⟨k', e', q'⟩ := q3
    cases e'
    exact ite_ff ⟨H3, I3, q'⟩
  | true =>
    refine ite_tt (test_link (thn (hc pins s3 σ H3 _ I3 q3) fun w' s4 qz9 => ?_))
    obtain ⟨z', H4, I4, r4, q4⟩ := qz9
    refine thn (ho' pins s4 σ H4 y z' u w' _ I4 r2 r4 q4) fun d' s5 qz9 => ?_
    obtain ⟨z2, H5, I5, r5, k2, e2, q5⟩ := qz9
    subst e2
    cases r5
    refine wpAny_truthy_bool ?_
    cases k2 with
    | false =>
      obtain ⟨k', e', q'⟩ := q5
      cases e'
      exact ite_ff ⟨H5, I5, q'⟩
    | true =>
      refine ite_tt (test_last (thn (hd pins s5 σ H5 _ I5 q5) fun w2 s6 qz9 => ?_))
      obtain ⟨z6, H6, I6, r6, q6⟩ := qz9
      refine thn (ho'' pins s6 σ H6 z' z6 w' w2 _ I6 r4 r6 q6) fun d3 s7 qz9 => ?_
      obtain ⟨z7, H7, I7, r7, k7, e7, q7⟩ := qz9
      subst e7
      cases r7
      exact wpAny_truthy_bool ⟨H7, I7, q7⟩
noncomputable def Zk0 (f g h : Int → Int → Bool) (ma mb mc md : MEt) : MEt := fun δ K => ma δ fun x δ1 => mb δ1 fun y δ2 => asI x.data fun i => asI y.data fun j => if f i j = true then mc δ2 fun z δ3 => asI z.data fun k => (if g j k = true then md δ3 fun w δ4 => asI w.data fun l => K (.fz (.bool (h k l))) δ4 else K (.fz (.bool false)) δ3) else K (.fz (.bool false)) δ2
theorem Zwv (ha : SE G io true c1 ta ma) (hb : SE G io true c2 tb mb) (hc : SE G io true c3 tc mc) (hd : SE G io true c4 td md) : SE G io true true (Znq (rI0 fun i j => .bl (f i j)) (rI0 fun i j => .bl (g i j)) (rI0 fun i j => .bl (h i j)) ta tb tc td) (Zk0 f g h ma mb mc md) := by
  intro C H σ δ fp ex K Q R h k
  refine ha.pureAfter R h fun H1 x u R1 s1 q1 h1 => ?_
  refine hb.pureAfter R1 h1 fun H2 y v R2 s2 q2 h2 => ?_
  obtain ⟨i, rfl, h2⟩ := q1.intInv h2
  obtain ⟨j, rfl, h2⟩ := q2.intInv h2
  refine ⟨i, j, rfl, rfl, f i j, rfl, ?_⟩
  by_cases hf : f i j = true
  · rw [if_pos hf] at h2 ⊢
    refine hc.pureAfter R2 h2 fun H3 z w R3 s3 q3 h3 => ?_
    obtain ⟨l, rfl, h3⟩ := q3.intInv h3
    have s13 : Same H H3 := (s1.trans s2).trans s3
    refine ⟨j, l, rfl, rfl, g j l, rfl, ?_⟩
    by_cases hg : g j l = true
    · rw [if_pos hg] at h3 ⊢
      refine hd.pureAfter R3 h3 fun H4 z4 w4 R4 s4 q4 h4 => ?_
      obtain ⟨n, rfl, h4⟩ := q4.intInv h4
      have s14 : Same H H4 := s13.trans s4
      exact ⟨l, n, rfl, rfl, k H4 _ _ δ fp [] (.fz R4 (.same s14 s14.al) (.bl _)) h4⟩
    · rw [if_neg hg] at h3 ⊢
      exact k H3 _ _ δ fp [] (.fz R3 (.same s13 s13.al) (.bl _)) h3
  · rw [if_neg hf] at h2 ⊢
    have s12 : Same H H2 := s1.trans s2
    exact k H2 _ _ δ fp [] (.fz R2 (.same s12 s12.al) (.bl _)) h2
theorem Zjk {op op' op'' : CmpOp} (ho : OpR X (compareOp op) (rI0 fun i j => .bl (f i j))) (ho' : OpR X (compareOp op') (rI0 fun i j => .bl (g i j))) (ho'' : OpR X (compareOp op'') (rI0 fun i j => .bl (h i j))) (ha : ME X io true c1 a ma) (hb : ME X io true c2 b mb) (hc : ME X io true c3 e mc) (hd : ME X io true c4 d md)
    (hm : lastMarks [op, op', op''] [b, e, d] = false := by with_unfolding_all rfl) : MT X io true (.Compare a [op, op', op''] [b, e, d] pos) (fun δ K => Zk0 f g h ma mb mc md δ (kB K)) := by
  obtain ⟨_, A, sa⟩ := ha
  obtain ⟨_, B, sb⟩ := hb
  obtain ⟨_, D, sc⟩ := hc
  obtain ⟨_, F, sd⟩ := hd
  exact ⟨_, Znm ho ho' ho'' A B D F hm, Zy4 (Zwv sa sb sc sd)⟩
noncomputable def intOf (d : PyData) : Option Int := match d with | .int i => some i | _ => none
theorem Zd3 {d : PyData} {i : Int} (h : intOf d = some i) : d = .int i := by
  unfold intOf at h
  split at h
  · cases h; rfl
  · cases h
noncomputable def Zho (f g h : Int → Int → Bool) (a b c d : FE) : FE := fun δ => (a δ).bind fun x => (b x.2).bind fun y => (intOf x.1.data).bind fun i => (intOf y.1.data).bind fun j =>
  if f i j = true then (c y.2).bind fun z => (intOf z.1.data).bind fun k => if g j k = true then (d z.2).bind fun w => (intOf w.1.data).bind fun l => some (.fz (.bool (h k l)), w.2) else some (.fz (.bool false), z.2) else some (.fz (.bool false), y.2)
theorem Zj1 {ee : Expr} (hh : MT X io p ee (fun δ K => Zk0 f g h (o2 fa) (o2 fb) (o2 fc) (o2 fd) δ (kB K))) : MT X io p ee (o2 (tV (Zho f g h fa fb fc fd))) := hh.weak fun δ K z => by
  obtain ⟨r, δ', h, k⟩ := Z4s z
  obtain ⟨⟨x, δ1⟩, h1, h⟩ := bs h
  obtain ⟨⟨y, δ2⟩, h2, h⟩ := bs h
  obtain ⟨i, hi, h⟩ := bs h
  obtain ⟨j, hj, h⟩ := bs h
  refine ⟨x, δ1, h1, y, δ2, h2, ?_⟩
  dsimp only at h hi hj ⊢
  rw [Zd3 hi, Zd3 hj]
  show (if f i j = true then _ else _)
  by_cases hf : f i j = true
  · rw [if_pos hf] at h ⊢
    obtain ⟨⟨z, δ3⟩, h3, h⟩ := bs h
    obtain ⟨l, hl, h⟩ := bs h
    refine ⟨z, δ3, h3, ?_⟩
    dsimp only at h hl ⊢
    rw [Zd3 hl]
    show (if g j l = true then _ else _)
    by_cases hg : g j l = true
    · rw [if_pos hg] at h ⊢
      obtain ⟨⟨w, δ4⟩, h4, h⟩ := bs h
      obtain ⟨n, hn, h⟩ := bs h
      cases h
      refine ⟨w, δ4, h4, ?_⟩
      dsimp only at hn ⊢
      rw [Zd3 hn]
      exact k
    · rw [if_neg hg] at h ⊢
      cases h
      exact k
  · rw [if_neg hf] at h ⊢
    cases h
    exact k
end
end L2
namespace L2
open PySem PySem.Spec PyProof.Rows
variable {G : PySem.W.Frag}
section
variable {X : Cx} {io : List Nat} {p c : Bool} {a b e : Expr} {mr : MAt} {ra : FA} {i : Nat}
noncomputable def isFn (y : Str) (d : PyData) : Bool := match d with | .dict [(.str x, .bool true)] => decide (x = y) | _ => false
end
section
variable {X : Cx} {io : List Nat} {p c : Bool} {a : Expr} {mr : MAt} {ra : FA}
end
end L2
namespace L2
open PySem PySem.Spec PyProof.Rows
variable {G : PySem.W.Frag}
section
variable {P : Program} {w : World}
end
section
variable {X : Cx} {io : List Nat} {p c : Bool} {a b : Expr} {mr : MAt} {ra : FA}
end
end L2
namespace L2
open PySem PySem.Spec PyProof.Rows PySem.W
noncomputable def kGood {α : Type} (n : Nat) (P : α → Prop) : KasT α → Prop
  | .ret a => P a
  | .ask i j k => i < n ∧ j < n ∧ ∀ b, kGood n P (k b)
theorem kGood.bind {α β : Type} {n : Nat} {P : α → Prop} {R : β → Prop} {f : α → KasT β} (hf : ∀ a, P a → kGood n R (f a)) {t : KasT α} (h : kGood n P t) : kGood n R (t.bind f) := by
  induction t with
  | ret a => exact hf a h
  | ask i j k ih => exact ⟨h.1, h.2.1, fun b => ih b (h.2.2 b)⟩
end L2
namespace L2
open PySem PySem.Spec PyProof.Rows PySem.W PySem.SeqAt
open AutoSeq1 (wpAny_loadPart')
open MeetsSeq MeetsSeq2 MeetsSeq3 SeqRoads2
section
variable {prog : Program} {w : World} {A : Around} {E : Value → Shared → Prop} {s : Shared}
end
section
variable {prog : Program} {w : World} {A : Around} {E : Value → Shared → Prop} {s : Shared}
end
end L2
namespace L2
open PySem PySem.Spec PyProof.Rows PySem.W
section
variable {prog : Program} {w : World} {A : Around} {E : Value → Shared → Prop} {s : Shared}
end
end L2
namespace L2
open PySem PySem.Spec PyProof.Rows PySem.W
variable {G : PySem.W.Frag}
structure Z8d {α : Type} (kd : PyData → Option α) (lt : α → α → Bool) : Prop where
  lay : ∀ d k, kd d = some k → d.canLay0 = true
  run : ∃ κ : SortKind, (∀ (prog : Program) (w : World) (A : Around) (E : Value → Shared → Prop) (s : Shared) (vs : List Value) (ds : List PyData) (as : List Addr) (Q : SortKind → Shared → Prop), 2 ≤ vs.length → ReadsAll s.heap vs ds as → (∀ d ∈ ds, ∃ k, kd d = some k) → Q κ s → wpAny (model prog w) A (keyKind' vs.toArray) Q E s) ∧
    ∀ (prog : Program) (w : World) (A : Around) (E : Value → Shared → Prop) (s : Shared) (u v : Value) (d e : PyData) (as bs : List Addr) (k m : α) (C : Bool → Shared → Prop), A.units + 32 < cLine → Reads s.heap u d as → Reads s.heap v e bs → kd d = some k → kd e = some m → C (lt k m) s → wpAny (model prog w) A (keyLt' κ u v) C E s
theorem Znk (ns : List Int) : Sh 1 (.tuple (ns.map PyData.int)) := Zx5 fun d m => by
  obtain ⟨x, _, rfl⟩ := List.mem_map.mp m
  exact Zt0 x
end L2
namespace L2
open PySem PySem.Spec PyProof.Rows PySem.W
variable {G : PySem.W.Frag}
noncomputable def lk {α : Type} (kd : PyData → Option α) (lt : α → α → Bool) (es : List PyData) : Nat → Nat → Bool := fun i j => ((kd (es.getD i .none)).bind fun a => (kd (es.getD j .none)).map fun b => lt a b).getD false
section
variable {X : Cx} {α : Type} {kd : PyData → Option α} {lt : α → α → Bool}
end
end L2
namespace L2
open PySem PySem.Spec PyProof.Rows
variable {G : PySem.W.Frag}
end L2
namespace L2
open PySem PySem.Spec PyProof.Rows
section
variable {X : Cx} {tg : Expr} {io : List Nat} {p c : Bool} {a b d e : Expr} {mr : MAt} {ra : FA}
end
end L2
namespace L2
open PySem PySem.Spec PyProof.Rows
section
variable {prog : Program} {w : World} {A : Around} {R : Result → Shared → Prop} {I : Addr} {fp wr : List Addr} {n : Nat} {P : Nat → Value → Prop} {St : Nat → Heap → Prop}
end
section
variable {prog : Program} {w : World} {A : Around} {E : Value → Shared → Prop} {s : Shared}
end
section
variable {X : Cx} {p c : Bool} {io : List Nat} {e kw : Expr} {pp pos kp : Pos} {t : TA} {mr : MAt}
end
end L2
namespace L2
open PySem PySem.Spec PyProof.Rows
noncomputable def tbl (P : List Nat) (led : Bool) : SetTable := { mask := 7, place := P.toArray, dummies := #[], finger := 0, led, moves := 0, plain := true }
noncomputable def hT (k : List Int) : Int := reduceHash (Builtin.Tuple.tupleHashOf (k.map hashInt))
noncomputable def hAt (ks : List (List Int)) (i : Nat) : Int := (ks[i]?.map hT).getD 0
noncomputable def Z34 (P : List Nat) (j : Nat) : List Nat := ((tbl P false).put j).1.place.toList
noncomputable def Z6l (P : List Nat) (j : Nat) : Nat := ((tbl P false).put j).2
noncomputable def Z7d (ks : List (List Int)) (p : Nat) (k : List Int) : List (List Int) := ks.take p ++ k :: ks.drop p
noncomputable def Z7l (P : List Nat) (ks : List (List Int)) (k : List Int) : Option (List Nat × List (List Int)) :=
  match (tbl P false).probe (hAt ks) (hT k) ((tbl P false).probeStart (hT k)) with
  | some (.empty j none) => if (tbl (Z34 P j) false).tooFull = false ∧ (Z34 P j).length = ks.length + 1 ∧ ks.length ≤ 6 ∧ Z6l P j ≤ ks.length then some (Z34 P j, Z7d ks (Z6l P j) k) else none
  | some (.candidate _ i _) => if ks[i]? = some k then some (P, ks) else none
  | _ => none
noncomputable def grow (K : List (List Int)) : Nat → List (List Nat × List (List Int)) → List (List Nat × List (List Int))
  | 0, S => S
  | n + 1, S => grow K n (S ++ (S.flatMap fun s => K.filterMap fun k => Z7l s.1 s.2 k).filter fun s => !S.contains s)
noncomputable def K2 : List (List Int) := [[0, 0], [0, 1], [1, 0], [1, 1]]
noncomputable def S2 : List (List Nat × List (List Int)) := (grow K2 4 [([], [])]).eraseDups
section
variable {prog : Program} {w : World} {A : Around} {E : Value → Shared → Prop} {s : Shared}
inductive KeysIn (U : Addr → List Int → Prop) : List (List Int) → List (Int × Value) → Prop
  | nil : KeysIn U [] []
  | cons {k : List Int} {a : Addr} {ks : List (List Int)} {l : List (Int × Value)} (h : U a k) (t : KeysIn U ks l) : KeysIn U (k :: ks) ((hT k, .ref a) :: l)
noncomputable abbrev IK (prog : Program) (w : World) (h : Heap) (k : List Int) (a : Addr) : Prop := IsTupleKey (intKind prog w) h k a
theorem items_int {ks : List Int} {vs : List Value} (h : ItemsAre (intKind prog w) ks vs) : ∀ v ∈ vs, ∃ i t, v = .int i t := by
  induction h with
  | nil => exact fun _ m => nomatch m
  | cons h _ ih =>
    intro v hv
    rcases List.mem_cons.mp hv with rfl | hv
    · obtain ⟨t, e⟩ := Value.isInt_shape h
      exact ⟨_, t, e⟩
    · exact ih v hv
end
section
variable {prog : Program} {w : World} {A : Around} {R : Result → Shared → Prop} {I : Addr} {fp wr : List Addr} {n : Nat} {Pv : Nat → Value → Prop} {St : Nat → Heap → Prop}
end
end L2
namespace L2
open PySem PySem.Spec PyProof.Rows
section
variable {prog : Program} {w : World} {A : Around} {E : Value → Shared → Prop} {s : Shared}
end
end L2
namespace L2
open PySem PySem.Spec PyProof.Rows
inductive Z4n (H : Hp) : List V → List (List Int) → Prop
  | nil : Z4n H [] []
  | cons {a : Addr} {k : List Int} {xs : List V} {ks : List (List Int)} (h : H a = some (.tup (k.map V.int))) (t : Z4n H xs ks) : Z4n H (.ref a :: xs) (k :: ks)
section
variable {X : Cx} {p c : Bool} {io : List Nat} {a e : Expr} {pos pos' pl pr : Pos} {t : TA} {mr : MAt} {ra : FA}
end
end L2
namespace L2
open PySem PySem.Spec PyProof.Rows
section
variable {G : PySem.W.Frag} {io : List Nat} {p pt pe : Bool} {own : List Str} {caps : List Nat} {g : MGt} {mt : MTt} {me : MEt} {i : Nat}
end
section
variable {X : Cx} {io : List Nat} {p pt pe : Bool} {own : List Str} {caps : List Nat} {N' : List Str} {sc : Scope} {i : Nat} {x : Str} {px : Pos} {tg elt : Expr} {ifs : List Expr} {g : MGt} {mt : MTt} {me : MEt} {pos : Pos}
end
end L2
namespace L2
open PySem PySem.Spec PyProof.Rows
section
variable {X : Cx} {G : PySem.W.Frag}
end
end L2
namespace L2
open PySem PySem.Spec PyProof.Rows
noncomputable abbrev Z7t (h : Heap) (T : Addr) (a b c : Value) : Prop := h.get? T = some { cls := .type "tuple", data := .seq #[a, b, c] }
structure Z3A (z TI TO i1 i2 i3 : Addr) (f1 f2 f3 : List Addr) : Prop where
  TIz : TI ≠ z
  TOz : TO ≠ z
  a1 : ∀ c ∈ f1, c ≠ z ∧ c ≠ TO ∧ c ≠ i2 ∧ c ≠ i3
  a2 : ∀ c ∈ f2, c ≠ z ∧ c ≠ TO ∧ c ≠ i1 ∧ c ≠ i3
  a3 : ∀ c ∈ f3, c ≠ z ∧ c ≠ TO ∧ c ≠ i1 ∧ c ≠ i2
section
variable {P : Program} {w : World} {A : Around} {E : Value → Shared → Prop} {s : Shared}
end
noncomputable abbrev z3A (h : Heap) (a : Addr) : Heap := h.push { cls := .type "list_iterator", data := .fields #[.ref a, .int 0 0] }
noncomputable abbrev z3B (h : Heap) (a b : Addr) : Heap := z3A (z3A h a) b
noncomputable abbrev z3C (h : Heap) (a b c : Addr) : Heap := z3A (z3B h a b) c
noncomputable abbrev z3D (h : Heap) (a b c : Addr) : Heap := (z3C h a b c).push { cls := .type "tuple", data := .seq #[.ref h.objs.size, .ref (z3A h a).objs.size, .ref (z3B h a b).objs.size] }
noncomputable abbrev z3E (h : Heap) (a b c : Addr) : Heap := (z3D h a b c).push { cls := .type "tuple", data := .seq #[.none, .none, .none] }
noncomputable abbrev z3F (h : Heap) (a b c : Addr) : Heap := (z3E h a b c).push { cls := .type "zip", data := .fields #[.none, .bool false, .bool false, .ref (z3C h a b c).objs.size, .ref (z3D h a b c).objs.size] }
section
variable {P : Program} {w : World} {A : Around} {E : Value → Shared → Prop} {s : Shared}
end
section
variable {X : Cx} {io : List Nat} {p c : Bool} {a b e : Expr} {mr : MAt} {ra : FA}
end
end L2
namespace L2
open PySem PySem.Spec PyProof.Rows
variable {G : PySem.W.Frag}
end L2
namespace L2
open PySem PySem.Spec PyProof.Rows
variable {G : PySem.W.Frag}
section
variable {X : Cx} {io : List Nat} {p c : Bool} {e : Expr} {m : MEt} {pos apos cpos px : Pos} {i : Nat} {x : Str} {st : Stmt} {fa : FE}
noncomputable def Zhz (i : Nat) (m : MEt) : MSt := fun D δ => match δ[i]? with
  | some (some (.nd _)) => m δ fun r δ1 => match r, δ1[i]? with
    | .nd rs, some (some (.nd ts)) => ts.length + rs.length ≤ sizeLine ∧ D.nx (δ1.set i (some (.nd (ts ++ (OT.datas rs).map OT.fz))))
    | _, _ => False
  | _ => False
theorem Owns.app {H : Hp} {L : Addr → Prop} {ds : List PyData} : ∀ {zs xs : List V} {ts : List OT} {bs : List Addr}, Owns G H L xs ts bs → Das G H L zs ds → Owns G H L (xs ++ zs) (ts ++ ds.map OT.fz) bs := by
  induction ds with
  | nil =>
    intro zs xs ts bs h g
    cases g
    rw [List.append_nil, List.map_nil, List.append_nil]; exact h
  | cons d ds ih =>
    intro zs xs ts bs h g
    cases g with
    | cons q g =>
      have := ih (h.snoc (.fz q)) g
      rw [List.append_nil, List.append_assoc, List.append_assoc] at this
      exact this
theorem Zpx (i : Nat) (he : ME X io p true e m) (hN : X.N[i]? = some x := by rfl) (hv : Vis X.env.scope x := by first | exact Or.inl rfl | exact Or.inr (Or.inl rfl) | exact Or.inr (Or.inr rfl)) (hd : (x == ("__debug__" : Str)) = false := by decide)
    (hcd : (x == ("__classdict__" : Str)) = false := by decide)
    (hbase : attributeBase (.Name x px) "extend" X.env (eval (.Name x px) X.env) = eval (.Name x px) X.env := by rfl)
    (hfew : ((backTo cpos (starEach [e] X.env)).all (fun x => !x.1) && (backToKw cpos (keywordEach [] X.env)).all (fun x => x.1.isSome)
      && decide ([e].length + ([] : List Keyword).length + (if ([] : List Keyword).isEmpty then 0 else 1) < 30)) = true := by rfl)
    (hline : (apos.endLine == cpos.line) = true := by rfl) (hs : starEach [e] X.env = (false, eval e X.env) :: starEach [] X.env := by rfl) (hplain : (backTo cpos (starEach [] X.env)).any (·.1) = false := by rfl)
    (hsw : swapsWith (.Call (.Attribute (.Name x px) "extend" apos) [e] [] cpos) none pos.line X.env = pure false := by rfl) :
    MS X io (.Expr (.Call (.Attribute (.Name x px) "extend" apos) [e] [] cpos) pos) (Zhz i m) := by
  obtain ⟨_, A, s⟩ := he
  refine ⟨_, Zk7 (Zq7 PySem.F.plainAttrs_list PySem.F.slot_list_extend PySem.F.type_list_extend Zpu (pv i hN hv hd hcd) (Zb7 A Zex hs) hbase hfew hline hs hplain) hsw, fun C H σ δ fp ex D D' R h E => ?_⟩
  unfold Zhz at h
  split at h
  case h_2 => exact h.elim
  rename_i ts0 hi0
  obtain ⟨a', xs0, bs0, hv0, hx0, _, _⟩ := R.ownNd hi0
  refine ⟨_, hv0, .inl ⟨rfl, xs0, .inl (.inl hx0)⟩, ?_⟩
  refine s C H σ δ fp ex _ _ R h fun H1 v r δ1 fp1 new r1 h1 => ?_
  split at h1
  case h_2 => exact h1.elim
  rename_i rs ts1 hi1
  have R1 := r1.base
  obtain ⟨a1, xs1, bs1, hv1, hx1, o1, hf1⟩ := R1.ownNd hi1
  rw [hv0] at hv1
  cases hv1
  obtain ⟨b, zs, rfl, hb, lz, qs⟩ : ∃ b zs, v = .ref b ∧ H1 b = some (.lst zs) ∧ zs.length = rs.length ∧ Das X.K H1 (Lf C fp1 ex) zs (OT.datas rs) := by
    have ow := r1.own
    have nw : ∀ a ∈ new, Lf C fp1 ex a := fun a m => by
      refine ⟨fun qz => ?_, (R.newOk (r1.fresh a m)).2.1, .inr (R.newOk (r1.fresh a m)).2.2⟩
      obtain ⟨i, z⟩ := qz
      exact r1.rel.dx i a z (.inr m)
    cases ow with
    | nd hb r => exact ⟨_, _, rfl, hb, r.length, r.das (fun a l _ => ⟨(l rfl).1, fun z => (l rfl).2.1 (.inl z), (l rfl).2.2⟩) fun a m => nw a (.tail _ m)⟩
  refine ⟨a', b, xs1, zs, rfl, rfl, hx1, hb, by rw [o1.length, lz]; exact h1.1, ?_⟩
  obtain ⟨R2, S2⟩ := R1.top hi1 hv0 hf1 hx1 (o1.app qs) (List.Sublist.refl _)
  exact E.nx _ σ _ _ R2 (r1.stp.kp.trans S2.kp) h1.2
noncomputable def Zf9 (i : Nat) (e : FE) : FS := fun δ => match δ[i]? with
  | some (some (.nd _)) => wE e (fun r δ1 => match r, δ1[i]? with
    | .nd rs, some (some (.nd ts)) => if ts.length + rs.length ≤ sizeLine then .nx (δ1.set i (some (.nd (ts ++ (OT.datas rs).map OT.fz)))) else .bad
    | _, _ => .bad) δ
  | _ => .bad
theorem Zn0 (h : MS X io st (Zhz i (o2 fa))) : MS X io st (oS (Zf9 i fa)) := h.weak fun D δ h => by
  unfold oS Zf9 at h; unfold Zhz
  split at h
  case h_2 => exact h.elim
  rename_i q; (try rw [q])
  refine (Zli h).imp fun r δ' z => ?_
  split at z
  · rename_i q2; (try rw [q2]); exact Zhs z
  · exact z.elim
end
end L2
namespace L2
open PySem PySem.Spec PyProof.Rows
noncomputable def Up (xs : List Nat) : Prop := xs.Pairwise (· < ·)
structure Tb (b : Bool) (t : SetTable) : Prop where
  led : t.led = b
  up : t.plain = true → Up t.place.toList
end L2
namespace L2
open PySem PySem.Spec PyProof.Rows
section
variable {prog : Program} {w : World} {A : Around} {E : Value → Shared → Prop} {s : Shared} {b : Bool}
end
end L2
namespace L2
open PySem PySem.Spec PyProof.Rows
section
variable {prog : Program} {w : World} {A : Around} {R : Result → Shared → Prop} {I : Addr} {fp wr : List Addr} {n : Nat} {Pv : Nat → Value → Prop} {St : Nat → Heap → Prop} {b : Bool}
end
section
variable {prog : Program} {w : World} {A : Around} {E : Value → Shared → Prop} {s : Shared}
end
end L2
namespace L2
open PySem PySem.Spec PyProof.Rows
section
variable {prog : Program} {w : World} {A : Around} {E : Value → Shared → Prop} {s : Shared}
end
end L2
namespace L2
open PySem PySem.Spec PyProof.Rows
section
variable {prog : Program} {w : World} {A : Around} {E : Value → Shared → Prop} {s : Shared}
end
end L2
namespace L2
open PySem PySem.Spec PyProof.Rows
section
variable {prog : Program} {w : World} {A : Around} {E : Value → Shared → Prop} {s : Shared}
end
end L2
namespace L2
open PySem PySem.Spec PyProof.Rows
section
variable {prog : Program} {w : World} {A : Around} {E : Value → Shared → Prop} {s : Shared}
end
end L2
namespace L2
open PySem PySem.Spec PyProof.Rows
section
variable {prog : Program} {w : World} {A : Around} {E : Value → Shared → Prop} {s : Shared}
end
end L2
namespace L2
open PySem PySem.Spec PyProof.Rows
section
variable {prog : Program} {w : World} {A : Around} {E : Value → Shared → Prop} {s : Shared}
end
end L2
namespace L2
open PySem PySem.Spec PyProof.Rows
section
variable {prog : Program} {w : World} {A : Around} {E : Value → Shared → Prop} {s : Shared}
end
end L2
namespace L2
open PySem PySem.Spec PyProof.Rows
section
variable {X : Cx} {p c : Bool} {io : List Nat} {a e : Expr} {pos pos' pl pr : Pos} {t : TA} {mr : MAt} {ra : FA}
end
end L2
namespace L2
open PySem PySem.Spec PyProof.Rows
section
variable {X : Cx} {io : List Nat} {st : Stmt} {ra : FA}
end
end L2
namespace L2
open PySem PySem.Spec PyProof.Rows
section
variable {κ : Type} [DecidableEq κ]
noncomputable def Zm0 (kvs : List (κ × V)) (k : κ) : Option V := (kvs.find? fun kv => decide (kv.1 = k)).map (·.2)
noncomputable def putK (kvs : List (κ × V)) (k : κ) (v : V) : List (κ × V) :=
  if (kvs.any fun kv => decide (kv.1 = k)) = true then kvs.map (fun kv => if kv.1 = k then (kv.1, v) else kv) else kvs ++ [(k, v)]
theorem Zfl {p : κ × V} {r : List (κ × V)} {k : κ} (e : p.1 = k) : Zm0 (p :: r) k = some p.2 := by simp [Zm0, List.find?_cons, e]
theorem Zfh {p : κ × V} {r : List (κ × V)} {k : κ} (e : ¬ p.1 = k) : Zm0 (p :: r) k = Zm0 r k := by simp [Zm0, List.find?_cons, e]
theorem Zlg (k : κ) : ∀ kvs : List (κ × V), (kvs.any fun kv => decide (kv.1 = k)) = (Zm0 kvs k).isSome
  | [] => rfl
  | p :: r => by
    rw [List.any_cons]
    by_cases e : p.1 = k
    · simp only [Zfl e, decide_eq_true e, Bool.true_or, Option.isSome_some]
    · rw [Zfh e, decide_eq_false e, Bool.false_or]; exact Zlg k r
theorem Zf7 (kvs : List (κ × V)) (k : κ) (v : V) : (putK kvs k v).length ≤ kvs.length + 1 := by
  unfold putK
  split
  · rw [List.length_map]; omega
  · rw [List.length_append, List.length_cons, List.length_nil]; omega
theorem RelO.isSome_eq {o : Option V} {u : Option Value} (r : RelO o u) : o.isSome = u.isSome := by
  cases o with
  | none => cases u with
    | none => rfl
    | some _ => exact (show False from r).elim
  | some _ => cases u with
    | none => exact (show False from r).elim
    | some _ => rfl
theorem KV.val {kvs : List (κ × V)} {vs : List (κ × Value)} (r : KV kvs vs) (k : κ) : RelO (Zm0 kvs k) (valueAt vs k) := by
  unfold KV at r
  induction r with
  | nil => exact True.intro
  | @cons p q ps qs h t ih =>
    obtain ⟨h1, h2⟩ := h
    by_cases e : p.1 = k
    · have e' : q.1 = k := h1.symm.trans e
      have b : valueAt (q :: qs) k = some q.2 := by simp [valueAt, List.find?_cons, e']
      rw [Zfl e, b]; exact h2
    · have e' : ¬ q.1 = k := fun z => e (h1.trans z)
      have b : valueAt (q :: qs) k = valueAt qs k := by simp [valueAt, List.find?_cons, e']
      rw [Zfh e, b]; exact ih
theorem KV.any {kvs : List (κ × V)} {vs : List (κ × Value)} (r : KV kvs vs) (k : κ) : (kvs.any fun kv => decide (kv.1 = k)) = vs.any fun kv => decide (kv.1 = k) := by
  unfold KV at r
  induction r with
  | nil => rfl
  | cons h t ih => rw [List.any_cons, List.any_cons, ih, h.1]
theorem KV.repl {kvs : List (κ × V)} {vs : List (κ × Value)} (r : KV kvs vs) (k : κ) {y : V} {u : Value} (ry : RelV y u) :
    KV (kvs.map fun kv => if kv.1 = k then (kv.1, y) else kv) (vs.map fun kv => if kv.1 = k then (kv.1, u) else kv) := by
  unfold KV at r ⊢
  induction r with
  | nil => exact .nil
  | @cons p q ps qs h t ih =>
    rw [List.map_cons, List.map_cons]
    refine .cons ?_ ih
    obtain ⟨h1, h2⟩ := h
    by_cases e : p.1 = k
    · rw [if_pos e, if_pos (h1.symm.trans e)]; exact ⟨h1, ry⟩
    · rw [if_neg e, if_neg (fun z => e (h1.trans z))]; exact ⟨h1, h2⟩
theorem KV.put {kvs : List (κ × V)} {vs : List (κ × Value)} (r : KV kvs vs) (k : κ) {y : V} {u : Value} (ry : RelV y u) : KV (putK kvs k y) (stored vs k u) := by
  unfold putK stored
  rw [r.any k]
  by_cases e : (vs.any fun kv => decide (kv.1 = k)) = true
  · rw [if_pos e, if_pos e]; exact r.repl k ry
  · rw [if_neg e, if_neg e]; exact Paired.snoc r ⟨rfl, ry⟩
theorem KV.length {kvs : List (κ × V)} {vs : List (κ × Value)} (r : KV kvs vs) : kvs.length = vs.length := Paired.length r
end
theorem Zvo {P : Program} {w : World} {k : Key} {u : Value} (r : RelV (kV k) u) : (Y9 P w).is k u = true := by
  cases k with
  | inl i => obtain ⟨t, e⟩ := (show ∃ t, u = Value.int i t from r); subst e; exact Zkt P w i t
  | inr x => obtain ⟨t, e⟩ := (show ∃ t, u = Value.str x t from r); subst e; exact Zkq P w x t
theorem Zj4 {P : Program} {w : World} : ∀ {ks : List Key} {us : List Value}, Vals (ks.map kV) us → ItemsAre (Y9 P w) ks us
  | [], _, r => by rw [List.map_nil] at r; cases r; exact .nil
  | k :: ks, _, r => by
    rw [List.map_cons] at r
    cases r with
    | cons h t => exact .cons (Zvo h) (Zj4 t)
noncomputable abbrev KT (H : Hp) : List (List Key × V) → List (List Key × Addr × Value) → Prop := Paired fun p q => p.1 = q.1 ∧ H q.2.1 = some (.tup (p.1.map kV)) ∧ RelV p.2 q.2.2
theorem KT.val {H : Hp} {kvs : List (List Key × V)} {xs : List (List Key × Addr × Value)} (r : KT H kvs xs) (k : List Key) : RelO (Zm0 kvs k) ((atKey xs k).map (·.2)) := by
  induction r with
  | nil => exact True.intro
  | @cons p q ps qs h t ih =>
    obtain ⟨h1, _, h2⟩ := h
    by_cases e : p.1 = k
    · have e' : q.1 = k := h1.symm.trans e
      have b : atKey (q :: qs) k = some q.2 := by simp [atKey, List.find?_cons, e']
      rw [Zfl e, b]; exact h2
    · have e' : ¬ q.1 = k := fun z => e (h1.trans z)
      have b : atKey (q :: qs) k = atKey qs k := by simp [atKey, List.find?_cons, e']
      rw [Zfh e, b]; exact ih
theorem KT.repl {H : Hp} {kvs : List (List Key × V)} {xs : List (List Key × Addr × Value)} (r : KT H kvs xs) (k : List Key) {y : V} {u : Value} (ry : RelV y u) :
    KT H (kvs.map fun kv => if kv.1 = k then (kv.1, y) else kv) (xs.map (putAt k u)) := by
  induction r with
  | nil => exact .nil
  | @cons p q ps qs h t ih =>
    rw [List.map_cons, List.map_cons]
    refine .cons ?_ ih
    obtain ⟨h1, h2, h3⟩ := h
    unfold putAt
    by_cases e : p.1 = k
    · rw [if_pos e, if_pos (h1.symm.trans e)]; exact ⟨h1, h2, ry⟩
    · rw [if_neg e, if_neg (fun z => e (h1.trans z))]; exact ⟨h1, h2, h3⟩
theorem KT.put {H : Hp} {kvs : List (List Key × V)} {xs : List (List Key × Addr × Value)} (r : KT H kvs xs) (k : List Key) {b : Addr} {y : V} {u : Value} (hb : H b = some (.tup (k.map kV))) (ry : RelV y u) :
    KT H (putK kvs k y) (storedH xs k b u) := by
  have e : (kvs.any fun kv => decide (kv.1 = k)) = (atKey xs k).isSome := by
    rw [Zlg, (r.val k).isSome_eq, Option.isSome_map]
  unfold putK storedH
  rw [e]
  by_cases q : (atKey xs k).isSome = true
  · rw [if_pos q, if_pos q]; exact r.repl k ry
  · rw [if_neg q, if_neg q]; exact Paired.snoc r ⟨rfl, hb, ry⟩
theorem KT.keeps {H H' : Hp} {kvs : List (List Key × V)} {xs : List (List Key × Addr × Value)} (r : KT H kvs xs) (ht : ∀ b ys, H b = some (.tup ys) → H' b = some (.tup ys)) : KT H' kvs xs :=
  Paired.mapP r fun _ _ z => ⟨z.1, ht _ _ z.2.1, z.2.2⟩
section
variable {P : Program} {w : World} {H : Hp} {h : Heap} {a : Addr}
theorem Z0s {u : HO} (ok : HOk P w H h) (e : Rd H a u) : ObjOk P w H h a u := e.ok ok
theorem Zvd {kvs : List (Key × V)} (ok : HOk P w H h) (e : Rd H a (.dK kvs)) : kvs.length ≤ sizeLine ∧ (a == sysModules) = false ∧ ∃ vs, KV kvs vs ∧ h.DictOf (Y9 P w) a vs :=
  show ObjOk P w H h a (.dK kvs) from Z0s ok e
theorem Z2v {kvs : List (Key × V)} (ok : HOk P w H h) (e : H a = some (.dK kvs)) : kvs.length ≤ sizeLine ∧ (a == sysModules) = false ∧ ∃ vs, KV kvs vs ∧ h.DictOf (Y9 P w) a vs := Zvd ok (.inl e)
theorem Zof {ks : List Key} (ok : HOk P w H h) (e : H a = some (.tup (ks.map kV))) : (tupleKind (Y9 P w)).is h ks a := by
  obtain ⟨_, its, r, o, h1, h2, n, h3⟩ := (show ObjOk P w H h a (.tup (ks.map kV)) from ok a _ e)
  exact ⟨o, its.toArray, n, h1, h2, h3, by simpa using Zj4 r⟩
theorem Zpz {kvs : List (List Key × V)} (ok : HOk P w H h) (e : Rd H a (.dT kvs)) : kvs.length ≤ sizeLine ∧ (a == sysModules) = false ∧
    ∃ xs, KT H kvs xs ∧ h.DictOfH (tupleKind (Y9 P w)) a xs := by
  obtain ⟨z, y, xs, r, o, es, ep, h1, h2, h3, h4, h5⟩ := (show ObjOk P w H h a (.dT kvs) from Z0s ok e)
  refine ⟨z, y, xs, r, o, es, ep, h1, h2, h3, h4, fun x hx => ?_, h5⟩
  have all : ∀ {l : List (List Key × V)} {m : List (List Key × Addr × Value)}, KT H l m → ∀ x ∈ m, (tupleKind (Y9 P w)).is h x.1 x.2.1 := by
    intro l m q
    induction q with
    | nil => intro x hx; exact nomatch hx
    | @cons p q ps qs hq t ih =>
      intro x hx
      rcases List.mem_cons.mp hx with e | hx
      · subst e
        exact Zof ok (by rw [← hq.1]; exact hq.2.1)
      · exact ih x hx
  exact all r x hx
theorem Z4l {kvs : List (List Key × V)} (ok : HOk P w H h) (e : H a = some (.dT kvs)) : kvs.length ≤ sizeLine ∧ (a == sysModules) = false ∧
    ∃ xs, KT H kvs xs ∧ h.DictOfH (tupleKind (Y9 P w)) a xs := Zpz ok (.inl e)
end
noncomputable def DGet (H : Hp) (a : Addr) (y : V) (r : Option V) : Prop :=
  (∃ kvs k, Rd H a (.dK kvs) ∧ y = kV k ∧ r = Zm0 kvs k) ∨ ∃ kvs k b, Rd H a (.dT kvs) ∧ y = .ref b ∧ H b = some (.tup (k.map kV)) ∧ r = Zm0 kvs k
noncomputable def DPut (H : Hp) (a : Addr) (y v : V) (H' : Hp) : Prop :=
  (∃ kvs k, H a = some (.dK kvs) ∧ y = kV k ∧ kvs.length < sizeLine ∧ H' = upd H a (.dK (putK kvs k v))) ∨
  ∃ kvs k b, H a = some (.dT kvs) ∧ y = .ref b ∧ H b = some (.tup (k.map kV)) ∧ kvs.length < sizeLine ∧ H' = upd H a (.dT (putK kvs k v))
theorem DGet.k {H : Hp} {a : Addr} {kvs : List (Key × V)} {k : Key} (e : H a = some (.dK kvs)) : DGet H a (kV k) (Zm0 kvs k) := .inl ⟨kvs, k, .inl e, rfl, rfl⟩
theorem DGet.t {H : Hp} {a b : Addr} {kvs : List (List Key × V)} {k : List Key} (e : H a = some (.dT kvs)) (eb : H b = some (.tup (k.map kV))) : DGet H a (.ref b) (Zm0 kvs k) := .inr ⟨kvs, k, b, .inl e, rfl, eb, rfl⟩
theorem DPut.k {H : Hp} {a : Addr} {kvs : List (Key × V)} {k : Key} {v : V} (e : H a = some (.dK kvs)) (hl : kvs.length < sizeLine) : DPut H a (kV k) v (upd H a (.dK (putK kvs k v))) := .inl ⟨kvs, k, e, rfl, hl, rfl⟩
theorem DPut.t {H : Hp} {a b : Addr} {kvs : List (List Key × V)} {k : List Key} {v : V} (e : H a = some (.dT kvs)) (eb : H b = some (.tup (k.map kV))) (hl : kvs.length < sizeLine) :
    DPut H a (.ref b) v (upd H a (.dT (putK kvs k v))) := .inr ⟨kvs, k, b, e, rfl, eb, hl, rfl⟩
section
variable {X : Cx} {pins : List (Addr × Obj)} {σ : St} {H : Hp} {s : Shared} {a : Addr} {y v : V} {u r : Value} {o : Option V} {A : Around} {E : Value → Shared → Prop}
theorem Inv.big (I : Inv X pins σ H s) : sysModules < s.heap.objs.size := by
  have h : mainGlobals < s.heap.objs.size := (I.mod.glob.keeps I.bk).lt
  exact Nat.lt_trans (by decide) h
theorem Zp7 {Q : Value → Shared → Prop} (hu : A.units + 1 < cLine) (I : Inv X pins σ H s) (g : DGet H a y (some v)) (ry : RelV y u) (h : ∀ w' s', Inv X pins σ H s' → RelV v w' → Q w' s') :
    wpAny (model X.prog X.w) A (getItem (.ref a) u) Q E s := by
  rcases g with ⟨kvs, k, e, ey, l⟩ | ⟨kvs, k, b, e, ey, eb, l⟩
  · subst ey
    obtain ⟨z, hd, vs, rel, dd⟩ := Zvd I.hok e
    obtain ⟨w', hw, rw'⟩ := RelO.some_of (v := v) (o := valueAt vs k) (by rw [l]; exact rel.val k)
    exact wpAny_getItem_of (Zvo ry) dd.mapOf hw (h w' _ (I.tok _) rw')
  · subst ey
    cases (show u = Value.ref b from ry)
    obtain ⟨z, hd, xs, rel, dd⟩ := Zpz I.hok e
    obtain ⟨w', hw, rw'⟩ := RelO.some_of (v := v) (o := (atKey xs k).map (·.2)) (by rw [l]; exact rel.val k)
    obtain ⟨p, hp, hp2⟩ := Option.map_eq_some_iff.mp hw
    refine wpAny_getItem_heap (tupleKind_room_in1 hu) (Zof I.hok eb) dd hp ?_
    rw [hp2]
    exact h w' _ (I.tok _) rw'
theorem Zn6 {h' : Heap} {t' : Nat} {ob : HO} (I : Inv X pins σ H s) (mu : Mut (H a)) (hs : Heap.SameBut a s.heap h') (he : ∃ q, h'.get? a = some q) (new : ObjOk X.prog X.w (upd H a ob) h' a ob) :
    Inv X pins σ (upd H a ob) { s with heap := h', toks := t' } :=
  I.write (x := a) (e := a) mu (.inl rfl) (fun b q hb z => (hs.2 b hb).trans z) he new
theorem Zzb {P : Program} {w : World} {H' : Hp} {h' : Heap} {kvs : List (Key × V)} {vs : List (Key × Value)} (z : kvs.length ≤ sizeLine) (hd : (a == sysModules) = false) (rel : KV kvs vs) (dd : h'.DictOf (Y9 P w) a vs) :
    ObjOk P w H' h' a (.dK kvs) := ⟨z, hd, vs, rel, dd⟩
theorem Zpa {H' : Hp} {Q : Unit → Shared → Prop} (hu : A.units + 1 < cLine) (I : Inv X pins σ H s) (g : DPut H a y v H') (ry : RelV y u) (rv : RelV v r) (h : ∀ s', Inv X pins σ H' s' → Q () s') :
    wpAny (model X.prog X.w) A (setItem (.ref a) u r) Q E s := by
  rcases g with ⟨kvs, k, e, ey, l, eH⟩ | ⟨kvs, k, b, e, ey, eb, l, eH⟩
  · subst ey eH
    obtain ⟨z, hd, vs, rel, dd⟩ := Z2v I.hok e
    have hz : vs.length ≤ sizeLine := by rw [← rel.length]; exact z
    have hl : (putK kvs k v).length ≤ sizeLine := by have := Zf7 kvs k v; omega
    refine wpAny_setItem_pairs (hsz := hz) (Zvo ry) dd fun h' dd' hs => h _ ?_
    have he : ∃ q, h'.get? a = some q := let ⟨q, _, _, hq, _⟩ := dd'; ⟨q, hq⟩
    exact Zn6 I (by rw [e]; exact True.intro) hs he (Zzb hl hd (rel.put k rv) dd')
  · subst ey eH
    cases (show u = Value.ref b from ry)
    obtain ⟨z, hd, xs, rel, dd⟩ := Z4l I.hok e
    have hz : xs.length ≤ sizeLine := by rw [← Paired.length rel]; exact z
    have hl : (putK kvs k v).length ≤ sizeLine := by have := Zf7 kvs k v; omega
    refine wpAny_setItem_heap (hsz := hz) (tupleKind_room_in1 hu) (Zof I.hok eb) dd fun h' dd' hs => h _ ?_
    obtain ⟨q, es, ep, hq, h2, h3, h4, _, h5⟩ := dd'
    refine Zn6 I (by rw [e]; exact True.intro) hs ⟨q, hq⟩ ⟨hl, hd, _, (rel.put k eb rv).keeps fun c ys ec => ?_, q, es, ep, hq, h2, h3, h4, h5⟩
    rw [Yc (Z2o ec e (fun z => nomatch z))]
    exact ec
end
section
variable {X : Cx} {pins : List (Addr × Obj)} {σ : St} {H : Hp} {s : Shared} {a : Addr} {kvs : List (Key × V)} {k : Key} {u : Value} {A : Around} {E : Value → Shared → Prop}
end
noncomputable def Z2q (i : Expr) : Prop := ∀ ov iv, subscripted i false ov iv = operate [ov, iv] (getItem ov iv)
theorem Zu4 {prog : Program} {w : World} {A : Around} {E : Value → Shared → Prop} {s : Shared} {env : Env} {value slice : Expr} {pos : Pos} {T id : String} {Q : Value → Shared → Prop}
    (hl : typeLookup (.type T) "__getitem__" = pure (some (.builtin id))) (hs : Z2q slice)
    (h : wpAny (model prog w) A (eval value env) (fun o s₁ => wpAny (model prog w) A (eval slice env) (fun i s₂ => s₂.TypeIs o T ∧ wpAny (model prog w) A (getItem o i) Q E s₂) E s₁) E s) :
    wpAny (model prog w) A (eval (.Subscript value slice pos) env) Q E s := by
  refine Subscript_ (wpAny_mono h (fun o s₁ h₁ => wpAny_mono h₁ (fun i s₂ h₂ => ?_) fun _ _ x => x) fun _ _ x => x)
  obtain ⟨hT, h₂⟩ := h₂
  unfold subscriptTail
  refine wpAny_bind ?_
  rw [getitemInPython_of_ne hT.not_modules]
  refine wpAny_bind (wpAny_specialOf hT hl ?_)
  have fin : wpAny (model prog w) A (subscripted slice false o i) (fun r s₃ => wpAny (model prog w) A (letTemporaryGo value o r >>= fun _ => pure r) Q E s₃) E s₂ := by
    rw [hs o i]
    exact wpAny_operating (wpAny_mono h₂ (fun r s₃ h₃ => wpAny_bind (wpAny_letTemporaryGo (wpAny_pure h₃))) fun _ _ x => x)
  first
    | exact wpAny_pure (wpAny_bind fin)
    | exact wpAny_bind (wpAny_pure (wpAny_bind fin))
    | exact wpAny_bind fin
theorem Zk1 {X : Cx} {pins : List (Addr × Obj)} {σ : St} {H : Hp} {s : Shared} {a : Addr} {y : V} {o : Option V} (I : Inv X pins σ H s) (g : DGet H a y o) : s.TypeIs (.ref a) "dict" := by
  rcases g with ⟨kvs, k, e, _, _⟩ | ⟨kvs, k, b, e, _, _, _⟩
  · obtain ⟨_, _, vs, _, dd⟩ := Zvd I.hok e
    exact dd.typeIs
  · obtain ⟨_, _, xs, _, dd⟩ := Zpz I.hok e
    exact dd.typeIs
noncomputable def Z2r (td ty : TE) : TE := fun σ H Q => td σ H fun x H1 => ty σ H1 fun y H2 => ∃ a v, x = .ref a ∧ DGet H2 a y (some v) ∧ Q v H2
noncomputable def Z2i (td ty tv : TE) : TS := fun D σ H => tv σ H fun v H1 => td σ H1 fun x H2 => ty σ H2 fun y H3 => ∃ a H4, x = .ref a ∧ DPut H3 a y v H4 ∧ D.nx σ H4
section
variable {X : Cx} {o i e value : Expr} {pos pos' tpos : Pos} {td ty tv : TE}
theorem Zu0 (hu : X.A.units + 1 < cLine) (ho : PE X o td) (hi : PE X i ty) (hs : Z2q i) : PE X (.Subscript o i pos) (Z2r td ty) := by
  intro pins s σ H Q I h
  refine Zu4 PySem.F.slot_dict_getitem.lookup hs (thn (ho pins s σ H _ I h) fun u s1 ⟨x, H1, I1, rx, q1⟩ => thn (hi pins s1 σ H1 _ I1 q1) fun iv s2 ⟨y, H2, I2, ry, a, v, ex, g, q2⟩ => ?_)
  subst ex
  obtain rfl : u = Value.ref a := rx
  exact ⟨Zk1 I2 g, Zp7 hu I2 g ry fun w' s3 I3 rw' => ⟨v, H2, I3, rw', q2⟩⟩
theorem Zun (hu : X.A.units + 1 < cLine) (ho : PE X o td) (hi : PE X i ty) (hv : PE X value tv) (hs : swapsWith value (some (.Subscript o i pos')) pos.line X.env = pure false) :
    PS X (.Assign [.Subscript o i pos'] value pos) (Z2i td ty tv) := by
  intro pins s σ H D I h
  refine wpAny_Assign_Subscript (thn (hv pins s σ H _ I h) fun r s1 ⟨v, H1, I1, rv, q1⟩ => thn (ho pins s1 σ H1 _ I1 q1) fun u s2 ⟨x, H2, I2, rx, q2⟩ => thn (hi pins s2 σ H2 _ I2 q2) fun iv s3 ⟨y, H3, I3, ry, a, H4, ex, g, q3⟩ => ?_) hs
  subst ex
  obtain rfl : u = Value.ref a := rx
  exact Zpa hu I3 g ry rv fun s4 I4 => ⟨σ, H4, I4, q3⟩
end
theorem Zsi {P : Program} {w : World} {H : Hp} (h : Heap) (hb : sysModules < h.objs.size) : ObjOk P w H (h.push { cls := .type "dict", data := .dict #[] }) h.objs.size (.dT []) :=
  ⟨Nat.zero_le _, beq_eq_false_iff_ne.mpr (Ne.symm (Nat.ne_of_lt hb)), [], .nil, _, #[], 0, Heap.get?_push_size _ rfl, ⟨rfl, rfl, rfl⟩, rfl, rfl, List.nodup_nil⟩
noncomputable def Z04 : TE := fun _ H Q => ∀ p, H p = none → Q (.ref p) (upd H p (.dT []))
section
variable {X : Cx} {pos : Pos}
theorem Zss : PE X (.Dict [] [] pos) Z04 := fun pins s σ H Q I h =>
  wpAny_Dict_empty ⟨.ref s.heap.objs.size, _, I.laid (a := s.heap.objs.size) (o := .dT []) (t' := s.toks) (fun _ _ q => Heap.get?_push_of_some _ q) (Nat.le_refl _) (Zsi s.heap I.big), rfl, h _ (I.hok.fresh (Nat.le_refl _))⟩
end
noncomputable abbrev VV : List (V × V) → List (Value × Value) → Prop := Paired fun p q => RelV p.1 q.1 ∧ RelV p.2 q.2
structure M1 (X : Cx) (o : Expr) (m : Str) (apos : Pos) (e : Expr) (cpos : Pos) : Prop where
  base : attributeBase o m X.env (eval o X.env) = eval o X.env
  few : ((backTo cpos (starEach [e] X.env)).all (fun x => !x.1) && (backToKw cpos (keywordEach [] X.env)).all (fun x => x.1.isSome)
    && decide (([e] : List Expr).length + ([] : List Keyword).length + (if ([] : List Keyword).isEmpty then 0 else 1) < 30)) = true
  line : (apos.endLine == cpos.line) = true
  trees : backTo cpos (starEach [e] X.env) = [(false, eval e X.env)]
structure M2 (X : Cx) (o : Expr) (m : Str) (apos : Pos) (e f : Expr) (cpos : Pos) : Prop where
  base : attributeBase o m X.env (eval o X.env) = eval o X.env
  few : ((backTo cpos (starEach [e, f] X.env)).all (fun x => !x.1) && (backToKw cpos (keywordEach [] X.env)).all (fun x => x.1.isSome)
    && decide (([e, f] : List Expr).length + ([] : List Keyword).length + (if ([] : List Keyword).isEmpty then 0 else 1) < 30)) = true
  line : (apos.endLine == cpos.line) = true
  trees : backTo cpos (starEach [e, f] X.env) = [(false, eval e X.env), (false, eval f X.env)]
noncomputable def IsD (H : Hp) (a : Addr) : Prop := (∃ kvs, Rd H a (.dK kvs)) ∨ ∃ kvs, Rd H a (.dT kvs)
section
variable {X : Cx} {pins : List (Addr × Obj)} {σ : St} {H : Hp} {s : Shared} {a : Addr} {y d : V} {u r : Value} {o : Option V} {A : Around} {E : Value → Shared → Prop}
end
section
variable {X : Cx} {o e f : Expr} {apos cpos : Pos} {td ty tx : TE}
end
end L2
namespace L2
open PySem PySem.Spec PyProof.Rows
variable {G : PySem.W.Frag}
noncomputable def Zgg : PyData → Option Key
  | .int i => some (.inl i)
  | .str x => some (.inr x)
  | _ => none
noncomputable def Zjp : List PyData → Option (List Key)
  | [] => some []
  | d :: ds => (Zgg d).bind fun k => (Zjp ds).bind fun ks => some (k :: ks)
noncomputable def Zgc : PyData → Option KY
  | .tuple ds => (Zjp ds).map .inr
  | d => (Zgg d).map .inl
noncomputable def Zxb : KY → Bool
  | .inl _ => false
  | .inr _ => true
theorem Zva (k : Key) : Zgg (Zyk k) = some k := by cases k <;> rfl
theorem Zuk (ks : List Key) : Zjp (ks.map Zyk) = some ks := by
  induction ks with
  | nil => rfl
  | cons k ks ih => rw [List.map_cons, Zjp, Zva, ih]; rfl
theorem Zo8 (k : KY) : Zgc (kyD k) = some k := by
  cases k with
  | inl k => cases k <;> rfl
  | inr ks => show (Zjp (ks.map Zyk)).map (Sum.inr : List Key → KY) = _; rw [Zuk]; rfl
noncomputable def Zur (k : KY) : List KY → List PyData → Option PyData
  | [], _ => none
  | _ :: _, [] => none
  | j :: ks, d :: ds => if j = k then some d else Zur k ks ds
noncomputable def Zxq (k : KY) (x : PyData) : List KY → List PyData → List PyData
  | [], ds => ds
  | _ :: _, [] => []
  | j :: ks, d :: ds => (if j = k then x else d) :: Zxq k x ks ds
noncomputable def Zqu (k : KY) (ks : List KY) : Bool := ks.any fun j => decide (j = k)
noncomputable def Ziy (k : KY) (ks : List KY) : List KY := if Zqu k ks = true then ks else ks ++ [k]
noncomputable def Zjw (k : KY) (x : PyData) (ks : List KY) (ds : List PyData) : List PyData := if Zqu k ks = true then Zxq k x ks ds else ds ++ [x]
section
variable {H : Hp} {L : Addr → Prop} {κ : Type} [DecidableEq κ] {f : κ → KY}
noncomputable def Z3a (G : PySem.W.Frag) (H : Hp) (L : Addr → Prop) (a : Option V) (b : Option PyData) : Prop := (∃ v d, a = some v ∧ b = some d ∧ Da G H L v d) ∨ (a = none ∧ b = none)
theorem look (hf : ∀ a b, f a = f b → a = b) (k : κ) (kvs : List (κ × V)) : ∀ ds, Das G H L (kvs.map (·.2)) ds → Z3a G H L (Zm0 kvs k) (Zur (f k) (kvs.map fun p => f p.1) ds) := by
  induction kvs with
  | nil => exact fun ds _ => .inr ⟨rfl, rfl⟩
  | cons p kvs ih =>
    intro ds h
    cases h with
    | cons h r =>
      rename_i d ds
      show Z3a G H L _ (if f p.1 = f k then some d else Zur (f k) (kvs.map fun p => f p.1) ds)
      by_cases e : p.1 = k
      · rw [Zfl e, if_pos (congrArg f e)]
        exact .inl ⟨_, _, rfl, rfl, h⟩
      · rw [Zfh e, if_neg fun z => e (hf _ _ z)]
        exact ih _ r
theorem Z40 (hf : ∀ a b, f a = f b → a = b) (k : κ) (kvs : List (κ × V)) : (kvs.any fun kv => decide (kv.1 = k)) = Zqu (f k) (kvs.map fun p => f p.1) := by
  unfold Zqu
  rw [List.any_map]
  refine congrArg (List.any kvs) (funext fun p => ?_)
  exact decide_eq_decide.mpr ⟨congrArg f, hf _ _⟩
theorem Z7z (k : κ) (v : V) (kvs : List (κ × V)) : (kvs.map (fun kv => if kv.1 = k then (kv.1, v) else kv)).map (fun p => f p.1) = kvs.map fun p => f p.1 := by
  rw [List.map_map]
  refine List.map_congr_left fun p _ => ?_
  show f (if p.1 = k then (p.1, v) else p).1 = f p.1
  by_cases c : p.1 = k
  · rw [if_pos c]
  · rw [if_neg c]
theorem Z75 (hf : ∀ a b, f a = f b → a = b) (k : κ) {v : V} {x : PyData} (hv : Da G H L v x) (kvs : List (κ × V)) : ∀ ds, Das G H L (kvs.map (·.2)) ds → Das G H L ((kvs.map (fun kv => if kv.1 = k then (kv.1, v) else kv)).map (·.2)) (Zxq (f k) x (kvs.map fun p => f p.1) ds) := by
  induction kvs with
  | nil => intro ds h; cases h; exact .nil
  | cons p kvs ih =>
    intro ds h
    cases h with
    | cons h r =>
      rename_i d ds
      refine .cons ?_ (ih _ r)
      show Da G H L (if p.1 = k then (p.1, v) else p).2 (if f p.1 = f k then x else d)
      by_cases e : p.1 = k
      · rw [if_pos e, if_pos (congrArg f e)]; exact hv
      · rw [if_neg e, if_neg fun z => e (hf _ _ z)]; exact h
theorem Zlz (hf : ∀ a b, f a = f b → a = b) (k : κ) (v : V) (kvs : List (κ × V)) : (putK kvs k v).map (fun p => f p.1) = Ziy (f k) (kvs.map fun p => f p.1) := by
  unfold putK Ziy
  rw [Z40 hf]
  cases c : Zqu (f k) (kvs.map fun p => f p.1) with
  | true => rw [if_pos rfl, if_pos rfl, Z7z]
  | false => rw [if_neg Bool.false_ne_true, if_neg Bool.false_ne_true, List.map_append]; rfl
theorem Zlx (hf : ∀ a b, f a = f b → a = b) (k : κ) {v : V} {x : PyData} (hv : Da G H L v x) (kvs : List (κ × V)) {ds : List PyData} (h : Das G H L (kvs.map (·.2)) ds) : Das G H L ((putK kvs k v).map (·.2)) (Zjw (f k) x (kvs.map fun p => f p.1) ds) := by
  unfold putK Zjw
  rw [Z40 hf]
  cases c : Zqu (f k) (kvs.map fun p => f p.1) with
  | true => rw [if_pos rfl, if_pos rfl]; exact Z75 hf k hv kvs _ h
  | false => rw [if_neg Bool.false_ne_true, if_neg Bool.false_ne_true, List.map_append]; exact h.snoc hv
end
theorem Zko : ∀ a b : Key, (Sum.inl a : KY) = Sum.inl b → a = b := fun _ _ h => Sum.inl.inj h
theorem Zkb : ∀ a b : List Key, (Sum.inr a : KY) = Sum.inr b → a = b := fun _ _ h => Sum.inr.inj h
section
variable {H : Hp} {L : Addr → Prop} {y : V} {e : PyData}
theorem Da.key1 {k : Key} (h : Da G H L y e) (hk : Zgg e = some k) : y = kV k := by
  cases h with
  | int i => cases hk; rfl
  | str x => cases hk; rfl
  | exc _ _ _ => unfold exD Zgg at hk; cases hk
  | fn _ => unfold fnD Zgg at hk; cases hk
  | dic _ _ _ _ => unfold dcD Zgg at hk; cases hk
  | _ => cases hk
theorem Das.keys {xs : List V} {ds : List PyData} (h : Das G H L xs ds) : ∀ ks, Zjp ds = some ks → xs = ks.map kV :=
  Das.ind (Q := fun xs ds => ∀ ks, Zjp ds = some ks → xs = ks.map kV) (fun ks h => by cases h; rfl) (fun {x xs d ds} h _ ih ks hk => by
    rw [Zjp] at hk
    obtain ⟨k, h1, hk⟩ := bs hk
    obtain ⟨ks', h2, hk⟩ := bs hk
    cases hk
    rw [h.key1 h1, ih _ h2]; rfl) h
theorem Da.keyT {ks : List Key} (h : Da G H L y e) (hk : Zgc e = some (.inr ks)) : ∃ b, y = .ref b ∧ H b = some (.tup (ks.map kV)) := by
  cases h with
  | tup e1 r =>
    rw [Zgc] at hk
    obtain ⟨ks', h1, h2⟩ := Option.map_eq_some_iff.mp hk
    cases h2
    exact ⟨_, rfl, by rw [← r.keys _ h1]; exact e1⟩
  | exc _ _ _ => unfold exD Zgc Zgg at hk; cases hk
  | fn _ => unfold fnD Zgc Zgg at hk; cases hk
  | dic _ _ _ _ => unfold dcD Zgc Zgg at hk; cases hk
  | _ => cases hk
theorem Da.keyS {k : Key} (h : Da G H L y e) (hk : Zgc e = some (.inl k)) : y = kV k := by
  refine h.key1 ?_
  unfold Zgc at hk
  split at hk
  · obtain ⟨_, _, z⟩ := Option.map_eq_some_iff.mp hk; cases z
  · obtain ⟨_, h1, z⟩ := Option.map_eq_some_iff.mp hk; cases z; exact h1
noncomputable def Zmk (k : KY) : List (PyData × PyData) → Option PyData
  | [] => none
  | p :: r => if Zgc p.1 = some k then some p.2 else Zmk k r
theorem Zj3 (k : KY) (ks : List KY) : ∀ ds, Zmk k ((ks.map kyD).zip ds) = Zur k ks ds := by
  induction ks with
  | nil => intro ds; rfl
  | cons j ks ih =>
    intro ds
    cases ds with
    | nil => rfl
    | cons d ds =>
      show (if Zgc (kyD j) = some k then some d else Zmk k ((ks.map kyD).zip ds)) = if j = k then some d else Zur k ks ds
      rw [Zo8, ih]
      by_cases c : j = k
      · rw [if_pos c, if_pos (congrArg some c)]
      · rw [if_neg c, if_neg fun z => c (Option.some.inj z)]
theorem Da.dget {x : V} {t : Bool} {kvs : List (PyData × PyData)} {k : KY} (h : Da G H L x (.dict ((.none, .bool t) :: kvs))) (hy : Da G H L y e) (hk : Zgc e = some k) (ht : Zxb k = t) : ∃ a o, x = .ref a ∧ IsD H a ∧ DGet H a y o ∧ Z3a G H L o (Zmk k kvs) := by
  generalize ed : PyData.dict ((.none, .bool t) :: kvs) = d at h
  cases h with
  | dic l r dk q =>
    rename_i a o t' ks xs ds
    unfold dcD at ed
    injection ed with ed
    injection ed with e1 e2
    injection e1 with _ e1
    injection e1 with e1
    subst e1 e2
    rw [Zj3]
    cases o with
    | lst _ => exact dk.elim
    | dK kv =>
      obtain ⟨rfl, rfl, rfl⟩ := dk
      cases k with
      | inr _ => cases ht
      | inl k => exact ⟨a, _, rfl, .inl ⟨kv, r⟩, .inl ⟨kv, k, r, hy.keyS hk, rfl⟩, look Zko k kv _ q⟩
    | dT kv =>
      obtain ⟨rfl, rfl, rfl⟩ := dk
      cases k with
      | inl _ => cases ht
      | inr k =>
        obtain ⟨b, hb, eb⟩ := hy.keyT hk
        exact ⟨a, _, rfl, .inr ⟨kv, r⟩, .inr ⟨kv, k, b, r, hb, eb, rfl⟩, look Zkb k kv _ q⟩
  | exc _ _ _ => unfold exD at ed; cases ed
  | fn _ => unfold fnD at ed; cases ed
  | _ => cases ed
end
end L2
namespace L2
open PySem PySem.Spec PyProof.Rows
variable {G : PySem.W.Frag}
section
variable {X : Cx} {io : List Nat} {p c p' c' : Bool} {a b e f o : Expr} {ma mb m mi mo me mf : MEt} {pos pp apos cpos px : Pos} {i : Nat} {x : Str}
theorem hu1 {n : Nat} (h : n + 64 < cLine) : n + 1 < cLine := Nat.lt_of_le_of_lt (Nat.add_le_add_left (by decide : 1 ≤ 64) _) h
noncomputable def Zmu : PyData → PyData → Option OT := fun d e => match d with
  | .dict ((.none, .bool t) :: kvs) => (Zgc e).bind fun k => if Zxb k = t then (Zmk k kvs).map OT.fz else none
  | _ => none
noncomputable def Z2c : PyData → PyData → (OT → Prop) → Prop := fun d e k => ∃ r, Zmu d e = some r ∧ k r
noncomputable def Z6c : R2 := fun x y H Q => ∃ a v, x = .ref a ∧ DGet H a y (some v) ∧ Q v H
theorem Zu2 : ByO Zmu Z2c := fun _ _ r _ h hk => ⟨r, h, hk⟩
theorem Z0n : P2 G Z6c Z2c := fun H L x y d e k Q hx hy h kk => by
  obtain ⟨r, h, hk⟩ := h
  unfold Zmu at h
  split at h
  case h_2 => cases h
  rename_i t kvs
  obtain ⟨ky, h1, h⟩ := bs h
  by_cases ht : Zxb ky = t
  · rw [if_pos ht] at h
    obtain ⟨a, o, rfl, _, g, R⟩ := hx.dget hy h1 ht
    obtain ⟨z, hz, rfl⟩ := Option.map_eq_some_iff.mp h
    rcases R with ⟨v, d, rfl, hd, q⟩ | ⟨_, hd⟩
    · rw [hz] at hd
      cases hd
      exact ⟨a, v, rfl, g, kk H v (.fz z) [] (Same.refl _) (.fz (q.wide fun a l _ => ⟨.inl l, fun m => nomatch m⟩)) .nil (fun a m => nomatch m) hk⟩
    · rw [hz] at hd; cases hd
  · rw [if_neg ht] at h; cases h
theorem Zvb (hu : X.A.units + 64 < cLine) (ha : ME X io p c a ma) (hb : ME X io p' c' b mb) (hc : p' = true ∨ c = true := by first | exact Or.inl rfl | exact Or.inr rfl) (hs : Z2q b) : ME X io (p && p') (c && c') (.Subscript a b pos) (Z0d Z2c ma mb) := by
  obtain ⟨_, A, sa⟩ := ha
  obtain ⟨_, B, sb⟩ := hb
  exact ⟨_, Zu0 (hu1 hu) A B hs, Z2f (r := Z6c) Z0n sa sb hc⟩
noncomputable def Zzo (t : Bool) : MEt := fun δ K => K (.dc t [] []) δ
theorem Zo3 : ME X io true true (.Dict [] [] pos) (Zzo true) := ⟨_, Zss, fun C H σ δ fp ex K Q R h k q hq => by
  refine k _ _ _ δ fp [q] (RE.tree (H1 := H) R R (Stp.same (Same.refl H) fun _ z => z) (Wq hq (.dT [])) (Zdn hq) (Zez q) ?_) h
  exact .dc (o := .dT []) Ym ⟨rfl, rfl, rfl⟩ .nil⟩
noncomputable def Zvs (t : Bool) : FE := fun δ => some (.dc t [] [], δ)
theorem Zpq {t : Bool} (h : ME X io p c e (Zzo t)) : ME X io p c e (o2 (Zvs t)) := h.weak fun δ K z => by
  obtain ⟨r, δ', h, k⟩ := z
  cases h; exact k
theorem Rel.ownDc {C : MC G} {H : Hp} {σ : St} {δ : Zj} {fp : Fp} {ex : Addr → Prop} {t : Bool} {ks : List KY} {ds : List PyData} (R : Rel C io H σ δ fp ex) (hi : δ[i]? = some (some (.dc t ks ds))) :
    ∃ a' ob xs, σ[i]? = some (some (.ref a')) ∧ H a' = some (MuO.ho ob) ∧ ob.dic t ks xs ∧ Das G H (Lf C fp ex) xs ds ∧ fp i = [a'] := by
  obtain ⟨v, e, o⟩ := R.own i _ hi
  generalize hf : fp i = as at o
  cases o with
  | dc h k r => exact ⟨_, _, _, e, h, k, r, rfl⟩
theorem Rel.topD {C : MC G} {H : Hp} {σ : St} {δ : Zj} {fp : Fp} {ex : Addr → Prop} {t : Bool} {ks ks' : List KY} {ds ds' : List PyData} {a' : Addr} {ob ob' : MuO} {ys : List V} (R : Rel C io H σ δ fp ex) (hi : δ[i]? = some (some (.dc t ks ds))) (hv : σ[i]? = some (some (.ref a')))
    (hf : fp i = [a']) (hx : H a' = some ob.ho) (dk : ob'.dic t ks' ys) (o : Das G H (Lf C fp ex) ys ds') :
    Rel C io (upd H a' ob'.ho) σ (δ.set i (some (.dc t ks' ds'))) (fpu fp i [a']) ex ∧ Stp false H δ fp (upd H a' ob'.ho) (δ.set i (some (.dc t ks' ds'))) (fpu fp i [a']) := by
  have hm : a' ∈ fp i := by rw [hf]; exact .head _
  have ne' : ∀ a, ¬ Foot fp a → a ≠ a' := fun a h z => h ⟨i, by rw [z]; exact hm⟩
  have kp : ∀ b o, H b = some o → b ≠ a' → upd H a' ob'.ho b = some o := fun b o e n => by rw [Yc n]; exact e
  have sub : ∀ a, a ∈ [a'] → a ∈ fp i := fun a m => by rw [hf]; exact m
  have o' : Das G (upd H a' ob'.ho) (Lf C (fpu fp i [a']) (exu ex [])) ys ds' := by
    have f0 : ∀ a, ¬ Foot fp a → ¬ Foot (fpu fp i [a']) a := fun a h z => by
      rcases z.of_u with z | ⟨j, _, z⟩
      · exact h ⟨i, sub a z⟩
      · exact h ⟨j, z⟩
    refine o.frame (fun a zs l q => ⟨⟨f0 a l.1, fun z => l.2.1 (Zb3.mp z), l.2.2⟩, ?_⟩) fun a zs q => kp a _ q fun z => ImO.nm q (z ▸ hx)
    rcases q with q | ⟨u, q⟩
    · exact .inl (kp a _ q (ne' a l.1))
    · exact .inr ⟨u, kp a _ q (ne' a l.1)⟩
  have key := R.change (new := []) (as' := [a']) (t' := .dc t ks' ds') (H' := upd H a' ob'.ho) hi hv (fun b o e nb => kp b o e fun z => nb (by rw [z]; exact hm)) (fun b e => by
      by_cases q : b = a'
      · subst q; rw [Ym] at e; cases e
      · rwa [Yc q] at e) (.dc Ym dk o') (Zez a') (fun a m => .inl (sub a m)) (fun a m => nomatch m)
  exact ⟨key.1.drop fun a z => .inl z, key.2⟩
noncomputable def Zyn (i : Nat) (m mi : MEt) : MSt := fun D δ => m δ fun r δ1 => match δ1[i]? with
  | some (some (.dc t ks ds)) => mi δ1 fun n _ => match Zgc n.data with
    | some k => (Zxb k = t ∧ ks.length < sizeLine) ∧ D.nx (δ1.set i (some (.dc t (Ziy k ks) (Zjw k r.data ks ds))))
    | none => False
  | _ => False
theorem Zhg (i : Nat) (hu : X.A.units + 64 < cLine) (he : ME X io p true e m) (hj : ME X io true c a mi) (hN : X.N[i]? = some x := by rfl) (hv : Vis X.env.scope x := by first | exact Or.inl rfl | exact Or.inr (Or.inl rfl) | exact Or.inr (Or.inr rfl)) (hd : (x == ("__debug__" : Str)) = false := by decide)
    (hcd : (x == ("__classdict__" : Str)) = false := by decide)
    (hs : swapsWith e (some (.Subscript (.Name x px) a pp)) pos.line X.env = pure false := by rfl) : MS X io (.Assign [.Subscript (.Name x px) a pp] e pos) (Zyn i m mi) := by
  obtain ⟨_, A, s⟩ := he
  obtain ⟨_, B, sj⟩ := hj
  refine ⟨_, Zun (hu1 hu) (pv i hN hv hd hcd) B A hs, fun C H σ δ fp ex D D' R h E => ?_⟩
  refine s C H σ δ fp ex _ _ R h fun H1 v r δ1 fp1 new r1 h1 => ?_
  have R1 := r1.base
  have q := (r1.da R).wide (L' := Lf C fp1 ex) fun a l _ => l rfl
  split at h1
  case h_2 => exact h1.elim
  rename_i t ks ds hi
  obtain ⟨a', _, _, hv0, _⟩ := R1.ownDc hi
  refine ⟨_, hv0, ?_⟩
  refine sj.pureAfter R1 h1 fun H2 w n R2 s2 q2 h2 => ?_
  split at h2
  case h_2 => exact h2.elim
  rename_i k hk
  obtain ⟨⟨ht, hl⟩, h2⟩ := h2
  obtain ⟨a2, ob, xs, hv2, hx, dk, o, hf⟩ := R2.ownDc hi
  rw [hv0] at hv2
  cases hv2
  have q' := q.same s2
  have kpp : Kp H1 fp1 H2 fp1 := ⟨fun b o e _ => s2 _ _ e, fun z => (nomatch z), fun a z => .inl z, s2.al⟩
  cases ob with
  | lst _ => exact dk.elim
  | dK kv =>
    obtain ⟨rfl, rfl, rfl⟩ := dk
    rw [List.length_map] at hl
    cases k with
    | inr _ => cases ht
    | inl k =>
      obtain ⟨R3, S3⟩ := R2.topD (ob' := .dK (putK kv k v)) hi hv0 hf hx ⟨rfl, (Zlz Zko k v kv).symm, rfl⟩ (Zlx Zko k q' kv o)
      exact ⟨a', _, rfl, .inl ⟨kv, k, hx, q2.keyS hk, hl, rfl⟩, E.nx _ σ _ _ R3 (r1.stp.kp.trans (Kp.trans kpp S3.kp)) h2⟩
  | dT kv =>
    obtain ⟨rfl, rfl, rfl⟩ := dk
    rw [List.length_map] at hl
    cases k with
    | inl _ => cases ht
    | inr k =>
      obtain ⟨b', hb, eb⟩ := q2.keyT hk
      obtain ⟨R3, S3⟩ := R2.topD (ob' := .dT (putK kv k v)) hi hv0 hf hx ⟨rfl, (Zlz Zkb k v kv).symm, rfl⟩ (Zlx Zkb k q' kv o)
      exact ⟨a', _, rfl, .inr ⟨kv, k, b', hx, hb, eb, hl, rfl⟩, E.nx _ σ _ _ R3 (r1.stp.kp.trans (Kp.trans kpp S3.kp)) h2⟩
noncomputable def Zj2 (i : Nat) (e j : FE) : FS := wE e fun r δ1 => match δ1[i]? with
  | some (some (.dc t ks ds)) => wE j (fun n _ => match Zgc n.data with
    | some k => if Zxb k = t ∧ ks.length < sizeLine then .nx (δ1.set i (some (.dc t (Ziy k ks) (Zjw k r.data ks ds)))) else .bad
    | none => .bad) δ1
  | _ => .bad
theorem Zig {fa fb : FE} {st : Stmt} (h : MS X io st (Zyn i (o2 fa) (o2 fb))) : MS X io st (oS (Zj2 i fa fb)) := h.weak fun D δ h => by
  refine (Zli h).imp fun r δ' z => ?_
  split at z
  case h_2 => exact z.elim
  rename_i q; (try rw [q])
  refine (Zli z).imp fun n δ2 z => ?_
  split at z
  case h_2 => exact z.elim
  rename_i k q2; (try rw [q2])
  exact Zhs z
end
end L2
namespace L2
open PySem PySem.Spec PyProof.Rows
variable {G : PySem.W.Frag}
end L2
namespace L2
open PySem PySem.Spec PyProof.Rows PySem.W PySem.SeqAt
variable {G : PySem.W.Frag}
section
variable {prog : Program} {w : World} {A : Around} {E : Value → Shared → Prop} {s : Shared}
theorem Zkm (a b : Value) : Builtin.«dict.__eq__» ⟨[a, b], []⟩ = (isInstance b (.type "dict") >>= fun r => if (!r) = true then (rule "dict.__eq__.not-a-dict" >>= fun _ => ret Value.notImplemented) else (Builtin.Dict.addrOf a >>= fun p => Builtin.Dict.addrOf b >>= fun q => Builtin.Dict.samePairs "dict.__eq__" p q >>= fun z => ret (Value.bool (z == true)))) := rfl
theorem Zmd {a : Addr} {Q : Unit → Shared → Prop} (na : (a == sysModules) = false) (h : Q () s) : wpAny (model prog w) A (Builtin.Dict.showsAll a) Q E s := by
  unfold Builtin.Dict.showsAll
  rw [if_neg (by rw [na]; exact Bool.false_ne_true)]
  exact wpAny_pure h
theorem Ztv {es : Array DictEntry} {xs : List (List Key × Addr × Value)} (h : es.toList = xs.map (entryOfKey (tupleKind (Y9 prog w)))) {i : Nat} {x : List Key × Addr × Value} (hi : xs[i]? = some x) : es[i]? = some (entryOfKey (tupleKind (Y9 prog w)) x) := by
  rw [← Array.getElem?_toList, h, List.getElem?_map, hi]; rfl
theorem Zx9 {ys : List (List Key × Addr × Value)} (nd : (ys.map (·.1)).Nodup) {i j : Nat} {x y : List Key × Addr × Value} (hi : ys[i]? = some x) (hj : ys[j]? = some y) (e : x.1 = y.1) : i = j := by
  have h1 : (ys.map (·.1))[i]? = some x.1 := by rw [List.getElem?_map, hi]; rfl
  have h2 : (ys.map (·.1))[j]? = some x.1 := by rw [List.getElem?_map, hj, e]; rfl
  exact (List.getElem?_inj (List.getElem?_eq_some_iff.mp h1).1 nd).mp (h1.trans h2.symm)
theorem Zkh {nm : String} {a b : Addr} {xs ys : List (List Key × Addr × Value)} {oa ob : Obj} {ea eb : Array DictEntry} {pa pb : Nat} {Q : Bool → Shared → Prop}
    (na : (a == sysModules) = false) (nb : (b == sysModules) = false) (ha : s.heap.get? a = some oa) (da : oa.data = .dict ea pa) (xa : ea.toList = xs.map (entryOfKey (tupleKind (Y9 prog w))))
    (hb : s.heap.get? b = some ob) (db : ob.data = .dict eb pb) (yb : eb.toList = ys.map (entryOfKey (tupleKind (Y9 prog w)))) (hk : ∀ x ∈ xs, (tupleKind (Y9 prog w)).is s.heap x.1 x.2.1) (hk' : ∀ x ∈ ys, (tupleKind (Y9 prog w)).is s.heap x.1 x.2.1)
    (nd : (ys.map (·.1)).Nodup) (room : (tupleKind (Y9 prog w)).room A) (hl : xs.map (·.1) = ys.map (·.1)) (hv : ∀ (i : Nat) x y, xs[i]? = some x → ys[i]? = some y → EqAt A s x.2.2 y.2.2 true) (q : Q true s) : wpAny (model prog w) A (Builtin.Dict.samePairs nm a b) Q E s := by
  have lx : ea.size = xs.length := by rw [← Array.length_toList, xa, List.length_map]
  have ly : eb.size = ys.length := by rw [← Array.length_toList, yb, List.length_map]
  have lxy : xs.length = ys.length := by have := congrArg List.length hl; rwa [List.length_map, List.length_map] at this
  unfold Builtin.Dict.samePairs
  refine wpAny_bind (Zmd na ?_)
  refine wpAny_bind (Zmd nb ?_)
  refine wpAny_bind (wpAny_dictEntries ha da ?_)
  refine wpAny_bind (wpAny_dictEntries hb db ?_)
  rw [if_neg (by rw [lx, ly, lxy]; simp)]
  refine wpAny_bind (wpAny_dictEpoch ha da ?_)
  rw [Std.Legacy.Range.forIn_eq_forIn_range']
  refine wpAny_bind (wpAny_forIn_list _ (fun rest r s' => r = (none, ()) ∧ s' = s ∧ ∀ i ∈ rest, i < ea.size) _ (fun i rest r s' h => ?_) (fun r s' h => ?_) _ _ ⟨rfl, rfl, fun i m => ?_⟩)
  · obtain ⟨rfl, rfl, h⟩ := h
    have hi := h i (.head _)
    obtain ⟨x, hx⟩ : ∃ x, xs[i]? = some x := ⟨_, List.getElem?_eq_getElem (by omega)⟩
    obtain ⟨y, hy⟩ : ∃ y, ys[i]? = some y := ⟨_, List.getElem?_eq_getElem (by omega)⟩
    have exy : x.1 = y.1 := by
      have h1 : (xs.map (·.1))[i]? = some x.1 := by rw [List.getElem?_map, hx]; rfl
      rw [hl, List.getElem?_map, hy] at h1
      exact (Option.some.inj h1).symm
    refine wpAny_bind (wpAny_dictEntries ha da ?_)
    rw [Ztv xa hx]
    refine wpAny_bind (wpAny_holding (wpAny_bind (wpAny_dictFind_heap room (hk x (List.mem_of_getElem? hx)) hb db yb hk' nd (fun z => absurd hy (by have := z i y.2; rw [exy] at this; exact this)) fun j p hj => ?_)))
    have ij : j = i := Zx9 nd hj hy exy
    subst ij
    dsimp only
    refine wpAny_bind (wpAny_dictEntries hb db ?_)
    rw [Ztv yb hj]
    refine wpAny_holding (hv j x _ hx hj prog w _ _ ?_)
    rw [if_neg (by decide)]
    refine wpAny_bind (wpAny_dictEpoch ha da ?_)
    rw [if_neg (by simp)]
    exact wpAny_pure ⟨rfl, rfl, fun k m => h k (.tail _ m)⟩
  · obtain ⟨rfl, rfl, _⟩ := h
    exact wpAny_pure q
  · have := List.mem_range'.mp m
    obtain ⟨k, hk, rfl⟩ := this
    simpa using hk
end
theorem hu2 {A : Around} {k : Nat} (hr : Room k A) : A.units + 128 < cLine := by have := hr.un; omega
noncomputable def Ztb : List (PyData × PyData) → List (PyData × PyData) → Bool
  | [], [] => true
  | (a, x) :: p, (b, y) :: q => decide (Zgc a = Zgc b) && (SeqAt.shaped x && (SeqAt.shaped y && (PyData.eqv x y && Ztb p q)))
  | _, _ => false
theorem Zvj {H : Hp} {L : Addr → Prop} : ∀ (ka kb : List (List Key × V)) (da db : List PyData), Das G H L (ka.map (·.2)) da → Das G H L (kb.map (·.2)) db → Ztb (((ka.map fun p => (Sum.inr p.1 : KY)).map kyD).zip da) (((kb.map fun p => (Sum.inr p.1 : KY)).map kyD).zip db) = true →
    ka.map (·.1) = kb.map (·.1) ∧ ∀ (i : Nat) p q, ka[i]? = some p → kb[i]? = some q → ∃ d e, Da G H L p.2 d ∧ Da G H L q.2 e ∧ SeqAt.shaped d = true ∧ SeqAt.shaped e = true ∧ PyData.eqv d e = true := by
  intro ka
  induction ka with
  | nil =>
    intro kb da db h1 h2 h
    cases h1
    cases kb with
    | nil => exact ⟨rfl, fun i p q z => by cases z⟩
    | cons k kb => cases h2; cases h
  | cons k ka ih =>
    intro kb da db h1 h2 h
    cases h1 with
    | cons a1 r1 =>
      cases kb with
      | nil => cases h2; cases h
      | cons l kb =>
        cases h2 with
        | cons a2 r2 =>
          rename_i d1 ds1 d2 ds2
          have h : (decide (Zgc (kyD (.inr k.1)) = Zgc (kyD (.inr l.1))) && (SeqAt.shaped d1 && (SeqAt.shaped d2 && (PyData.eqv d1 d2 && Ztb (((ka.map fun p => (Sum.inr p.1 : KY)).map kyD).zip ds1) (((kb.map fun p => (Sum.inr p.1 : KY)).map kyD).zip ds2))))) = true := h
          rw [Bool.and_eq_true, Bool.and_eq_true, Bool.and_eq_true, Bool.and_eq_true, decide_eq_true_eq, Zo8, Zo8] at h
          obtain ⟨e, s1, s2, s3, h⟩ := h
          obtain ⟨i1, i2⟩ := ih kb _ _ r1 r2 h
          refine ⟨by rw [List.map_cons, List.map_cons, i1, Sum.inr.inj (Option.some.inj e)], fun i p q hp hq => ?_⟩
          cases i with
          | zero => cases hp; cases hq; exact ⟨_, _, a1, a2, s1, s2, s3⟩
          | succ i => exact i2 i p q hp hq
noncomputable def Zqi : PyData → PyData → Option PyData := fun d e => match d, e with
  | .dict ((.none, .bool true) :: p), .dict ((.none, .bool true) :: q) => if Ztb p q = true then some (.bool true) else none
  | _, _ => none
noncomputable def Zzh : PyData → PyData → (PyData → Prop) → Prop := fun d e k => ∃ r, Zqi d e = some r ∧ k r
theorem Zyw : ByS Zqi Zzh := fun _ _ r _ h hk => ⟨r, h, hk⟩
noncomputable def Zzu (K : PySem.W.Frag) : R2 := fun x y H Q => ∃ (a b : Addr) (L : Addr → Prop) (ka kb : List (List Key × V)), x = .ref a ∧ y = .ref b ∧ Rd H a (.dT ka) ∧ Rd H b (.dT kb) ∧ ka.map (·.1) = kb.map (·.1) ∧ (∀ (i : Nat) p q, ka[i]? = some p → kb[i]? = some q → ∃ d e, Da K H L p.2 d ∧ Da K H L q.2 e ∧ SeqAt.shaped d = true ∧ SeqAt.shaped e = true ∧ PyData.eqv d e = true) ∧ Q (.bl true) H
theorem Da.dTinv {H : Hp} {L : Addr → Prop} {x : V} {p : List (PyData × PyData)} (h : Da G H L x (.dict ((.none, .bool true) :: p))) : ∃ a ka da, x = .ref a ∧ Rd H a (.dT ka) ∧ Das G H L (ka.map (·.2)) da ∧ p = ((ka.map fun p => (Sum.inr p.1 : KY)).map kyD).zip da := by
  generalize ed : PyData.dict ((.none, .bool true) :: p) = d at h
  cases h with
  | dic l r dk q =>
    rename_i a o t' ks xs ds
    unfold dcD at ed
    injection ed with ed
    injection ed with e1 e2
    injection e1 with _ e1
    injection e1 with e1
    subst e1 e2
    cases o with
    | lst _ => exact dk.elim
    | dK kv => cases dk.1
    | dT kv =>
      obtain ⟨_, rfl, rfl⟩ := dk
      exact ⟨a, kv, ds, rfl, r, q, rfl⟩
  | exc _ _ _ => unfold exD at ed; cases ed
  | fn _ => unfold fnD at ed; cases ed
  | _ => cases ed
theorem Zuw : P2s G (Zzu G) Zzh := fun H L x y d e k Q hx hy h kk => by
  obtain ⟨r, h, hk⟩ := h
  unfold Zqi at h
  split at h
  case h_2 => cases h
  rename_i p q
  by_cases c : Ztb p q = true
  · rw [if_pos c] at h
    cases h
    obtain ⟨a, ka, da, rfl, ra, qa, rfl⟩ := hx.dTinv
    obtain ⟨b, kb, db, rfl, rb, qb, rfl⟩ := hy.dTinv
    obtain ⟨h1, h2⟩ := Zvj ka kb da db qa qb c
    exact ⟨a, b, L, ka, kb, rfl, rfl, ra, rb, h1, h2, kk _ _ (.bl true) hk⟩
  · rw [if_neg c] at h; cases h
theorem Paired.at {α β : Type} {R : α → β → Prop} {as : List α} {bs : List β} (h : PySem.Paired R as bs) : ∀ {i : Nat} {y : β}, bs[i]? = some y → ∃ x, as[i]? = some x ∧ R x y := by
  induction h with
  | nil => intro i y z; cases z
  | cons h t ih =>
    intro i y z
    cases i with
    | zero => cases z; exact ⟨_, rfl, h⟩
    | succ i => exact ih z
theorem KT.keysEq {H : Hp} {kvs : List (List Key × V)} {xs : List (List Key × Addr × Value)} (r : KT H kvs xs) : kvs.map (·.1) = xs.map (·.1) := by
  induction r with
  | nil => rfl
  | cons h t ih => rw [List.map_cons, List.map_cons, ih, h.1]
theorem Zvv {X : Cx} (hu : X.A.units + 128 < cLine) : OpR X (compareOp .Eq) (Zzu X.K) := by
  intro pins s σ H x y v u Q I rx ry h
  obtain ⟨a, b, L, ka, kb, rfl, rfl, ra, rb, hk, hv, q⟩ := h
  cases (show v = Value.ref a from rx)
  cases (show u = Value.ref b from ry)
  obtain ⟨_, na, xs, r1, oa, ea, pa, ha, xa, da, la, ia, nda⟩ := Zpz I.hok ra
  obtain ⟨_, nb, ys, r2, ob, eb, pb, hb, xb, db, lb, ib, ndb⟩ := Zpz I.hok rb
  show wpAny _ _ (richCompare .Eq (.ref a) (.ref b)) _ _ _
  refine wpAny_richCompare_same_room ⟨oa, ha, xa.1⟩ ⟨ob, hb, xb.1⟩ F.slot_dict_eq (wpAny_call_entry F.slot_dict_eq ⟨oa, ha, xa.1⟩ F.entry_dict_eq ?_ (F.args_dict_eq_2 _ _)) (by omega)
  rw [Zkm]
  refine wpAny_bind (wpAny_isInstance ⟨ob, hb, xb.1⟩ F.sub_dict_dict ?_)
  rw [if_neg (by decide)]
  refine wpAny_bind (wpAny_pure ?_)
  refine wpAny_bind (wpAny_pure ?_)
  refine wpAny_bind (Zkh na nb ha da la hb db lb ia ib ndb (show X.A.in1.units < cLine by show X.A.units + 1 < cLine; omega) (by rw [← r1.keysEq, ← r2.keysEq]; exact hk) (fun i x y hx hy => ?_) ?_)
  · obtain ⟨p1, e1, h1⟩ := Paired.at r1 hx
    obtain ⟨p2, e2, h2⟩ := Paired.at r2 hy
    obtain ⟨d, e, q1, q2, s1, s2, s3⟩ := hv i p1 p2 e1 e2
    obtain ⟨as, k1⟩ := q1.reads rfl I h1.2.2 (SeqAt.canLay_of_shaped s1)
    obtain ⟨bs, k2⟩ := q2.reads rfl I h2.2.2 (SeqAt.canLay_of_shaped s2)
    have := W.keq_at (A := X.A) k1 k2 s1 s2 (by show X.A.units + 1 + 64 < cLine; omega)
    rwa [s3] at this
  · exact wpAny_pure ⟨_, rfl, (fun z => nomatch z), .bl true, H, I, rfl, q⟩
instance nx_fDPut {i : Nat} {fa fb : FE} : NoEx (Zj2 i fa fb) := ⟨fun δ cn δ' h => by
  unfold Zj2 at h
  exact Zon (fun r δ1 _ _ z => by
    split at z
    · exact Zon (fun n δ2 _ _ z => by
        split at z
        · split at z <;> cases z
        · cases z) z
    · cases z) h⟩
end L2
namespace L2
open PySem PySem.Spec PyProof.Rows
noncomputable def Z5d (o : Option (Option OT)) (δ : Zj) : Option (OT × Zj) := match o with | some (some (.fz d)) => some (.fz d, δ) | _ => none
theorem Zks (d : PyData) (δ : Zj) : Z5d (some (some (.fz d))) δ = some (.fz d, δ) := rfl
noncomputable def Zyq (o : Option (Option OT)) (δ : Zj) : Option (OT × Zj) := match o with | some (some t) => some (.fz t.data, δ) | _ => none
theorem Zt7 (t : OT) (δ : Zj) : Zyq (some (some t)) δ = some (.fz t.data, δ) := rfl
theorem Zku (i : Nat) (δ : Zj) : Zg i δ = Z5d δ[i]? δ := rfl
theorem Zu5 (i : Nat) (δ : Zj) : Zmf i δ = Zyq δ[i]? δ := rfl
theorem Z3y (d : PyData) (δ : Zj) : fC d δ = some (.fz d, δ) := rfl
theorem Zq6 (g : PyData → PyData → Option PyData) (a b : FE) (δ : Zj) : Zk g a b δ = (a δ).bind fun p => (b p.2).bind fun q => (g p.1.data q.1.data).bind fun d => some (.fz d, q.2) := rfl
theorem Zwt (g : PyData → PyData → Option OT) (a b : FE) (δ : Zj) : W5 g a b δ = (a δ).bind fun p => (b p.2).bind fun q => (g p.1.data q.1.data).bind fun d => some (d, q.2) := rfl
theorem Zz7 (g : PyData → Option PyData) (a : FE) (δ : Zj) : fUn g a δ = (a δ).bind fun p => (g p.1.data).bind fun d => some (.fz d, p.2) := rfl
noncomputable def onB {α : Type} (d : PyData) (x y : Option α) : Option α := match d with | .bool true => x | .bool false => y | _ => none
theorem Z3m {α : Type} (x y : Option α) : onB (.bool true) x y = x := rfl
theorem Z2l {α : Type} (x y : Option α) : onB (.bool false) x y = y := rfl
theorem Zn9 (a b : FE) (δ : Zj) : Zvk a b δ = (a δ).bind fun p => onB p.1.data (b p.2) (some (.fz (.bool false), p.2)) := by
  unfold Zvk onB
  cases a δ with
  | none => rfl
  | some p => first | rfl | (simp only [Option.bind_some]; done) | (simp only [Option.bind_some]; generalize p.1.data = d; cases d <;> first | rfl | (rename_i b; cases b <;> rfl))
theorem Z4y (a b : FE) (δ : Zj) : fOr a b δ = (a δ).bind fun p => onB p.1.data (some (.fz (.bool true), p.2)) (b p.2) := by
  unfold fOr onB
  cases a δ with
  | none => rfl
  | some p => first | rfl | (simp only [Option.bind_some]; done) | (simp only [Option.bind_some]; generalize p.1.data = d; cases d <;> first | rfl | (rename_i b; cases b <;> rfl))
theorem Z6i (t : FT) (a b : FE) (δ : Zj) : fIf t a b δ = (t δ).bind fun p => if p.1 = true then a p.2 else b p.2 := rfl
noncomputable def Z4k (t : OT) (δ : Zj) : Option (Bool × Zj) := match t with | .fz (.bool b) => some (b, δ) | _ => none
theorem Zx8 (b : Bool) (δ : Zj) : Z4k (.fz (.bool b)) δ = some (b, δ) := rfl
theorem Z2a (e : FE) (δ : Zj) : tV e δ = (e δ).bind fun p => Z4k p.1 p.2 := by
  unfold tV Z4k
  cases e δ with
  | none => rfl
  | some p => rfl
theorem Zxm (t : FT) (δ : Zj) : tNo t δ = (t δ).bind fun p => some (!p.1, p.2) := rfl
theorem Zyu (t u : FT) (δ : Zj) : tAn t u δ = (t δ).bind fun p => if p.1 = true then u p.2 else some (false, p.2) := rfl
theorem Zxf (t u : FT) (δ : Zj) : tO t u δ = (t δ).bind fun p => if p.1 = true then some (true, p.2) else u p.2 := rfl
theorem Z4h (e : FE) (δ : Zj) : tD e δ = (e δ).bind fun p => (Zrx p.1.data).bind fun b => some (b, p.2) := rfl
theorem Z39 (δ : Zj) : Zge δ = some (true, δ) := rfl
theorem Zwq (δ : Zj) : Yk δ = some ([], δ) := rfl
theorem Zle (e : FE) (a : FA) (δ : Zj) : Zh e a δ = (e δ).bind fun p => (a p.2).bind fun q => some (p.1 :: q.1, q.2) := rfl
theorem Zwp (a : FA) (δ : Zj) : Zg8 a δ = (a δ).bind fun p => if p.1.length ≤ sizeLine then some (.fz (.tuple (OT.datas p.1)), p.2) else none := rfl
theorem Zqf (a : FA) (δ : Zj) : Zp1 a δ = (a δ).bind fun p => if p.1.length ≤ sizeLine then some (.nd p.1, p.2) else none := rfl
theorem Z1v (a : FA) (δ : Zj) : Z3c a δ = (a δ).bind fun p => if p.1.length ≤ sizeLine then some (.tp p.1, p.2) else none := rfl
theorem Z1i (e : FE) (δ : Zj) : Z3w e δ = (e δ).bind fun p => if Zfd p.1.data = true then some (.fz p.1.data, p.2) else none := rfl
theorem Z0x (e : FE) (δ : Zj) : Z1a e δ = (e δ).bind fun p => if Zve p.1 = true then some (p.1, p.2) else none := rfl
noncomputable def okO (x : RF) (δ : Zj) : Option (OT × Zj) := match x with | .ok r => some (r, δ) | _ => none
theorem Zyi (r : OT) (δ : Zj) : okO (.ok r) δ = some (r, δ) := rfl
theorem Zsp (F : FD) (a : FA) (δ : Zj) : Wa F a δ = (a δ).bind fun p => okO (F (OT.datas p.1)) p.2 := by
  unfold Wa okO
  cases a δ with
  | none => rfl
  | some p => rfl
noncomputable def atO {α : Type} (o : Option (Option OT)) (k : OT → Option α) : Option α := match o with | some (some t) => k t | _ => none
theorem Z7a {α : Type} (t : OT) (k : OT → Option α) : atO (some (some t)) k = k t := rfl
theorem Zzg (i : Nat) (F : FIO) (a : FA) (δ : Zj) : Zs1 i F a δ = atO δ[i]? fun _ => (a δ).bind fun p => atO p.2[i]? fun t => (F t (OT.datas p.1)).bind fun q => some (q.1, p.2.set i (some q.2)) := by
  unfold Zs1
  generalize δ[i]? = o
  rcases o with _ | _ | t
  · rfl
  · rfl
  · show (a δ).bind _ = (a δ).bind _
    cases a δ with
    | none => rfl
    | some p =>
      show (fun o : Option (Option OT) => (match o with | some (some t) => (F t (OT.datas p.1)).bind fun q => some (q.1, p.2.set i (some q.2)) | _ => none)) p.2[i]? = atO p.2[i]? _
      generalize p.2[i]? = o
      rcases o with _ | _ | t <;> rfl
theorem Zut (g : List PyData → Option PyData) (a : FA) (δ : Zj) : Ze5 g a δ = (a δ).bind fun p => (g (OT.datas p.1)).bind fun d => some (.fz d, p.2) := rfl
theorem Zz1 (g : List PyData → Option OT) (a : FA) (δ : Zj) : fBl g a δ = (a δ).bind fun p => (g (OT.datas p.1)).bind fun d => some (d, p.2) := rfl
theorem Zv8 (T : String) (e : FE) (δ : Zj) : Zt2 T e δ = (e δ).bind fun p => if Zgp p.1.data = true then none else some (.fz (.bool (Zne T p.1.data)), p.2) := rfl
theorem Z37 (δ : Zj) : oN δ = some (none, δ) := rfl
noncomputable def asInt {α : Type} (d : PyData) (k : Int → Option α) : Option α := match d with | .int i => k i | _ => none
theorem Zqg {α : Type} (i : Int) (k : Int → Option α) : asInt (.int i) k = k i := rfl
noncomputable def Zqb {α : Type} (d : PyData) (k : List PyData → Option α) : Option α := match d with | .list i => k i | _ => none
theorem Zns {α : Type} (i : List PyData) (k : List PyData → Option α) : Zqb (.list i) k = k i := rfl
noncomputable def Zw2 {α : Type} (d : PyData) (k : List PyData → Option α) : Option α := match d with | .tuple i => k i | _ => none
theorem Z2n {α : Type} (i : List PyData) (k : List PyData → Option α) : Zw2 (.tuple i) k = k i := rfl
theorem Z2d (e : FE) (δ : Zj) : oI e δ = (e δ).bind fun p => asInt p.1.data fun i => some (some i, p.2) := by
  unfold oI asInt
  cases e δ with
  | none => rfl
  | some p => rfl
theorem Zzm (e : FE) (lo hi : FO) (δ : Zj) : fSl e lo hi δ = (e δ).bind fun p => (lo p.2).bind fun q => (hi q.2).bind fun r => Zqb p.1.data fun ds => some (.nd ((cutD ds q.1 r.1).map OT.fz), r.2) := by
  unfold fSl Zqb; rfl
theorem Zup (e : FE) (δ : Zj) : Zgo e δ = (e δ).bind fun p => Zqb p.1.data fun ds => some (ds, p.2) := by
  unfold Zgo Zqb; rfl
theorem Z56 (e : FE) (δ : Zj) : iTp e δ = (e δ).bind fun p => Zw2 p.1.data fun ds => some (ds, p.2) := by
  unfold iTp Zw2; rfl
noncomputable def as1 {α : Type} (ds : List PyData) (k : Int → Option α) : Option α := match ds with | [.int i] => k i | _ => none
theorem Zt9 {α : Type} (i : Int) (k : Int → Option α) : as1 [.int i] k = k i := rfl
noncomputable def as2 {α : Type} (ds : List PyData) (k : Int → Int → Option α) : Option α := match ds with | [.int i, .int j] => k i j | _ => none
theorem Z2k {α : Type} (i j : Int) (k : Int → Int → Option α) : as2 [.int i, .int j] k = k i j := rfl
theorem Z0o (a : FA) (δ : Zj) : iRa a δ = (a δ).bind fun p => as1 (OT.datas p.1) fun j => if rOk j = true then some (Zda 0 j.toNat, p.2) else none := by
  unfold iRa as1; rfl
theorem Zyl (a : FA) (δ : Zj) : iRb a δ = (a δ).bind fun p => as2 (OT.datas p.1) fun i j => if (rOk i && rOk j) = true then some (Zda i (j - i).toNat, p.2) else none := by
  unfold iRb as2; rfl
theorem Znz (a : FA) (δ : Zj) : Ztq a δ = (a δ).bind fun p => as1 (OT.datas p.1) fun j => if rOk j = true ∧ j.toNat ≤ sizeLine then some (.nd ((Zda 0 j.toNat).map OT.fz), p.2) else none := by
  unfold Ztq as1; rfl
theorem Zum (a b : FE) (δ : Zj) : Zw6 a b δ = (a δ).bind fun p => (b p.2).bind fun q => asInt q.1.data fun k => if rOk k = true ∧ k.toNat ≤ sizeLine then some (.nd (List.replicate k.toNat (.fz p.1.data)), p.2) else none := by
  unfold Zw6 asInt; rfl
noncomputable def Z28 {α : Type} (ds : List PyData) (k : List PyData → List PyData → Option α) : Option α := match ds with | [.list i, .list j] => k i j | _ => none
theorem Z5q {α : Type} (i j : List PyData) (k : List PyData → List PyData → Option α) : Z28 [.list i, .list j] k = k i j := rfl
theorem Z1t (a : FA) (δ : Zj) : Zy2 a δ = (a δ).bind fun p => Z28 (OT.datas p.1) fun as bs => some (Z15 as bs, p.2) := by
  unfold Zy2 Z28; rfl
theorem Z5f (i : Nat) (d : PyData) (δ : Zj) : gNm i d δ = some (δ.set i (some (.fz d))) := rfl
theorem Z4p (i : Nat) (d : PyData) (δ : Zj) : Z78 i d δ = if Zfd d = true then some (δ.set i (some (.fz d))) else none := rfl
theorem Z5z (δ : Zj) : gNl [] δ = some δ := rfl
theorem Z47 (g : FG) (gs : FGs) (d : PyData) (r : List PyData) (δ : Zj) : gCn g gs (d :: r) δ = (g d δ).bind (gs r) := rfl
theorem Z4u (n : Nat) (gs : FGs) (ds : List PyData) (δ : Zj) : gTp n gs (.tuple ds) δ = if ds.length = n then gs ds δ else none := rfl
theorem Z5s (n : Nat) (gs : FGs) (ds : List PyData) (δ : Zj) : gLs n gs (.list ds) δ = if ds.length = n then gs ds δ else none := rfl
noncomputable def RS.thn (r : RS) (g : FS) : RS := match r with | .nx δ => g δ | r => r
theorem Zyb (δ : Zj) (g : FS) : (RS.nx δ).thn g = g δ := rfl
theorem Zyr (r : OT) (δ : Zj) (g : FS) : (RS.rt r δ).thn g = .rt r δ := rfl
theorem Z6g (δ : Zj) (g : FS) : (RS.bk δ).thn g = .bk δ := rfl
theorem Z5w (δ : Zj) (g : FS) : (RS.ct δ).thn g = .ct δ := rfl
theorem Z43 (c : Str) (δ : Zj) (g : FS) : (RS.ex c δ).thn g = .ex c δ := rfl
theorem Zqm (f g : FS) (δ : Zj) : Yu f g δ = (f δ).thn g := rfl
theorem Z6d (δ : Zj) : fNx δ = .nx δ := rfl
theorem Z3s (δ : Zj) : Z7v δ = .bk δ := rfl
theorem Z18 (δ : Zj) : Z7u δ = .ct δ := rfl
theorem Zya (c : Str) (δ : Zj) : Zgx c δ = .ex c δ := rfl
theorem Z1u (δ : Zj) : Z3p δ = .rt (.fz .none) δ := rfl
noncomputable def onO {α : Type} (o : Option (α × Zj)) (k : α → Zj → RS) : RS := match o with | some (r, δ') => k r δ' | none => .bad
theorem Yx {α : Type} (r : α) (δ : Zj) (k : α → Zj → RS) : onO (some (r, δ)) k = k r δ := rfl
theorem Zdm (e : FE) (k : OT → Zj → RS) (δ : Zj) : wE e k δ = onO (e δ) k := by
  unfold wE onO
  cases e δ <;> rfl
noncomputable def onF (x : RF) (δ : Zj) (k : OT → Zj → RS) : RS := match x with | .ok r => k r δ | .exn c => .ex c δ | .bad => .bad
theorem Zp3 (r : OT) (δ : Zj) (k : OT → Zj → RS) : onF (.ok r) δ k = k r δ := rfl
theorem Z6k (c : Str) (δ : Zj) (k : OT → Zj → RS) : onF (.exn c) δ k = .ex c δ := rfl
theorem Zuz (F : FD) (a : FA) (k : OT → Zj → RS) (δ : Zj) : wX F a k δ = onO (a δ) fun rs δ1 => onF (F (OT.datas rs)) δ1 k := by
  unfold wX onO onF
  cases a δ with
  | none => rfl
  | some p => rfl
theorem Zpr (t : FT) (u w : FS) (δ : Zj) : Zde t u w δ = onO (t δ) fun b δ' => if b = true then u δ' else w δ' := by
  unfold Zde onO
  cases t δ <;> rfl
theorem Zv9 (it : FI) (g : FG) (u : FS) (δ : Zj) : Ze8 it g u δ = onO (it δ) fun ds δ1 => forLoop g u ds δ1 := by
  unfold Ze8 onO
  cases it δ <;> rfl
theorem Z1n (r : OT) (δ : Zj) : Znn r δ = .nx δ := rfl
theorem Zpg (r : OT) (δ : Zj) : Zce r δ = .rt r δ := rfl
theorem Z1k (r : OT) (δ : Zj) : Z2g r δ = if Zfd r.data = true then .rt (.fz r.data) δ else .bad := rfl
theorem Zvf (i : Nat) (r : OT) (δ : Zj) : Jj i r δ = .nx (δ.set i (some (.fz r.data))) := rfl
theorem Z1x (i : Nat) (r : OT) (δ : Zj) : Z32 i r δ = if Zfd r.data = true then .nx (δ.set i (some (.fz r.data))) else .bad := rfl
theorem Zrz (i : Nat) (r : OT) (δ : Zj) : Zdl i r δ = .nx (δ.set i (some r)) := rfl
noncomputable def onD (o : Option Zj) : RS := match o with | some δ => .nx δ | none => .bad
theorem Z16 (δ : Zj) : onD (some δ) = .nx δ := rfl
theorem Z3o (g : FG) (r : OT) (δ : Zj) : Zxw g r δ = onD (g r.data δ) := rfl
noncomputable def onT (o : Option (Option OT)) (k : OT → RS) : RS := match o with | some (some t) => k t | _ => .bad
theorem Zxx (t : OT) (k : OT → RS) : onT (some (some t)) k = k t := rfl
theorem Zro (i : Nat) (δ : Zj) : Zfa i δ = onT δ[i]? fun t => .rt t (δ.set i none) := rfl
theorem Zmp (i : Nat) (u : FS) (δ : Zj) : Zev i u δ = onT δ[i]? fun t => u (δ.set i (some (.fz t.data))) := rfl
noncomputable def onN (o : Option (Option OT)) (k : List OT → RS) : RS := match o with | some (some (.nd ts)) => k ts | _ => .bad
theorem Zso (t : List OT) (k : List OT → RS) : onN (some (some (.nd t))) k = k t := rfl
theorem Zgv (i : Nat) (e : FE) (δ : Zj) : Zbd i e δ = onN δ[i]? fun _ => onO (e δ) fun r δ1 => onN δ1[i]? fun ts => if ts.length < sizeLine then .nx (δ1.set i (some (.nd (ts ++ [.fz r.data])))) else .bad := by
  unfold Zbd
  generalize δ[i]? = o
  rcases o with _ | _ | (_ | _ | _ | _)
  · rfl
  · rfl
  · rfl
  · show wE e _ δ = onO (e δ) _
    rw [Zdm]
    congr 1
  · rfl
  · rfl
theorem Zw3 (i : Nat) (e : FE) (δ : Zj) : Zl5 i e δ = onN δ[i]? fun _ => onO (e δ) fun r δ1 => onN δ1[i]? fun ts => if ts.length < sizeLine then .nx (δ1.set i (some (.nd (ts ++ [r])))) else .bad := by
  unfold Zl5
  generalize δ[i]? = o
  rcases o with _ | _ | (_ | _ | _ | _)
  · rfl
  · rfl
  · rfl
  · show wE e _ δ = onO (e δ) _
    rw [Zdm]
    congr 1
  · rfl
  · rfl
noncomputable def onI (d : PyData) (k : Int → RS) : RS := match d with | .int i => k i | _ => .bad
theorem Z7g (i : Int) (k : Int → RS) : onI (.int i) k = k i := rfl
noncomputable def onX (o : Option Nat) (k : Nat → RS) : RS := match o with | some i => k i | _ => .bad
theorem Z6s (i : Nat) (k : Nat → RS) : onX (some i) k = k i := rfl
theorem Z2y (i : Nat) (e j : FE) (δ : Zj) : Z5p i e j δ = onO (e δ) fun r δ1 => onN δ1[i]? fun ts => onO (j δ1) fun n _ => onI n.data fun k => onX (ixN ts.length k) fun j => .nx (δ1.set i (some (.nd (ts.set j (.fz r.data))))) := by
  unfold Z5p
  rw [Zdm]
  congr 1
  funext r δ1
  generalize δ1[i]? = o
  rcases o with _ | _ | (_ | _ | _ | _)
  · rfl
  · rfl
  · rfl
  · show wE j _ δ1 = onO (j δ1) _
    rw [Zdm]
    congr 1
    funext n δ2
    generalize n.data = d
    cases d <;> try rfl
    show (match ixN _ _ with | some j => _ | none => _) = onX (ixN _ _) _
    generalize ixN _ _ = x
    cases x <;> rfl
  · rfl
  · rfl
noncomputable def onU (o : Option OT) (k : List OT → RS) : RS := match o with | some (.nd ts) => k ts | _ => .bad
theorem Z7q (t : List OT) (k : List OT → RS) : onU (some (.nd t)) k = k t := rfl
noncomputable def onP (o : Option (Option OT)) (k : List OT → RS) : RS := match o with | some (some (.tp ts)) => k ts | _ => .bad
theorem Z68 (t : List OT) (k : List OT → RS) : onP (some (some (.tp t))) k = k t := rfl
theorem Zza (i c : Nat) (e : FE) (δ : Zj) : Zto i c e δ = onP δ[i]? fun ts => onU ts[c]? fun us => onO (e δ) fun r _ => if us.length < sizeLine then .nx (δ.set i (some (.tp (ts.set c (.nd (us ++ [.fz r.data])))))) else .bad := by
  unfold Zto
  generalize δ[i]? = o
  rcases o with _ | _ | (_ | _ | ts | _)
  · rfl
  · rfl
  · rfl
  · rfl
  · show (match ts[c]? with | some (.nd us) => wE e _ δ | _ => _) = onU ts[c]? _
    generalize ts[c]? = o
    rcases o with _ | (_ | _ | _ | _)
    · rfl
    · rfl
    · show wE e _ δ = onO (e δ) _
      rw [Zdm]
    · rfl
    · rfl
  · rfl
noncomputable def on2 (ds : List PyData) (k : PyData → PyData → RS) : RS := match ds with | [d, e] => k d e | _ => .bad
theorem Z73 (d e : PyData) (k : PyData → PyData → RS) : on2 [d, e] k = k d e := rfl
theorem Z3i (i j : Nat) (a : FA) (δ : Zj) : Z5a i j a δ = onO (a δ) fun rs δ1 => on2 (OT.datas rs) fun d e => .nx ((δ1.set i (some (.fz d))).set j (some (.fz e))) := by
  unfold Z5a onO on2
  cases a δ <;> rfl
theorem Zkx {np n : Nat} {S : FS} {ds : List PyData} (h : ds.length = np) : Zci np n S ds = (S (Zfq n ds)).told := by
  unfold Zci; rw [if_pos h]
theorem Zvr (δ : Zj) : (RS.nx δ).told = .ok (.fz .none) := rfl
theorem Zoa (r : OT) (δ : Zj) : (RS.rt r δ).told = .ok r := rfl
theorem Z2e (c : Str) (δ : Zj) : (RS.ex c δ).told = .exn c := rfl
theorem Z6a (i j : Int) : Zcj (.int i) (.int j) = some (.int (i + j)) := rfl
theorem Z79 (i j : Int) : gSb (.int i) (.int j) = some (.int (i - j)) := rfl
theorem Z6w (i j : Int) : gLt (.int i) (.int j) = some (.bool (decide (i < j))) := rfl
theorem Z6y (i j : Int) : gLe (.int i) (.int j) = some (.bool (decide (i ≤ j))) := rfl
theorem Z33 (i j : Int) : gGt (.int i) (.int j) = some (.bool (decide (j < i))) := rfl
theorem Z4i (i j : Int) : gGe (.int i) (.int j) = some (.bool (decide (j ≤ i))) := rfl
theorem Zf2 {i j : Int} (h : Zvm i j = true) : Zc7 (.int i) (.int j) = some (.int (i * j)) := by
  unfold Zc7 i2c; dsimp only; rw [if_pos h]
theorem Zb6 {i j : Int} (h : Z0t i j = true) : J0 (.int i) (.int j) = some (.int (i.fdiv j)) := by
  unfold J0 i2c; dsimp only; rw [if_pos h]
theorem Zl1 {i j : Int} (h : j ≠ 0) : Zd0 (.int i) (.int j) = some (.int (i.fmod j)) := by
  unfold Zd0 i2c Z5c; dsimp only; rw [if_pos (decide_eq_true h)]
theorem Zic {m n : Nat} {x y : Int} (h : Bt m x) (k : Bt n y) (hmn : m + n ≤ 100000000 := by decide) : Zvm x y = true := Zfn.mpr (h.mulOk k hmn)
theorem Ztl {x y : Int} (h : x.natAbs < 2 ^ 64) : Zvm x y = true := Zfn.mpr (.of_left (intBits_le_64 (by omega) (by omega)))
theorem Zxh {x y : Int} (h : y.natAbs < 2 ^ 64) : Zvm x y = true := Zfn.mpr (.of_right (intBits_le_64 (by omega) (by omega)))
theorem Zb2 {n : Nat} {i j : Int} (h0 : j ≠ 0) (h : Bt n j) (hn : n ≤ 9000 := by decide) : Z0t i j = true := by
  obtain ⟨h1, h2⟩ := DivOk.of (i := i) h0 h hn
  unfold Z0t
  rw [decide_eq_true h1, decide_eq_true h2]; rfl
theorem Z3d (i j : Int) : gEq (.int i) (.int j) = some (.bool (decide (i = j))) := by
  show some (PyData.bool (i == j)) = _
  rw [show (i == j) = decide (i = j) from rfl]
theorem Z3h (i j : Int) : gNe (.int i) (.int j) = some (.bool (!decide (i = j))) := by
  show some (PyData.bool (!(i == j))) = _
  rw [show (i == j) = decide (i = j) from rfl]
theorem Zy0 (d : PyData) : gIs d .none = some (.bool (Zdr d)) := rfl
theorem Z1p (d : PyData) : Z1e d .none = some (.bool (!Zdr d)) := rfl
theorem Zjz (ds : List PyData) (i : Int) : gIx (.list ds) (.int i) = (atI ds i).bind fun x => some (.fz x) := rfl
theorem Z7w (ds : List PyData) (i : Int) : gIx (.tuple ds) (.int i) = (atI ds i).bind fun x => some (.fz x) := rfl
theorem Znl (ds : List PyData) : Ze1 [.list ds] = some (.int ds.length) := rfl
theorem Z6m (ds : List PyData) : Ze1 [.tuple ds] = some (.int ds.length) := rfl
theorem Zpw (i : Int) : Zxd [.int i] = some (.int (i.natAbs : Int)) := by
  show some (PyData.int (if i < 0 then -i else i)) = _
  congr 2; split <;> omega
theorem Z41 (i j : Int) : Z6u [.int i, .int j] = some (.int (if j > i then j else i)) := rfl
theorem Z58 (i j : Int) : Z7i [.int i, .int j] = some (.int (if j < i then j else i)) := rfl
theorem Z57 (i : Int) : Zw9 [.int i] = some (.int i) := rfl
theorem Z6f (b : Bool) : Zw9 [.bool b] = some (.int (if b then 1 else 0)) := rfl
theorem Z3j (ds : List PyData) : Z0r [.list ds] = some (.nd (ds.map OT.fz)) := rfl
theorem Z4a (ds : List PyData) : Z0r [.tuple ds] = some (.nd (ds.map OT.fz)) := rfl
theorem Zxi {ds es : List PyData} (h : ds.length + es.length ≤ sizeLine) : Zqw (.list ds) (.list es) = some (.nd ((ds ++ es).map OT.fz)) := by
  unfold Zqw; dsimp only; rw [if_pos h]
theorem Z1g (i : Int) : Zs4 (.int i) = some (.int (-i)) := rfl
theorem Z49 (b : Bool) : Z4m (.bool b) = some (.bool (!b)) := rfl
theorem Z4t (b : Bool) : Zrx (.bool b) = some b := rfl
theorem Z45 (i : Int) : Zrx (.int i) = some (i != 0) := rfl
theorem Z6r : Zrx .none = some false := rfl
theorem Z6h (ds : List PyData) : Zrx (.list ds) = some (!ds.isEmpty) := rfl
theorem Zlv {gg : FG} {u : FS} {ds : List PyData} {δ : Zj} (I : Nat → Zj → Prop) (h0 : I 0 δ)
    (turn : ∀ (i : Nat) (d : PyData) (δ : Zj), ds[i]? = some d → I i δ → ∃ δ1 δ2, gg d δ = some δ1 ∧ (u δ1 = .nx δ2 ∨ u δ1 = .ct δ2) ∧ I (i + 1) δ2) : ∃ δ', forLoop gg u ds δ = .nx δ' ∧ I ds.length δ' := by
  induction ds generalizing δ I with
  | nil => exact ⟨δ, rfl, h0⟩
  | cons d ds ih =>
    obtain ⟨δ1, δ2, e1, e2, h1⟩ := turn 0 d δ rfl h0
    obtain ⟨δ', e3, h3⟩ := ih (δ := δ2) (fun i δ => I (i + 1) δ) h1 fun i d' δ hd hi => turn (i + 1) d' δ (by simpa using hd) hi
    refine ⟨δ', ?_, h3⟩
    rw [Zco, e1]
    dsimp only
    rcases e2 with e2 | e2 <;> rw [e2] <;> exact e3
noncomputable def Goes (r : RS) (Q : Zj → Prop) : Prop := ∃ δ, (r = .nx δ ∨ r = .ct δ) ∧ Q δ
theorem Goes.nx {δ : Zj} {Q : Zj → Prop} (h : Q δ) : Goes (.nx δ) Q := ⟨δ, .inl rfl, h⟩
theorem Goes.ct {δ : Zj} {Q : Zj → Prop} (h : Q δ) : Goes (.ct δ) Q := ⟨δ, .inr rfl, h⟩
theorem Zp6 {α : Type} {me : FE} {cs : Zj} (mk : α → PyData) (f : α → OT) : ∀ (xs : List α) (z : Option OT), (∀ x ∈ xs, me (some (.fz (mk x)) :: cs) = some (f x, some (.fz (mk x)) :: cs)) →
    ∃ z', compLoop (gNm 0) Zge me (xs.map mk) (z :: cs) = some (xs.map f, z' :: cs)
  | [], z, _ => ⟨z, rfl⟩
  | x :: xs, z, h => by
    obtain ⟨z', e⟩ := Zp6 mk f xs (some (.fz (mk x))) fun y hy => h y (.tail _ hy)
    refine ⟨z', ?_⟩
    rw [List.map_cons, compLoop]
    show (some (some (OT.fz (mk x)) :: cs)).bind _ = _
    rw [Option.bind_some]
    show (some (true, some (OT.fz (mk x)) :: cs)).bind _ = _
    rw [Option.bind_some, if_pos rfl, h x (.head _), Option.bind_some, e]; rfl
theorem Zlj {α : Type} {caps : List Nat} {it : FI} {me : FE} {cs δ δ1 : Zj} (xs : List α) (mk : α → PyData) (f : α → OT) (hi : it δ = some (xs.map mk, δ1)) (hz : xs.length ≤ sizeLine) (hb : blk 1 caps δ1 = none :: cs)
    (h : ∀ x ∈ xs, me (some (.fz (mk x)) :: cs) = some (f x, some (.fz (mk x)) :: cs)) : Zak 1 caps it (gNm 0) Zge me δ = some (.nd (xs.map f), δ1) := by
  unfold Zak
  rw [hi, Option.bind_some]
  dsimp only
  rw [if_pos (by rw [List.length_map]; exact hz), hb]
  obtain ⟨z', e⟩ := Zp6 (me := me) (cs := cs) mk f xs none h
  rw [e]; rfl
theorem Z6t : (2 ≤ sizeLine) = True := by simp [sizeLine_eq]
theorem Z7k : (1 ≤ sizeLine) = True := by simp [sizeLine_eq]
theorem Z7s : (0 ≤ sizeLine) = True := by simp
theorem Z30 : (3 ≤ sizeLine) = True := by simp [sizeLine_eq]
theorem Zmh {α : Type} (f : α → PyData) (xs : List α) : (xs.map fun x => OT.fz (f x)).map OT.data = xs.map f := by
  rw [List.map_map]; exact List.map_congr_left fun x _ => OT.data_fz _
theorem Zv7 {α : Type} {j : Int} {x : α} (h0 : 0 ≤ j) (h1 : j ≤ 1000000) : (if rOk j = true then some x else none) = some x := if_pos (Zg2 (by omega) h1)
theorem Zu7 {α : Type} {i j : Int} {x : α} (h0 : 0 ≤ i) (h1 : i ≤ 1000000) (h2 : 0 ≤ j) (h3 : j ≤ 1000000) : (if (rOk i && rOk j) = true then some x else none) = some x := if_pos (by rw [Zg2 (by omega) h1, Zg2 (by omega) h3]; rfl)
theorem Ztx {r : RS} {k : Nat} (h : k ≤ 1000000) : (if k < sizeLine then r else .bad) = r := if_pos (by rw [sizeLine_eq]; omega)
end L2
namespace L2
open PySem PySem.Spec PyProof.Rows
noncomputable def EvV (e : FE) (δ : Zj) (d : PyData) : Prop := ∃ t, e δ = some (t, δ) ∧ t.data = d
noncomputable def EvA (a : FA) (δ : Zj) (ds : List PyData) : Prop := ∃ ts, a δ = some (ts, δ) ∧ OT.datas ts = ds
noncomputable def EvT (t : FT) (δ : Zj) (b : Bool) : Prop := t δ = some (b, δ)
noncomputable def Told (F : FD) (ds : List PyData) (d : PyData) : Prop := ∃ t, F ds = .ok t ∧ t.data = d
section
variable {e a b : FE} {as : FA} {δ δ' : Zj} {x y d : PyData} {xs ds : List PyData} {i j : Nat} {p q : Bool} {t u : FT} {S S' : FS} {r : RS}
theorem EvV.cast {e : FE} {δ : Zj} {x y : PyData} (h : EvV e δ x) (k : x = y) : EvV e δ y := k ▸ h
theorem Zc (h : δ[i]? = some (some (.fz d)) := by rfl) : EvV (Zg i) δ d := ⟨_, by rw [Zku, h, Zks], OT.data_fz _⟩
theorem Zjd {t : OT} (h : δ[i]? = some (some t)) (hd : t.data = d) : EvV (Zmf i) δ d := ⟨_, by rw [Zu5, h, Zt7], by rw [OT.data_fz, hd]⟩
theorem Yo : EvV (fC d) δ d := ⟨_, rfl, OT.data_fz _⟩
theorem Zw {g : PyData → PyData → Option PyData} (ha : EvV a δ x) (hb : EvV b δ y) (h : g x y = some d) : EvV (Zk g a b) δ d := by
  obtain ⟨_, e1, d1⟩ := ha
  obtain ⟨_, e2, d2⟩ := hb
  exact ⟨_, by rw [Zq6, e1, Option.bind_some, e2, Option.bind_some, d1, d2, h, Option.bind_some], OT.data_fz _⟩
theorem Znu {g : PyData → PyData → Option OT} {o : OT} (ha : EvV a δ x) (hb : EvV b δ y) (h : g x y = some o) (hd : o.data = d) : EvV (W5 g a b) δ d := by
  obtain ⟨_, e1, d1⟩ := ha
  obtain ⟨_, e2, d2⟩ := hb
  exact ⟨_, by rw [Zwt, e1, Option.bind_some, e2, Option.bind_some, d1, d2, h, Option.bind_some], hd⟩
theorem Zal (ha : EvV a δ x) (hb : EvV b δ y) (h : gIx x y = some (.fz d)) : EvV (W5 gIx a b) δ d := Znu ha hb h (OT.data_fz _)
theorem Ww {i j : Int} (ha : EvV a δ (.int i)) (hb : EvV b δ (.int j)) : EvV (Zk Zcj a b) δ (.int (i + j)) := Zw ha hb rfl
theorem Zit {i j : Int} (ha : EvV a δ (.int i)) (hb : EvV b δ (.int j)) : EvV (Zk gSb a b) δ (.int (i - j)) := Zw ha hb rfl
theorem Z3l {g : PyData → Option PyData} (ha : EvV a δ x) (h : g x = some d) : EvV (fUn g a) δ d := by
  obtain ⟨_, e1, d1⟩ := ha
  exact ⟨_, by rw [Zz7, e1, Option.bind_some, d1, h, Option.bind_some], OT.data_fz _⟩
theorem Zsh (ha : EvV a δ (.bool true)) (hb : EvV b δ d) : EvV (Zvk a b) δ d := by
  obtain ⟨_, e1, d1⟩ := ha
  obtain ⟨_, e2, d2⟩ := hb
  exact ⟨_, by rw [Zn9, e1, Option.bind_some, d1, Z3m, e2], d2⟩
theorem Zrr (ha : EvV a δ (.bool false)) : EvV (Zvk a b) δ (.bool false) := by
  obtain ⟨_, e1, d1⟩ := ha
  exact ⟨_, by rw [Zn9, e1, Option.bind_some, d1, Z2l], OT.data_fz _⟩
theorem Z02 {T : String} (ha : EvV a δ x) (hf : Zgp x = false := by rfl) : EvV (Zt2 T a) δ (.bool (Zne T x)) := by
  obtain ⟨_, e1, d1⟩ := ha
  exact ⟨_, by rw [Zv8, e1, Option.bind_some, d1, if_neg (by rw [hf]; decide)], OT.data_fz _⟩
theorem Zt : EvA Yk δ [] := ⟨_, rfl, Zea⟩
theorem Zd (h : EvV e δ d) (k : EvA as δ ds) : EvA (Zh e as) δ (d :: ds) := by
  obtain ⟨_, e1, d1⟩ := h
  obtain ⟨_, e2, d2⟩ := k
  exact ⟨_, by rw [Zle, e1, Option.bind_some, e2, Option.bind_some], by rw [Zc6, d1, d2]⟩
theorem Z9 {F : FD} (h : EvA as δ ds) (k : Told F ds d) : EvV (Wa F as) δ d := by
  obtain ⟨_, e1, d1⟩ := h
  obtain ⟨_, e2, d2⟩ := k
  exact ⟨_, by rw [Zsp, e1, Option.bind_some, d1, e2, Zyi], d2⟩
theorem Zdf {g : List PyData → Option PyData} (h : EvA as δ ds) (k : g ds = some d) : EvV (Ze5 g as) δ d := by
  obtain ⟨_, e1, d1⟩ := h
  exact ⟨_, by rw [Zut, e1, Option.bind_some, d1, k, Option.bind_some], OT.data_fz _⟩
theorem Z2t {g : List PyData → Option OT} {o : OT} (h : EvA as δ ds) (k : g ds = some o) (hd : o.data = d) : EvV (fBl g as) δ d := by
  obtain ⟨_, e1, d1⟩ := h
  exact ⟨_, by rw [Zz1, e1, Option.bind_some, d1, k, Option.bind_some], hd⟩
theorem Zeg : ∀ ts : List OT, (OT.datas ts).length = ts.length
  | [] => by rw [Zea]; rfl
  | t :: ts => by rw [Zc6, List.length_cons, List.length_cons, Zeg ts]
theorem datas_map : ∀ ts : List OT, OT.datas ts = ts.map OT.data
  | [] => Zea
  | t :: ts => by rw [Zc6, List.map_cons, datas_map ts]
theorem Ze0 (h : EvA as δ ds) (hl : ds.length ≤ 1000) : EvV (Zg8 as) δ (.tuple ds) := by
  obtain ⟨ts, e1, d1⟩ := h
  have := Zeg ts
  rw [d1] at this
  exact ⟨_, by rw [Zwp, e1, Option.bind_some, if_pos (by rw [sizeLine_eq]; show ts.length ≤ _; omega)], by rw [OT.data_fz]; exact congrArg _ d1⟩
theorem Zos (h : EvA as δ ds) (hl : ds.length ≤ 1000) : EvV (Zp1 as) δ (.list ds) := by
  obtain ⟨ts, e1, d1⟩ := h
  have := Zeg ts
  rw [d1] at this
  exact ⟨_, by rw [Zqf, e1, Option.bind_some, if_pos (by rw [sizeLine_eq]; show ts.length ≤ _; omega)], by rw [OT.data_nd, ← datas_map, d1]⟩
theorem Zjq {o : OT} {b : Bool} (h : o.data = .bool b) : o = .fz (.bool b) := by
  cases o with
  | fz d => rw [OT.data_fz] at h; rw [h]
  | nd ts => rw [OT.data_nd] at h; cases h
  | tp ts => rw [OT.data_tp] at h; cases h
  | dc _ _ _ => rw [OT.data_dc] at h; cases h
theorem Ze4 (h : EvV e δ (.bool p)) : EvT (tV e) δ p := by
  obtain ⟨_, e1, d1⟩ := h
  unfold EvT
  rw [Z2a, e1, Option.bind_some, Zjq d1, Zx8]
theorem Z67 (h : EvV e δ d) (k : Zrx d = some p) : EvT (tD e) δ p := by
  obtain ⟨_, e1, d1⟩ := h
  unfold EvT
  rw [Z4h, e1, Option.bind_some, d1, k, Option.bind_some]
theorem Zmo (h : EvV e δ (.bool p)) : EvT (tD e) δ p := Z67 h rfl
theorem Zke (h : EvT t δ p) : EvT (tNo t) δ (!p) := by
  unfold EvT at h ⊢
  rw [Zxm, h, Option.bind_some]
theorem Z27 (h : EvT t δ true) (k : EvT u δ p) : EvT (tAn t u) δ p := by
  unfold EvT at h k ⊢
  rw [Zyu, h, Option.bind_some, if_pos rfl, k]
theorem Zw8 (h : EvT t δ false) (k : EvT u δ p) : EvT (tO t u) δ p := by
  unfold EvT at h k ⊢
  rw [Zxf, h, Option.bind_some, if_neg Bool.false_ne_true, k]
theorem Z0a (h : EvT t δ true) : EvT (tO t u) δ true := by
  unfold EvT at h ⊢
  rw [Zxf, h, Option.bind_some, if_pos rfl]
theorem W3 (h : S δ = .nx δ') (k : S' δ' = r) : Yu S S' δ = r := by rw [Zqm, h, Zyb, k]
theorem Zoy {o : OT} (h : S δ = .rt o δ') : Yu S S' δ = .rt o δ' := by rw [Zqm, h, Zyr]
theorem Zz (h : EvV e δ d) : wE e (Jj i) δ = .nx (δ.set i (some (.fz d))) := by
  obtain ⟨_, e1, d1⟩ := h
  rw [Zdm, e1, Yx, Zvf, d1]
theorem Z0g (h : EvV e δ d) : ∃ o, wE e Zce δ = .rt o δ ∧ o.data = d := by
  obtain ⟨_, e1, d1⟩ := h
  exact ⟨_, by rw [Zdm, e1, Yx, Zpg], d1⟩
theorem Zeu (h : EvT t δ true) (k : S δ = r) : Zde t S S' δ = r := by
  unfold EvT at h
  rw [Zpr, h, Yx, if_pos rfl, k]
theorem W7 (h : EvT t δ false) (k : S' δ = r) : Zde t S S' δ = r := by
  unfold EvT at h
  rw [Zpr, h, Yx, if_neg (by decide), k]
theorem Z2m {F : FD} {k : OT → Zj → RS} (h : EvA as δ ds) (hF : Told F ds d) (hk : ∀ o, o.data = d → k o δ = r) : wX F as k δ = r := by
  obtain ⟨_, e1, d1⟩ := h
  obtain ⟨o, e2, d2⟩ := hF
  rw [Zuz, e1, Yx, d1, e2, Zp3, hk o d2]
noncomputable def Zkf (S : FS) (δ : Zj) (d : PyData) : Prop := ∃ o δ', S δ = .rt o δ' ∧ o.data = d
theorem Z5 (h : S δ = .nx δ') (k : Zkf S' δ' d) : Zkf (Yu S S') δ d := by
  obtain ⟨o, δ2, e, hd⟩ := k
  exact ⟨o, δ2, W3 h e, hd⟩
theorem Zfj (k : Zkf S δ d) : Zkf (Yu S S') δ d := by
  obtain ⟨o, δ2, e, hd⟩ := k
  exact ⟨o, δ2, Zoy e, hd⟩
theorem Jr (h : EvV e δ d) : Zkf (wE e Zce) δ d := by
  obtain ⟨o, e1, hd⟩ := Z0g h
  exact ⟨o, δ, e1, hd⟩
theorem Zh4 (h : EvT t δ true) (k : Zkf S δ d) : Zkf (Zde t S S') δ d := by
  obtain ⟨o, δ2, e, hd⟩ := k
  exact ⟨o, δ2, Zeu h e, hd⟩
theorem Y7 {np n : Nat} (hl : xs.length = np) (k : Zkf S (Zfq n xs) d) : Told (Zci np n S) xs d := by
  obtain ⟨o, δ2, e, hd⟩ := k
  exact ⟨o, by rw [Zkx hl, e, Zoa], hd⟩
noncomputable def EvO (o : FO) (δ : Zj) (l : Option Int) : Prop := o δ = some (l, δ)
theorem Z3g : EvO oN δ none := rfl
theorem Zw0 {i : Int} (h : EvV e δ (.int i)) : EvO (oI e) δ (some i) := by
  obtain ⟨_, e1, d1⟩ := h
  unfold EvO
  rw [Z2d, e1, Option.bind_some, d1, Zqg]
theorem Z22 {lo hi : FO} {l h : Option Int} (he : EvV e δ (.list ds)) (hl : EvO lo δ l) (hh : EvO hi δ h) : EvV (fSl e lo hi) δ (.list (cutD ds l h)) := by
  obtain ⟨_, e1, d1⟩ := he
  unfold EvO at hl hh
  exact ⟨_, by rw [Zzm, e1, Option.bind_some, hl, Option.bind_some, hh, Option.bind_some, d1, Zns], by rw [OT.data_nd, OT.map_fz]⟩
theorem Ztn {es : List PyData} (ha : EvV a δ (.list ds)) (hb : EvV b δ (.list es)) (h : ds.length + es.length ≤ 1000000) : EvV (W5 Zqw a b) δ (.list (ds ++ es)) :=
  Znu ha hb (Zxi (by rw [sizeLine_eq]; omega)) (by rw [OT.data_nd, OT.map_fz])
noncomputable def EvI (it : FI) (δ : Zj) (ds : List PyData) : Prop := it δ = some (ds, δ)
theorem Zee (h : EvV e δ (.list ds)) : EvI (Zgo e) δ ds := by
  obtain ⟨_, e1, d1⟩ := h
  unfold EvI
  rw [Zup, e1, Option.bind_some, d1, Zns]
theorem Zgi {n : Nat} (h : EvA as δ [.int n]) (hn : n ≤ 1000000) : EvI (iRa as) δ (Zda 0 n) := by
  obtain ⟨_, e1, d1⟩ := h
  unfold EvI
  rw [Z0o, e1, Option.bind_some, d1, Zt9, Zv7 (by omega) (by omega), Int.toNat_natCast]
theorem Zmc {it : FI} {g : FG} (h : EvI it δ ds) (k : forLoop g S ds δ = r) : Ze8 it g S δ = r := by
  unfold EvI at h
  rw [Zv9, h, Yx, k]
theorem Zdy {α : Type} {caps : List Nat} {it : FI} {me : FE} {cs : Zj} (xs : List α) (mk f : α → PyData) (hi : EvI it δ (xs.map mk)) (hz : xs.length ≤ 1000000) (hb : blk 1 caps δ = none :: cs) (h : ∀ x ∈ xs, EvV me (some (.fz (mk x)) :: cs) (f x)) : EvV (Zak 1 caps it (gNm 0) Zge me) δ (.list (xs.map f)) := by
  have g : ∀ x, ∃ o : OT, x ∈ xs → me (some (.fz (mk x)) :: cs) = some (o, some (.fz (mk x)) :: cs) ∧ o.data = f x := fun x => by
    by_cases c : x ∈ xs
    · obtain ⟨o, h1, h2⟩ := h x c
      exact ⟨o, fun _ => ⟨h1, h2⟩⟩
    · exact ⟨.fz .none, fun z => absurd z c⟩
  obtain ⟨o, ho⟩ := Classical.axiomOfChoice g
  unfold EvI at hi
  refine ⟨_, Zlj (cs := cs) xs mk o hi (by rw [sizeLine_eq]; omega) hb (fun x hx => (ho x hx).1), ?_⟩
  rw [OT.data_nd, List.map_map]
  exact congrArg _ (List.map_congr_left fun x hx => (ho x hx).2)
theorem Zzk {ts : List OT} (h : EvV e δ d) (hi : δ[i]? = some (some (.nd ts))) (hl : ts.length ≤ 1000000) : Zbd i e δ = .nx (δ.set i (some (.nd (ts ++ [.fz d])))) := by
  obtain ⟨_, e1, d1⟩ := h
  rw [Zgv, hi, Zso, e1, Yx, hi, Zso, Ztx hl, d1]
theorem Zhp {o : OT} (h : e δ = some (o, δ)) : wE e (Zdl i) δ = .nx (δ.set i (some o)) := by rw [Zdm, h, Yx, Zrz]
theorem Z4q {o : OT} (h : δ[i]? = some (some o)) (hd : o.data = d) : Zkf (Zfa i) δ d := ⟨o, _, by rw [Zro, h, Zxx], hd⟩
theorem Zp8 {o : OT} (h : δ[i]? = some (some o)) (k : S (δ.set i (some (.fz o.data))) = r) : Zev i S δ = r := by rw [Zmp, h, Zxx, k]
theorem Ziu {np n : Nat} (hl : xs.length = np) (k : S (Zfq n xs) = .nx δ') : Told (Zci np n S) xs .none := ⟨_, by rw [Zkx hl, k, Zvr], OT.data_fz _⟩
theorem Told.ok {F : FD} {b : Bool} (h : Told F ds (.bool b)) : F ds = .ok (.fz (.bool b)) := by
  obtain ⟨o, e1, d1⟩ := h
  rw [e1, Zjq d1]
theorem Zlb {o : OT} {i : Int} (h : o.data = .int i) : o = .fz (.int i) := by
  cases o with
  | fz d => rw [OT.data_fz] at h; rw [h]
  | nd ts => rw [OT.data_nd] at h; cases h
  | tp ts => rw [OT.data_tp] at h; cases h
  | dc _ _ _ => rw [OT.data_dc] at h; cases h
theorem Told.int {F : FD} {i : Int} (h : Told F ds (.int i)) : F ds = .ok (.fz (.int i)) := by
  obtain ⟨o, e1, d1⟩ := h
  rw [e1, Zlb d1]
theorem Zoe {o : OT} (h : o.data = .none) : o = .fz .none := by
  cases o with
  | fz d => rw [OT.data_fz] at h; rw [h]
  | nd ts => rw [OT.data_nd] at h; cases h
  | tp ts => rw [OT.data_tp] at h; cases h
  | dc _ _ _ => rw [OT.data_dc] at h; cases h
theorem Told.of {F : FD} {o : OT} (h : F ds = .ok o) (hd : o.data = d) : Told F ds d := ⟨o, h, hd⟩
end
end L2
namespace L2
open PySem PySem.Spec PyProof.Rows
section
variable {e a b : FE} {as : FA} {δ δ' : Zj} {x y d : PyData} {xs ds : List PyData} {i j : Int} {k : Nat} {p q : Bool} {t u : FT} {S S' : FS} {r : RS} {Q : PyData → Prop}
theorem Zaj (ha : EvV a δ (.int i)) (hb : EvV b δ (.int j)) (h : j ≠ 0) : EvV (Zk Zd0 a b) δ (.int (i.fmod j)) := Zw ha hb (Zl1 h)
theorem Zz0 {i j : Int} (h : (decide (0 < j) && decide (j < 18446744073709551616)) = true) : J0 (.int i) (.int j) = some (.int (i.fdiv j)) := by
  rw [Bool.and_eq_true, decide_eq_true_eq, decide_eq_true_eq] at h
  exact Zb6 (Zb2 (n := 64) (by omega) (Bt.of_lt (by omega) (by omega)))
theorem Zdo (ha : EvV a δ (.int i)) (hb : EvV b δ (.int j)) (h : (decide (0 < j) && decide (j < 18446744073709551616)) = true := by decide) : EvV (Zk J0 a b) δ (.int (i.fdiv j)) := Zw ha hb (Zz0 h)
theorem Zba (ha : EvV a δ (.int i)) (hb : EvV b δ (.int j)) (h : i.natAbs < 2 ^ 64 := by decide) : EvV (Zk Zc7 a b) δ (.int (i * j)) := Zw ha hb (Zf2 (Ztl h))
theorem Zpi (ha : EvV a δ (.int i)) (hb : EvV b δ (.int j)) (h : j.natAbs < 2 ^ 64 := by decide) : EvV (Zk Zc7 a b) δ (.int (i * j)) := Zw ha hb (Zf2 (Zxh h))
theorem Zgt (ha : EvV a δ (.int i)) (hb : EvV b δ (.int j)) (h : decide (i < j) = p) : EvV (Zk gLt a b) δ (.bool p) := h ▸ Zw ha hb rfl
theorem Zwl (ha : EvV a δ (.int i)) (hb : EvV b δ (.int j)) (h : decide (j < i) = p) : EvV (Zk gGt a b) δ (.bool p) := h ▸ Zw ha hb (Z33 _ _)
theorem Zxr (ha : EvV a δ (.int i)) (hb : EvV b δ (.int j)) (h : decide (j ≤ i) = p) : EvV (Zk gGe a b) δ (.bool p) := h ▸ Zw ha hb (Z4i _ _)
theorem Zox (ha : EvV a δ (.int i)) (hb : EvV b δ (.int j)) (h : decide (i = j) = p) : EvV (Zk gEq a b) δ (.bool p) := h ▸ Zw ha hb (Z3d _ _)
theorem Zru (ha : EvV a δ (.int i)) (hb : EvV b δ (.int j)) (h : (!decide (i = j)) = p) : EvV (Zk gNe a b) δ (.bool p) := h ▸ Zw ha hb (Z3h _ _)
theorem Zni (ha : EvV a δ (.int i)) : EvV (fUn Zs4 a) δ (.int (-i)) := Z3l ha (Z1g _)
theorem Zsz {ds : List PyData} (h : EvV e δ (.list ds)) : EvV (Ze5 Ze1 (Zh e Yk)) δ (.int ds.length) := Zdf (Zd h Zt) (Znl ds)
theorem Zxu (ha : EvV a δ (.list ds)) (hb : EvV b δ (.int i)) (h : atI ds i = some d) : EvV (W5 gIx a b) δ d := Zal ha hb (by rw [Zjz, h]; rfl)
noncomputable def Zq0 (S : FS) (δ : Zj) (Q : PyData → Prop) : Prop := ∃ d, Zkf S δ d ∧ Q d
theorem Zei (h : S δ = .nx δ') (k : Zq0 S' δ' Q) : Zq0 (Yu S S') δ Q := k.imp fun _ k => ⟨Z5 h k.1, k.2⟩
theorem Zot (h : EvV e δ d) (k : Q d) : Zq0 (wE e Zce) δ Q := ⟨d, Jr h, k⟩
theorem Z4x {o : OT} (h : δ[k]? = some (some o)) (hd : Q o.data) : Zq0 (Zfa k) δ Q := ⟨_, Z4q h rfl, hd⟩
theorem Zpj {np n : Nat} (hl : xs.length = np) (h : Zq0 S (Zfq n xs) Q) : ∃ d, Told (Zci np n S) xs d ∧ Q d := h.imp fun _ k => ⟨Y7 hl k.1, k.2⟩
theorem Zi0 {it : FI} {g : FG} (I : Nat → Zj → Prop) (hi : EvI it δ ds) (h0 : I 0 δ) (turn : ∀ (i : Nat) (d : PyData) (δ : Zj), ds[i]? = some d → I i δ → ∃ δ1 δ2, g d δ = some δ1 ∧ (S δ1 = .nx δ2 ∨ S δ1 = .ct δ2) ∧ I (i + 1) δ2) (k : ∀ δ', I ds.length δ' → Zq0 S' δ' Q) : Zq0 (Yu (Ze8 it g S) S') δ Q := by
  obtain ⟨δ', e, h⟩ := Zlv I h0 turn
  exact Zei (Zmc hi e) (k δ' h)
theorem Zp0 {it : FI} {g : FG} (I : Nat → Zj → Prop) (hi : EvI it δ ds) (h0 : I 0 δ) (turn : ∀ (i : Nat) (d : PyData) (δ : Zj), ds[i]? = some d → I i δ → ∃ δ1 δ2, g d δ = some δ1 ∧ (S δ1 = .nx δ2 ∨ S δ1 = .ct δ2) ∧ I (i + 1) δ2) (k : ∀ δ', I ds.length δ' → Zkf S' δ' d) : Zkf (Yu (Ze8 it g S) S') δ d := by
  obtain ⟨δ', e, h⟩ := Zlv I h0 turn
  exact Z5 (Zmc hi e) (k δ' h)
theorem Znr {it : FI} {g : FG} (I : Nat → Zj → Prop) (hi : EvI it δ ds) (h0 : I 0 δ) (turn : ∀ (i : Nat) (d : PyData) (δ : Zj), ds[i]? = some d → I i δ → ∃ δ1 δ2, g d δ = some δ1 ∧ (S δ1 = .nx δ2 ∨ S δ1 = .ct δ2) ∧ I (i + 1) δ2) : ∃ δ', Ze8 it g S δ = .nx δ' ∧ I ds.length δ' := by
  obtain ⟨δ', e, h⟩ := Zlv I h0 turn
  exact ⟨δ', Zmc hi e, h⟩
theorem Z4b {m n : Nat} (h : EvA as δ [.int m, .int n]) (hm : m ≤ 1000000) (hn : n ≤ 1000000) : EvI (iRb as) δ (Zda m (n - m)) := by
  obtain ⟨_, e1, d1⟩ := h
  unfold EvI
  rw [Zyl, e1, Option.bind_some, d1, Z2k, Zu7 (by omega) (by omega) (by omega) (by omega), show ((n : Int) - (m : Int)).toNat = n - m by omega]
theorem Zqh : wE (Zp1 Yk) (Zdl k) δ = .nx (δ.set k (some (.nd []))) := Zhp (by rw [Zqf]; rfl)
theorem Zcu {i : Int} (h : 0 < j) : 0 ≤ i.fmod j := by rw [Zc4 h]; exact Int.emod_nonneg _ (by omega)
theorem Zck {i : Int} (h : 0 < j) : i.fmod j < j := by rw [Zc4 h]; exact Int.emod_lt_of_pos _ h
theorem Zj7 (i : Int) {n : Nat} (h : 0 < n) : ∃ m : Nat, i.fmod (n : Int) = m ∧ m < n := by
  have h0 := Zcu (i := i) (j := n) (by omega)
  have h1 := Zck (i := i) (j := n) (by omega)
  exact ⟨(i.fmod n).toNat, by omega, by omega⟩
theorem Z4g {n : Int} (h : EvA as δ [.int n]) (h0 : 0 ≤ n) (h1 : n ≤ 1000000) : EvV (Ztq as) δ (.list (Zda 0 n.toNat)) := by
  obtain ⟨_, e1, d1⟩ := h
  exact ⟨_, by rw [Znz, e1, Option.bind_some, d1, Zt9, if_pos ⟨Zg2 (by omega) (by omega), by rw [sizeLine_eq]; omega⟩], by rw [OT.data_nd, OT.map_fz]⟩
theorem Zqj {o : OT} (h : δ[k]? = some (some o)) (g : Zq0 S (δ.set k (some (.fz o.data))) Q) : Zq0 (Zev k S) δ Q := by
  obtain ⟨d, ⟨o', δ2, e, hd⟩, hq⟩ := g
  exact ⟨d, ⟨o', δ2, Zp8 h e, hd⟩, hq⟩
theorem Zu1 {o : OT} {ts ts0 : List OT} (h : e δ = some (o, δ')) (h0 : δ[k]? = some (some (.nd ts0))) (h1 : δ'[k]? = some (some (.nd ts))) (hl : ts.length ≤ 1000000) : Zbd k e δ = .nx (δ'.set k (some (.nd (ts ++ [.fz o.data])))) := by
  rw [Zgv, h0, Zso, h, Yx, h1, Zso, Ztx hl]
theorem Zzj {n : Nat} (hn : n ≤ 1000000) {v : Option OT} : (Zw6 (fC d) (Zg 1)) [v, some (.fz (.int n))] = some (.nd (List.replicate n (.fz d)), [v, some (.fz (.int n))]) := by
  obtain ⟨_, e1, d1⟩ := Zc (δ := [v, some (.fz (.int n))]) (i := 1) (d := .int n)
  rw [Zum, Z3y, Option.bind_some, e1, Option.bind_some, d1, Zqg, if_pos ⟨Zg2 (by omega) (by omega), by rw [sizeLine_eq]; omega⟩, Int.toNat_natCast, OT.data_fz]
theorem Zq9 {δ : Zj} {v : Option OT} (h : δ[k]? = some v) : δ.set k v = δ := by
  obtain ⟨hk, e⟩ := List.getElem?_eq_some_iff.mp h
  rw [← e, List.set_getElem_self]
theorem Zly {it : FI} {g gg : FG} {δ1 : Zj} (I : Nat → Zj → Prop) {J : Zj → Prop} (hg : gg d δ = some δ1) (hi : EvI it δ1 ds) (h0 : I 0 δ1) (turn : ∀ (i : Nat) (d : PyData) (δ : Zj), ds[i]? = some d → I i δ → ∃ δ1 δ2, g d δ = some δ1 ∧ (S δ1 = .nx δ2 ∨ S δ1 = .ct δ2) ∧ I (i + 1) δ2) (hJ : ∀ δ', I ds.length δ' → J δ') : ∃ δ1 δ2, gg d δ = some δ1 ∧ (Ze8 it g S δ1 = .nx δ2 ∨ Ze8 it g S δ1 = .ct δ2) ∧ J δ2 := by
  obtain ⟨δ', e, h⟩ := Zlv I h0 turn
  exact ⟨δ1, δ', hg, .inl (Zmc hi e), hJ δ' h⟩
theorem Zyt {T : String} (ha : EvV a δ x) (h : Zne T x = p) (hf : Zgp x = false := by rfl) : EvV (Zt2 T a) δ (.bool p) := (Z02 ha hf).cast (by rw [h])
theorem Z74 {F : FD} (h : EvA as δ ds) (hF : Told F ds d) : Zkf (wX F as Zce) δ d := by
  obtain ⟨_, e1, d1⟩ := h
  obtain ⟨o, e2, d2⟩ := hF
  exact ⟨o, δ, by rw [Zuz, e1, Yx, d1, e2, Zp3, Zpg], d2⟩
theorem Znx {f g h : Int → Int → Bool} {c d : FE} {m n : Int} (ha : EvV a δ (.int i)) (hb : EvV b δ (.int j)) (hc : EvV c δ (.int m)) (hd : EvV d δ (.int n)) : EvV (Zho f g h a b c d) δ (.bool (f i j && (g j m && h m n))) := by
  obtain ⟨_, e1, d1⟩ := ha
  obtain ⟨_, e2, d2⟩ := hb
  obtain ⟨_, e3, d3⟩ := hc
  obtain ⟨_, e4, d4⟩ := hd
  have io : ∀ i, intOf (.int i) = some i := fun _ => rfl
  unfold EvV Zho
  rw [e1, Option.bind_some, e2, Option.bind_some, d1, io, Option.bind_some, d2, io, Option.bind_some]
  cases f i j with
  | false => exact ⟨_, rfl, OT.data_fz _⟩
  | true =>
    rw [if_pos rfl, e3, Option.bind_some, d3, io, Option.bind_some]
    cases g j m with
    | false => exact ⟨_, rfl, OT.data_fz _⟩
    | true => exact ⟨_, by rw [if_pos rfl, e4, Option.bind_some, d4, io, Option.bind_some]; rfl, OT.data_fz _⟩
theorem Told.none {F : FD} (h : Told F ds .none) : F ds = .ok (.fz .none) := by
  obtain ⟨o, e1, d1⟩ := h
  rw [e1, Zoe d1]
end
end L2
namespace My
open PySem L2 PySem.Spec
noncomputable def J6 : FS :=
  (Yu (wE (Ze5 Zxd (Zh (Zg 0) Yk)) (Jj 0))
    (Yu (wE (Ze5 Zxd (Zh (Zg 1) Yk)) (Jj 1))
    (Yu (Zha (tV (Zk gNe (Zg 1) (fC (.int 0)))) (Yu (wE (Zk Zd0 (Zg 0) (Zg 1)) (Jj 2))
    (Yu (wE (Zg 1) (Jj 0))
    (wE (Zg 2) (Jj 1)))))
    (wE (Zg 0) Zce))))
noncomputable def Yj : FD := Zci 2 3 J6
theorem Zhl {f1 f2 : Int → Int → Option OT → Zj} {t : FT} {u : FS} (ht : ∀ x y z, t (f1 x y z) = some (!decide (y = 0), f1 x y z)) (hu : ∀ x y z, y ≠ 0 → ∃ z', u (f1 x y z) = .nx (f1 y (x.fmod y) z')) :
    ∀ (n : Nat) (x y : Int) (z : Option OT), 0 ≤ x → 0 ≤ y → y.toNat < n → ∃ z', whileLoop t u n (f1 x y z) = .nx (f1 (Int.gcd x y : Int) 0 z')
  | 0, _, _, _, _, _, h => absurd h (Nat.not_lt_zero _)
  | n + 1, x, y, z, hx, hy, h => by
    unfold whileLoop
    rw [ht]
    dsimp only
    by_cases c : y = 0
    · subst c
      refine ⟨z, ?_⟩
      simp only [decide_true, Bool.not_true, Bool.false_eq_true, if_false]
      rw [Int.gcd_zero_right]
      congr 2
      omega
    · simp only [c, decide_false, Bool.not_false, if_true]
      obtain ⟨z1, e1⟩ := hu x y z c
      rw [e1]
      dsimp only
      have hm : x.fmod y = x % y := Zc4 (by omega)
      have h1 : 0 ≤ x % y := Int.emod_nonneg x c
      have h2 : x % y < y := Int.emod_lt_of_pos x (by omega)
      obtain ⟨z2, e2⟩ := Zhl (f1 := f1) (f2 := f2) ht hu n y (x.fmod y) z1 hy (by omega) (by omega)
      exact ⟨z2, by rw [e2, Zr4 hx (by omega)]⟩
theorem Za9 (a b : Int) : Yj [.int a, .int b] = .ok (.fz (.int (Int.gcd a b : Int))) := by
  obtain ⟨z', e⟩ := Zhl (f1 := fun x y z => [some (.fz (.int x)), some (.fz (.int y)), z]) (f2 := fun x y z => []) (t := tV (Zk gNe (Zg 1) (fC (.int 0)))) (u := Yu (wE (Zk Zd0 (Zg 0) (Zg 1)) (Jj 2)) (Yu (wE (Zg 1) (Jj 0)) (wE (Zg 2) (Jj 1)))) (fun x y z => Ze4 (Zru Zc Yo rfl)) (fun x y z hy => ⟨_, W3 (Zz (Zaj Zc Zc hy)) (W3 (Zz Zc) (Zz Zc))⟩) ((b.natAbs : Int).toNat + 1) (a.natAbs : Int) (b.natAbs : Int) none (by omega) (by omega) (by omega)
  rw [Int.gcd_eq_natAbs_gcd_natAbs, Int.natAbs_natCast, Int.natAbs_natCast] at e
  exact Told.int <| Y7 rfl <| Z5 (Zz (Zdf (Zd Zc Zt) (Zpw a))) <| Z5 (Zz (Zdf (Zd Zc Zt) (Zpw b))) <| Z5 (Zj8 _ e (by intro z; cases z)) (Jr Zc)
noncomputable def Zcr : FS :=
  (Yu (wE (Wa Yj (Zh (Zg 0) (Zh (Zg 1) Yk))) (Jj 2))
    (Yu (Zde (tV (Zk gLt (Zg 1) (fC (.int 0))))
    (wE (fUn Zs4 (Zg 2)) (Jj 2))
    fNx)
    (wE (Zg8 (Zh (Zk J0 (Zg 0) (Zg 2)) (Zh (Zk J0 (Zg 1) (Zg 2)) Yk))) Zce)))
noncomputable def Za8 : FD := Zci 2 3 Zcr
theorem Z0m {n : Nat} {t b : Int} (hb : b ≠ 0) (hB : Bt n b) (hn : n ≤ 9000) (s : Int) (e : s = shr t b) : J0 (.int t) (.int s) = some (.int (Rat.divInt t b).num) ∧ J0 (.int b) (.int s) = some (.int ((Rat.divInt t b).den : Int)) := by
  subst e
  rw [Zb6 (Zb2 (Zsy hb) (Ztg hb hB) hn), Zb6 (Zb2 (Zsy hb) (Ztg hb hB) hn), Zwa hb, Zvh hb]
  exact ⟨rfl, rfl⟩
theorem Zkz {n : Nat} {t b : Int} (hb : b ≠ 0) (hB : Bt n b) (hn : n ≤ 9000 := by decide) : Told Za8 [.int t, .int b] (frD (Rat.divInt t b)) := by
  have fin : ∀ {δ : Zj} {s : Int}, s = shr t b → δ[0]? = some (some (.fz (.int t))) → δ[1]? = some (some (.fz (.int b))) → δ[2]? = some (some (.fz (.int s))) → Zkf (wE (Zg8 (Zh (Zk J0 (Zg 0) (Zg 2)) (Zh (Zk J0 (Zg 1) (Zg 2)) Yk))) Zce) δ (frD (Rat.divInt t b)) := fun e h0 h1 h2 => by
    obtain ⟨e1, e2⟩ := Z0m hb hB hn _ e
    exact Jr (Ze0 (Zd (Zw (Zc h0) (Zc h2) e1) (Zd (Zw (Zc h1) (Zc h2) e2) Zt)) (show 2 ≤ 1000 by decide))
  have g : Told Yj [.int t, .int b] _ := .of (Za9 t b) (OT.data_fz _)
  by_cases c : b < 0
  · exact Y7 rfl <| Z5 (Zz (Z9 (Zd Zc (Zd Zc Zt)) g)) <| Z5 (Zeu (Ze4 (Zgt Zc Yo (decide_eq_true c))) (Zz (Zni Zc))) (fin (by unfold shr; rw [if_pos c]) rfl rfl rfl)
  · exact Y7 rfl <| Z5 (Zz (Z9 (Zd Zc (Zd Zc Zt)) g)) <| Z5 (W7 (Ze4 (Zgt Zc Yo (decide_eq_false c))) rfl) (fin (by unfold shr; rw [if_neg c]) rfl rfl rfl)
noncomputable def Zcn : FS :=
  (wE (Zvk (Zt2 "int" (Zg 0)) (fUn Z4m (Zt2 "bool" (Zg 0)))) Zce)
noncomputable def Wh : FD := Zci 1 1 Zcn
theorem Ze7 (i : Int) : Wh [.int i] = .ok (.fz (.bool true)) := rfl
noncomputable def Zbf : FS :=
  (Yu (Zde (tO (tNo (tD (Wa Wh (Zh (Zg 0) Yk)))) (tO (tNo (tD (Wa Wh (Zh (Zg 1) Yk)))) (tV (Zk gEq (Zg 1) (fC (.int 0))))))
    (Zgx "NoNumber")
    fNx)
    (wE (Wa Za8 (Zh (Zg 0) (Zh (Zg 1) Yk))) Zce))
noncomputable def Jy : FD := Zci 2 2 Zbf
theorem Zk6 {n : Nat} {t b : Int} (hb : b ≠ 0) (hB : Bt n b) (hn : n ≤ 9000 := by decide) : Told Jy [.int t, .int b] (frD (Rat.divInt t b)) := by
  have w : ∀ {i : Int}, Told Wh [.int i] (.bool true) := fun {i} => .of (Ze7 i) (OT.data_fz _)
  exact Y7 rfl <| Z5 (W7 (Zw8 (Zke (p := true) (Zmo (Z9 (Zd Zc Zt) w))) (Zw8 (Zke (p := true) (Zmo (Z9 (Zd Zc Zt) w))) (Ze4 (Zox Zc Yo (decide_eq_false hb))))) rfl) (Jr (Z9 (Zd Zc (Zd Zc Zt)) (Zkz hb hB hn)))
noncomputable def Zaq : FS :=
  (Yu (wE (fC (.int 1)) (Jj 1))
    (Yu (Ze8 (Zgo (Zg 0)) (gNm 2)
    (wE (Zk Zc7 (Zk J0 (Zg 1) (Wa Yj (Zh (Zg 1) (Zh (W5 gIx (Zg 2) (fC (.int 1))) Yk)))) (W5 gIx (Zg 2) (fC (.int 1)))) (Jj 1)))
    (wE (Zg 1) Zce)))
noncomputable def Wb : FD := Zci 1 3 Zaq
noncomputable def prD (p : Int × Int) : PyData := .tuple [.int p.1, .int p.2]
theorem Zr1 {a b B : Int} (ha : 0 < a) (hb : 0 < b) (h1 : a ∣ B) (h2 : b ∣ B) (hB : 0 < B) : 0 < a.fdiv (Int.gcd a b) * b ∧ a ∣ a.fdiv (Int.gcd a b) * b ∧ b ∣ a.fdiv (Int.gcd a b) * b ∧ a.fdiv (Int.gcd a b) * b ∣ B := by
  have hg : 0 < (Int.gcd a b : Int) := Zed (by omega)
  have d1 : (Int.gcd a b : Int) ∣ a := Int.gcd_dvd_left ..
  have d2 : (Int.gcd a b : Int) ∣ b := Int.gcd_dvd_right ..
  rw [Wl hg]
  have e : a / (Int.gcd a b : Int) * b = (Int.lcm a b : Int) := by
    have q := Int.gcd_mul_lcm a b
    have h3 : (Int.gcd a b : Int) * (Int.lcm a b : Int) = a * b := by
      rw [← Int.natCast_mul, q, Int.natCast_mul, Int.natAbs_of_nonneg (by omega), Int.natAbs_of_nonneg (by omega)]
    obtain ⟨k, hk⟩ := d1
    have e1 : a / (Int.gcd a b : Int) = k := Int.ediv_eq_of_eq_mul_right (by omega) hk
    rw [e1]
    apply Int.eq_of_mul_eq_mul_left (a := (Int.gcd a b : Int)) (by omega)
    rw [h3, ← Int.mul_assoc, ← hk]
  rw [e]
  refine ⟨?_, Int.dvd_lcm_left .., Int.dvd_lcm_right .., Int.coe_lcm_dvd h1 h2⟩
  have : Int.lcm a b ≠ 0 := by
    rw [Ne, Int.lcm_eq_zero_iff]
    omega
  omega
theorem Ze3 {n : Nat} {a B : Int} (hB : 0 < B) (h : a ∣ B) (b : Bt n B) : Bt n a := by
  refine Bt.of_le b ?_
  have := Int.natAbs_dvd_natAbs.mpr h
  exact Nat.le_of_dvd (by omega) this
theorem Zfe {n : Nat} {B : Int} (hB : 0 < B) (bB : Bt n B) (hn : n ≤ 9000 := by decide) (ps : List (Int × Int)) (h : ∀ p ∈ ps, 0 < p.2 ∧ p.2 ∣ B) :
    ∃ m, Told Wb [.list (ps.map prD)] (.int m) ∧ 0 < m ∧ (∀ p ∈ ps, p.2 ∣ m) ∧ m ∣ B := by
  have key : ∃ d, Told Wb [.list (ps.map prD)] d ∧ ∃ m, d = .int m ∧ 0 < m ∧ (∀ p ∈ ps, p.2 ∣ m) ∧ m ∣ B := by
    refine Zpj rfl <| Zei (Zz Yo) <| Zi0 (ds := ps.map prD) (fun i δ => ∃ m z, δ = [some (.fz (.list (ps.map prD))), some (.fz (.int m)), z] ∧ 0 < m ∧ (∀ j p, j < i → ps[j]? = some p → p.2 ∣ m) ∧ m ∣ B) (Zee Zc) ⟨1, none, rfl, by decide, fun j p hj => absurd hj (Nat.not_lt_zero j), Int.one_dvd _⟩ (fun i d δ hd hi => ?_) fun δ' hi => ?_
    · obtain ⟨m, z, hδ, h1, h2, h3⟩ := hi
      subst hδ
      rw [List.getElem?_map] at hd
      cases e : ps[i]? with
      | none => rw [e] at hd; cases hd
      | some p =>
        rw [e] at hd
        cases hd
        obtain ⟨q1, q2⟩ := h p (List.mem_of_getElem? e)
        obtain ⟨s1, s2, s3, s4⟩ := Zr1 h1 q1 h3 q2 hB
        have g0 : 0 < (Int.gcd m p.2 : Int) := Zed (by omega)
        have bg : Bt n (Int.gcd m p.2 : Int) := Ze3 hB (Int.dvd_trans (Int.gcd_dvd_right ..) q2) bB
        have bm : Bt n (m.fdiv (Int.gcd m p.2)) := by
          rw [Wl g0]
          exact Bt.of_le (Ze3 hB h3 bB) (Int.natAbs_ediv_le_natAbs _ _)
        have at1 : ∀ {δ : Zj}, δ[2]? = some (some (.fz (prD p))) → EvV (W5 gIx (Zg 2) (fC (.int 1))) δ (.int p.2) := fun h => Zal (Zc h) Yo rfl
        refine ⟨_, _, rfl, .inl (Zz (Zw (Zw Zc (Z9 (Zd Zc (Zd (at1 rfl) Zt)) (.of (Za9 m p.2) (OT.data_fz _))) (Zb6 (Zb2 (by omega) bg hn))) (at1 rfl) (Zf2 (Zic bm (Ze3 hB q2 bB) (by omega))))), _, _, rfl, s1, fun j p' hj hp => ?_, s4⟩
        by_cases z : j = i
        · subst z
          rw [e] at hp; cases hp
          exact s3
        · exact Int.dvd_trans (h2 j p' (by omega) hp) s2
    · obtain ⟨m, z, rfl, h1, h2, h3⟩ := hi
      refine Zot Zc ⟨m, rfl, h1, fun p hp => ?_, h3⟩
      obtain ⟨j, hj⟩ := List.getElem?_of_mem hp
      exact h2 j p (by have := (List.getElem?_eq_some_iff.mp hj).1; rwa [List.length_map]) hj
  obtain ⟨d, h, m, rfl, hm⟩ := key
  exact ⟨m, h, hm⟩
noncomputable def Za2 : FS :=
  (Yu (wE (fC (.int 1)) (Jj 1))
    (Yu (Ze8 (Zgo (Zg 0)) (gNm 2)
    (wE (Wa Wb (Zh (W5 Zqw (Zp1 (Zh (Zg8 (Zh (fC (.int 1)) (Zh (Zg 1) Yk))) Yk)) (Zg 2)) Yk)) (Jj 1)))
    (wE (Zg 1) Zce)))
noncomputable def Wk : FD := Zci 1 3 Za2
theorem Zua (r : List Rat) : r.map frD = (r.map fun q => (q.num, (q.den : Int))).map prD := by rw [List.map_map]; rfl
noncomputable def Zzn (T : List (List Rat)) (B : Int) : Prop := ∀ r ∈ T, ∀ q ∈ r, (q.den : Int) ∣ B
theorem Zfo {n : Nat} {B : Int} (hB : 0 < B) (bB : Bt n B) (hn : n ≤ 9000 := by decide) (T : List (List Rat)) (hz : ∀ r ∈ T, r.length ≤ 1000) (h : Zzn T B) :
    ∃ m, Told Wk [tbD T] (.int m) ∧ 0 < m ∧ Zzn T m ∧ m ∣ B := by
  have key : ∃ d, Told Wk [.list (T.map Znb)] d ∧ ∃ m, d = .int m ∧ 0 < m ∧ Zzn T m ∧ m ∣ B := by
    refine Zpj rfl <| Zei (Zz Yo) <| Zi0 (ds := T.map Znb) (fun i δ => ∃ m z, δ = [some (.fz (.list (T.map Znb))), some (.fz (.int m)), z] ∧ 0 < m ∧ (∀ j r, j < i → T[j]? = some r → ∀ q ∈ r, (q.den : Int) ∣ m) ∧ m ∣ B) (Zee Zc) ⟨1, none, rfl, by decide, fun j p hj => absurd hj (Nat.not_lt_zero j), Int.one_dvd _⟩ (fun i d δ hd hi => ?_) fun δ' hi => ?_
    · obtain ⟨m, z, hδ, h1, h2, h3⟩ := hi
      subst hδ
      rw [List.getElem?_map] at hd
      cases e : T[i]? with
      | none => rw [e] at hd; cases hd
      | some r =>
        rw [e] at hd
        cases hd
        have hr := List.mem_of_getElem? e
        obtain ⟨m', e1, p1, p2, p3⟩ := Zfe hB bB hn ((1, m) :: r.map fun q => (q.num, (q.den : Int))) fun p hp => by
          rcases List.mem_cons.mp hp with rfl | hp
          · exact ⟨h1, h3⟩
          · obtain ⟨q, hq, rfl⟩ := List.mem_map.mp hp
            exact ⟨Zbj q, h r hr q hq⟩
        rw [List.map_cons, ← Zua] at e1
        have hl := hz r hr
        refine ⟨_, _, rfl, .inl (Zz (Z9 (Zd (Ztn (ds := [prD (1, m)]) (es := r.map frD) (Zos (Zd (Ze0 (Zd Yo (Zd Zc Zt)) (show 2 ≤ 1000 by decide)) Zt) (show 1 ≤ 1000 by decide)) Zc (by rw [List.length_map, List.length_singleton]; omega)) Zt) e1)), m', _, rfl, p1, fun j r' hj hr' q hq => ?_, p3⟩
        by_cases z : j = i
        · subst z
          rw [e] at hr'; cases hr'
          exact p2 (q.num, (q.den : Int)) (.tail _ (List.mem_map.mpr ⟨q, hq, rfl⟩))
        · exact Int.dvd_trans (h2 j r' (by omega) hr' q hq) (p2 (1, m) (.head _))
    · obtain ⟨m, z, rfl, h1, h2, h3⟩ := hi
      refine Zot Zc ⟨m, rfl, h1, fun r hr q hq => ?_, h3⟩
      obtain ⟨j, hj⟩ := List.getElem?_of_mem hr
      exact h2 j r (by have := (List.getElem?_eq_some_iff.mp hj).1; rwa [List.length_map]) hj q hq
  obtain ⟨d, h, m, rfl, hm⟩ := key
  exact ⟨m, h, hm⟩
noncomputable def scI (m : Int) (q : Rat) : Int := q.num * (m / (q.den : Int))
theorem Zs8 {m : Int} {q : Rat} (h : (q.den : Int) ∣ m) : (scI m q : Rat) = q * (m : Rat) := by
  obtain ⟨k, rfl⟩ := h
  unfold scI
  rw [Int.mul_ediv_cancel_left _ (Zo2 q)]
  rw [Rat.intCast_mul, Rat.intCast_mul, Z7r, Rat.mul_assoc]
noncomputable def Zch : FS :=
  (wE (Zak 1 [0] (Zgo (Zg 1)) (gNm 0) Zge (Zk Zc7 (W5 gIx (Zg 0) (fC (.int 0))) (Zk J0 (Zg 1) (W5 gIx (Zg 0) (fC (.int 1)))))) Zce)
noncomputable def Zan : FD := Zci 2 2 Zch
theorem Zix {n : Nat} {m : Int} (hm : 0 < m) (bm : Bt n m) (r : List Rat) (hz : r.length ≤ 1000) (h : ∀ q ∈ r, (q.den : Int) ∣ m ∧ Bt n q.num) (hn : n ≤ 9000 := by decide) :
    Told Zan [.int m, Znb r] (.list (r.map fun q => .int (scI m q))) :=
  Y7 rfl <| Jr <| Zdy (cs := [some (.fz (.int m))]) r frD (fun q => .int (scI m q)) (Zee Zc) (by omega) rfl fun q hq => by
    obtain ⟨h1, h2⟩ := h q hq
    refine (Zw (Zal (d := .int q.num) Zc Yo rfl) (Zw Zc (Zal (d := .int (q.den : Int)) Zc Yo rfl) (Zb6 (Zb2 (Zo2 q) (Ze3 hm h1 bm) hn))) (Zf2 ?_)).cast ?_
    · rw [Wl (Zbj q)]
      exact Zic h2 (Bt.of_le bm (Int.natAbs_ediv_le_natAbs _ _)) (by omega)
    · rw [Wl (Zbj q)]; rfl
noncomputable def Zbz : FS :=
  (wE (Zak 1 [0] (Zgo (Zg 1)) (gNm 0) Zge (Wa Zan (Zh (Zg 1) (Zh (Zg 0) Yk)))) Zce)
noncomputable def Ja : FD := Zci 2 2 Zbz
theorem Zhr {n : Nat} {m : Int} (hm : 0 < m) (bm : Bt n m) (T : List (List Rat)) (hT : T.length ≤ 1000) (hz : ∀ r ∈ T, r.length ≤ 1000) (h : Zzn T m) (hb : ∀ r ∈ T, ∀ q ∈ r, Bt n q.num) (hn : n ≤ 9000 := by decide) :
    Told Ja [.int m, tbD T] (.list (T.map fun r => .list (r.map fun q => .int (scI m q)))) :=
  Y7 rfl <| Jr <| Zdy (cs := [some (.fz (.int m))]) T Znb (fun r => .list (r.map fun q => .int (scI m q))) (Zee Zc) (by omega) rfl fun r hr => Z9 (Zd Zc (Zd Zc Zt)) (Zix hm bm r (hz r hr) (fun q hq => ⟨h r hr q hq, hb r hr q hq⟩) hn)
noncomputable def Zf0 : FS :=
  (Yu (wE (Zp1 Yk) (Zdl 1))
    (Yu (Ze8 (iRa (Zh (Zg 0) Yk)) (gNm 2)
    (Ze8 (iRb (Zh (Zk Zcj (Zg 2) (fC (.int 1))) (Zh (Zg 0) Yk))) (gNm 3)
    (Zbd 1 (Zg8 (Zh (Zg 2) (Zh (Zg 3) Yk))))))
    (Zfa 1)))
noncomputable def Zo9 : FD := Zci 1 4 Zf0
noncomputable def Z4 (n : Nat) : List (Nat × Nat) := (List.range n).flatMap fun i => (List.range (n - (i + 1))).map fun j => (i, i + 1 + j)
noncomputable def ptD (p : Nat × Nat) : PyData := .tuple [.int p.1, .int p.2]
theorem Zc5 {n : Nat} {p : Nat × Nat} (h : p ∈ Z4 n) : p.1 < p.2 ∧ p.2 < n := by
  unfold Z4 at h
  obtain ⟨i, hi, hp⟩ := List.mem_flatMap.mp h
  obtain ⟨j, hj, rfl⟩ := List.mem_map.mp hp
  have := List.mem_range.mp hi
  have := List.mem_range.mp hj
  dsimp only
  omega
theorem Zhb {n i j : Nat} (h : i < j) (hj : j < n) : (i, j) ∈ Z4 n := by
  unfold Z4
  exact List.mem_flatMap.mpr ⟨i, List.mem_range.mpr (by omega), List.mem_map.mpr ⟨j - (i + 1), List.mem_range.mpr (by omega), by congr 1; omega⟩⟩
noncomputable def Zid (n i : Nat) : List (Nat × Nat) := (List.range i).flatMap fun i => (List.range (n - (i + 1))).map fun j => (i, i + 1 + j)
theorem Zc1 (n : Nat) : ∀ i, (Zid n i).length ≤ i * n
  | 0 => by simp [Zid]
  | i + 1 => by
    have := Zc1 n i
    unfold Zid at this ⊢
    rw [List.range_succ, List.flatMap_append, List.length_append]
    simp only [List.flatMap_cons, List.flatMap_nil, List.append_nil, List.length_map, List.length_range]
    have e : (i + 1) * n = i * n + n := by rw [Nat.succ_mul]
    omega
theorem Zhd (n i : Nat) : Zid n (i + 1) = Zid n i ++ (List.range (n - (i + 1))).map fun j => (i, i + 1 + j) := by
  unfold Zid; rw [List.range_succ, List.flatMap_append]; simp
end My
namespace My
open PySem L2 PySem.Spec
noncomputable def Zbk : FS :=
  (Yu (Zde (tV (Zk gLt (Zg 1) (Ze5 Ze1 (Zh (Zg 0) Yk))))
    (wE (W5 gIx (Zg 0) (Zg 1)) Zce)
    fNx)
    (wE (fC (.int 0)) Zce))
noncomputable def Y5 : FD := Zci 2 2 Zbk
noncomputable def Zc2 : FS :=
  (Yu (Zde (tV (Zk gEq (Zk Zd0 (Zk J0 (Zg 0) (fC (.int 7))) (fC (.int 8))) (fC (.int 3))))
    (wE (Zk Zcj (Zk Zcj (Zg 2) (fC (.int 1))) (Zk Zd0 (Zk J0 (Zg 0) (fC (.int 56))) (Zk gSb (Zg 3) (Zg 2)))) Zce)
    fNx)
    (wE (Zk Zcj (Zg 1) (Zk Zd0 (Zg 0) (Zk gSb (Zk Zcj (Zg 2) (fC (.int 1))) (Zg 1)))) Zce))
noncomputable def J5 : FD := Zci 4 4 Zc2
noncomputable def Zcl : FS :=
  (Yu (wE (Zk Zd0 (Zk Zc7 (Zk Zcj (Zk Zcj (Zk Zd0 (Zg 0) (fC (.int 2147483629))) (Zk Zc7 (fC (.int 9973)) (Zg 1))) (fC (.int 5))) (fC (.int 48271))) (fC (.int 2147483647))) (Jj 2))
    (Yu (wE (Zk Zd0 (Zk Zc7 (Zg 2) (Zg 2)) (fC (.int 2147483587))) (Jj 2))
    (wE (Zk J0 (Zk Zd0 (Zk Zc7 (Zk Zcj (Zg 2) (Zk Zc7 (fC (.int 7919)) (Zg 1))) (fC (.int 16807))) (fC (.int 2147483563))) (fC (.int 8))) Zce)))
noncomputable def We : FD := Zci 2 3 Zcl
noncomputable def Zbl : FS :=
  (Yu (wE (Zp1 Yk) (Zdl 2))
    (Yu (wE (Zg 0) (Jj 3))
    (Yu (Ze8 (iRa (Zh (Zg 1) Yk)) (gNm 4)
    (Yu (wE (Wa We (Zh (Zg 0) (Zh (Zg 4) Yk))) (Jj 5))
    (Yu (Zde (tV (Zk gGe (Zg 0) (Zk Zue (fC (.int 10)) (fC (.int 18)))))
    (wE (Zk Zd0 (Zg 3) (fC (.int 720720))) (Jj 5))
    fNx)
    (Yu (wE (Zk J0 (Zg 3) (fC (.int 720720))) (Jj 3))
    (Zbd 2 (Zg 5))))))
    (Zfa 2))))
noncomputable def W2 : FD := Zci 2 6 Zbl
noncomputable def Zv (p : List Int) : PyData := .list (p.map PyData.int)
theorem Zlp {p : List Int} {i : Int} (h0 : 0 ≤ i) (h1 : i < p.length) : atI (p.map PyData.int) i = some (.int (p.getD i.toNat 0)) := by
  rw [Zjl h0, List.getElem?_map, List.getElem?_eq_getElem (by omega)]
  simp [List.getD_eq_getElem?_getD, List.getElem?_eq_getElem (show i.toNat < p.length by omega)]
theorem Zbq {a b : FE} {δ : Zj} {p : List Int} {i : Int} (ha : EvV a δ (Zv p)) (hb : EvV b δ (.int i)) (h0 : 0 ≤ i) (h1 : i < p.length) : EvV (W5 gIx a b) δ (.int (p.getD i.toNat 0)) := Zxu ha hb (Zlp h0 h1)
theorem Zad {a : FE} {δ : Zj} {p : List Int} (ha : EvV a δ (Zv p)) : EvV (Ze5 Ze1 (Zh a Yk)) δ (.int p.length) := by
  have := Zsz (ds := p.map PyData.int) ha
  rwa [List.length_map] at this
theorem Z5v : Zue (.int 10) (.int 18) = some (.int 1000000000000000000) := rfl
theorem Zep (ns : List Int) {k : Int} (h0 : 0 ≤ k) : ∃ c, Y5 [Zv ns, .int k] = .ok (.fz (.int c)) := by
  by_cases c : k < ns.length
  · exact ⟨_, Told.int <| Y7 rfl <| Zfj (Zh4 (Ze4 (Zgt Zc (Zad Zc) (decide_eq_true c))) (Jr (Zbq Zc Zc h0 c)))⟩
  · exact ⟨_, Told.int <| Y7 rfl <| Z5 (W7 (Ze4 (Zgt Zc (Zad Zc) (decide_eq_false c))) rfl) (Jr Yo)⟩
theorem Zvu (c : Int) {a b d : Int} (h1 : a ≤ b) (h2 : b < d) : ∃ n : Int, J5 [.int c, .int a, .int b, .int d] = .ok (.fz (.int n)) ∧ a ≤ n ∧ n ≤ d := by
  by_cases k : (c.fdiv 7).fmod 8 = 3
  · have q0 := Zcu (i := c.fdiv 56) (j := d - b) (by omega)
    have q1 := Zck (i := c.fdiv 56) (j := d - b) (by omega)
    exact ⟨_, Told.int <| Y7 rfl <| Zfj (Zh4 (Ze4 (Zox (Zaj (Zdo Zc Yo) Yo (by decide)) Yo (decide_eq_true k)))
      (Jr (Ww (Ww Zc Yo) (Zaj (Zdo Zc Yo) (Zit Zc Zc) (by omega))))), by omega, by omega⟩
  · have q0 := Zcu (i := c) (j := b + 1 - a) (by omega)
    have q1 := Zck (i := c) (j := b + 1 - a) (by omega)
    exact ⟨_, Told.int <| Y7 rfl <| Z5 (W7 (Ze4 (Zox (Zaj (Zdo Zc Yo) Yo (by decide)) Yo (decide_eq_false k))) rfl)
      (Jr (Ww Zc (Zaj Zc (Zit (Ww Zc Yo) Zc) (by omega)))), by omega, by omega⟩
theorem Zhk (c k : Int) : ∃ v, Told We [.int c, .int k] (.int v) := by
  have n0 := Zcu (i := (c.fmod 2147483629 + 9973 * k + 5) * 48271) (j := 2147483647) (by decide)
  have n1 := Zck (i := (c.fmod 2147483629 + 9973 * k + 5) * 48271) (j := 2147483647) (by decide)
  exact ⟨_, Y7 rfl <| Z5 (Zz (Zaj (Zpi (Ww (Ww (Zaj Zc Yo (by decide)) (Zba Yo Zc)) Yo) Yo) Yo (by decide))) <|
    Z5 (Zz (Zaj (Zba Zc Zc (by omega)) Yo (by decide))) <|
    Jr (Zdo (Zaj (Zpi (Ww Zc (Zba Yo Zc)) Yo) Yo (by decide)) Yo)⟩
theorem Zlw {i : Nat} {e : FE} {δ : Zj} {vs : List Int} {v : Int} (h : EvV e δ (.int v)) (hi : δ[i]? = some (some (.nd (vs.map fun v => .fz (.int v))))) (hl : vs.length ≤ 1000000) : Zbd i e δ = .nx (δ.set i (some (.nd ((vs ++ [v]).map fun v => .fz (.int v))))) := by
  rw [Zzk h hi (by rw [List.length_map]; exact hl), List.map_append]; rfl
theorem Zqc {i : Nat} {e : FE} {δ δ' : Zj} {vs : List Int} {ts : List OT} {v : Int} (h : e δ = some (.fz (.int v), δ')) (h0 : δ[i]? = some (some (.nd ts))) (h1 : δ'[i]? = some (some (.nd (vs.map fun v => .fz (.int v))))) (hl : vs.length ≤ 1000000) : Zbd i e δ = .nx (δ'.set i (some (.nd ((vs ++ [v]).map fun v => .fz (.int v))))) := by
  rw [Zu1 h h0 h1 (by rw [List.length_map]; exact hl), List.map_append, OT.data_fz]; rfl
theorem Zpb (p : List Int) : (OT.nd ((p.map PyData.int).map OT.fz)).data = Zv p := by
  rw [OT.data_nd, OT.map_fz]; rfl
theorem Zib (vs : List Int) : (OT.nd (vs.map fun v => OT.fz (.int v))).data = Zv vs := by rw [OT.data_nd, Zmh]; rfl
theorem Zmi (c : Int) (m : Nat) (hm : m ≤ 1000) : ∃ vs : List Int, Told W2 [.int c, .int m] (Zv vs) ∧ vs.length = m := by
  have key : ∃ d, Told W2 [.int c, .int m] d ∧ ∃ vs, d = Zv vs ∧ vs.length = m :=
    Zpj rfl <| Zei Zqh <| Zei (Zz Zc) <| Zi0 (ds := Zda 0 m) (fun i δ => ∃ (vs : List Int) (x : Int) (z1 z2 : Option OT), δ = [some (.fz (.int c)), some (.fz (.int m)), some (.nd (vs.map fun v => .fz (.int v))), some (.fz (.int x)), z1, z2] ∧ vs.length = i)
      (Zgi (Zd Zc Zt) (by omega)) ⟨[], c, none, none, rfl, rfl⟩ (fun i d δ hd q91 => by
        obtain ⟨vs, x, z1, z2, e, hl⟩ := q91
        subst e
        obtain ⟨hi, rfl⟩ := Zbi hd
        obtain ⟨v, ev⟩ := Zhk c (0 + (i : Int))
        by_cases q : 1000000000000000000 ≤ c
        · exact ⟨_, _, rfl, .inl (W3 (Zz (Z9 (Zd Zc (Zd Zc Zt)) ev)) <| W3 (Zeu (Ze4 (Zxr Zc (Zw Yo Yo Z5v) (decide_eq_true q))) (Zz (Zaj Zc Yo (by decide)))) <|
            W3 (Zz (Zdo Zc Yo)) (Zlw (vs := vs) Zc rfl (by omega))), _, _, _, _, rfl, by rw [List.length_append, hl]; rfl⟩
        · exact ⟨_, _, rfl, .inl (W3 (Zz (Z9 (Zd Zc (Zd Zc Zt)) ev)) <| W3 (W7 (Ze4 (Zxr Zc (Zw Yo Yo Z5v) (decide_eq_false q))) rfl) <|
            W3 (Zz (Zdo Zc Yo)) (Zlw (vs := vs) Zc rfl (by omega))), _, _, _, _, rfl, by rw [List.length_append, hl]; rfl⟩)
      fun δ' q92 => by
        obtain ⟨vs, x, z1, z2, e, hl⟩ := q92
        subst e
        rw [Zdx] at hl
        exact Z4x rfl ⟨vs, Zib vs, hl⟩
  obtain ⟨d, h, vs, rfl, hl⟩ := key
  exact ⟨vs, h, hl⟩
end My
namespace My
open PySem L2 PySem.Spec
noncomputable def Zcf : FS :=
  (Yu (wE (Zak 1 [2] (iRa (Zh (Zg 2) Yk)) (gNm 0) Zge (Zw6 (fC (.int 0)) (Zg 1))) (Zdl 5))
    (Yu (Ze8 (iRa (Zh (Zg 2) Yk)) (gNm 6)
    (Ze8 (iRa (Zh (Zg 6) Yk)) (gNm 7)
    (Yu (wE (Zk Zcj (Zk J0 (Zk Zc7 (Zg 6) (Zk gSb (Zg 6) (fC (.int 1)))) (fC (.int 2))) (Zg 7)) (Jj 8))
    (Yu (wE (Wa We (Zh (Zg 4) (Zh (Zk Zcj (fC (.int 90)) (Zg 8)) Yk))) (Jj 9))
    (Yu (Zde (tV (Zk gLt (Zk Zcj (Zg 1) (Zg 8)) (Ze5 Ze1 (Zh (Zg 0) Yk))))
    (wE (W5 gIx (Zg 0) (Zk Zcj (Zg 1) (Zg 8))) (Jj 9))
    fNx)
    (Yu (Zqq 5 (Zk Zd0 (Zg 9) (Zg 3)) (Zg 6) (Zg 7))
    (Zqq 5 (Zk Zd0 (Zg 9) (Zg 3)) (Zg 7) (Zg 6))))))))
    (Zfa 5)))
noncomputable def Jp : FD := Zci 5 10 Zcf
noncomputable def Zcq : FS :=
  (Yu (wE (Zp1 Yk) (Zdl 1))
    (Yu (Ze8 (iRa (Zh (Zg 0) Yk)) (gNm 2)
    (Zf9 1 (Zak 1 [2] (iRb (Zh (Zk Zcj (Zg 2) (fC (.int 1))) (Zh (Zg 0) Yk))) (gNm 0) Zge (Zg8 (Zh (Zg 1) (Zh (Zg 0) Yk))))))
    (Zfa 1)))
noncomputable def Yw : FD := Zci 1 3 Zcq
noncomputable def Zc9 : FS :=
  (Yu (wE (Ze5 Zxd (Zh (Zg 0) Yk)) (Jj 2))
    (Yu (wE (Zg 1) (Jj 3))
    (Yu (Zha (tV (Zk gNe (Zg 3) (fC (.int 0)))) (Yu (wE (Zk Zd0 (Zg 2) (Zg 3)) (Jj 4))
    (Yu (wE (Zg 3) (Jj 2))
    (wE (Zg 4) (Jj 3)))))
    (wE (Zg8 (Zh (Zk J0 (Zg 0) (Zg 2)) (Zh (Zk J0 (Zg 1) (Zg 2)) Yk))) Zce))))
noncomputable def Yv : FD := Zci 2 5 Zc9
noncomputable def Zap : FS :=
  (Yu (wE (Zis (Zg 0) (fC (.int 0))) (Jj 1))
    (Yu (wE (W5 Zqw (fSl (Zg 0) (oI (Zg 1)) oN) (fSl (Zg 0) oN (oI (Zg 1)))) (Jj 2))
    (Yu (Zde (tAn (tV (Zk gGt (Ze5 Ze1 (Zh (Zg 2) Yk)) (fC (.int 2)))) (tV (Zk gGt (W5 gIx (Zg 2) (fC (.int 1))) (W5 gIx (Zg 2) (fUn Zs4 (fC (.int 1)))))))
    (wE (W5 Zqw (fSl (Zg 2) oN (oI (fC (.int 1)))) (Zr2 (Zg 2) oN (oI (fC (.int 0))) (oI (fUn Zs4 (fC (.int 1)))))) (Jj 2))
    fNx)
    (wE (Zg 2) Zce))))
noncomputable def Jk : FD := Zci 1 3 Zap
noncomputable def Zcx : FS :=
  (Yu (wE (Wa W2 (Zh (Zg 0) (Zh (Zg 1) Yk))) (Jj 2))
    (Yu (wE (Ztq (Zh (Zg 1) Yk)) (Zdl 3))
    (Yu (wE (Zp1 Yk) (Zdl 4))
    (Yu (Ze8 (iRa (Zh (Zg 1) Yk)) (gNm 5)
    (Zbd 4 (Zys 3 (Zk Zd0 (W5 gIx (Zg 2) (Zg 5)) (Ze5 Ze1 (Zh (Zmf 3) Yk))))))
    (Zev 4 (wE (Wa Jk (Zh (Zg 4) Yk)) Zce))))))
noncomputable def Jx : FD := Zci 2 6 Zcx
noncomputable def Zbs : FS :=
  (Yu (wE (Ze5 Ze1 (Zh (Zg 0) Yk)) (Jj 4))
    (Yu (Ze8 (iRa (Zh (Zg 4) Yk)) (gNm 5)
    (Ze8 (iRa (Zh (Zg 4) Yk)) (gNm 6)
    (Yu (wE (fC (.int 0)) (Jj 7))
    (Yu (Ze8 (Zgo (Wa Yw (Zh (Zg 4) Yk))) (gTp 2 (gCn (gNm 8) (gCn (gNm 9) gNl)))
    (Yu (wE (fSl (Zg 1) (oI (Zk Zcj (Zg 8) (fC (.int 1)))) (oI (Zk Zcj (Zg 9) (fC (.int 1))))) (Jj 10))
    (Yu (wE (W5 Zmu (Zg 2) (Zg8 (Zh (Zg 8) (Zh (Zg 9) Yk)))) (Jj 11))
    (Yu (Zde (tV (Zk gGt (Zk Zd0 (Zk Zc7 (fC (.int 2)) (Zg 3)) (W5 gIx (Zg 11) (fC (.int 1)))) (fC (.int 0))))
    (wE (fC (.bool false)) Zce)
    fNx)
    (Zde (tV (Zk gNe (Zk (Zmy false) (Zg 5) (Zg 10)) (Zk (Zmy false) (Zg 6) (Zg 10))))
    (wE (Zk Zcj (Zg 7) (Zk Zc7 (W5 gIx (Zg 11) (fC (.int 0))) (Zk J0 (Zk Zc7 (fC (.int 2)) (Zg 3)) (W5 gIx (Zg 11) (fC (.int 1)))))) (Jj 7))
    fNx)))))
    (Zde (tV (Zk gNe (Zg 7) (Zk Zc7 (fC (.int 2)) (W5 gIx (W5 gIx (Zg 0) (Zg 5)) (Zg 6)))))
    (wE (fC (.bool false)) Zce)
    fNx)))))
    (wE (fC (.bool true)) Zce)))
noncomputable def Zab : FD := Zci 4 12 Zbs
noncomputable def J9 : FS :=
  (Zde (tNo (tV (Zho (fun i j => decide (i ≤ j)) (fun i j => decide (i < j)) (fun i j => decide (i < j)) (fC (.int 0)) (Zg 1) (Zg 2) (Zg 0))))
    (Zgx "NoOrder")
    fNx)
noncomputable def Jd : FD := Zci 3 3 J9
noncomputable def Zdh : FS :=
  (Yu (Ze8 (Zgo (Zg 1)) (gNm 2)
    (Zde (tNo (tD (Wa Wh (Zh (Zg 2) Yk))))
    (wE (fC (.bool false)) Zce)
    fNx))
    (Yu (Zde (tO (tV (Zk gLt (Zg 0) (fC (.int 3)))) (tV (Zk gNe (fBl Zi5 (Zh (Zg 1) Yk)) (Ztq (Zh (Zg 0) Yk)))))
    (wE (fC (.bool false)) Zce)
    fNx)
    (wE (Zvk (Zk gEq (W5 gIx (Zg 1) (fC (.int 0))) (fC (.int 0))) (Zk gLt (W5 gIx (Zg 1) (fC (.int 1))) (W5 gIx (Zg 1) (fUn Zs4 (fC (.int 1)))))) Zce)))
noncomputable def Zbn : FD := Zci 2 3 Zdh
noncomputable def Zac : FS :=
  (Zde (tNo (tD (Wa Zbn (Zh (Zg 0) (Zh (Zg 1) Yk)))))
    (Zgx "NoOrder")
    fNx)
noncomputable def Jc : FD := Zci 2 2 Zac
noncomputable def Za3 : FS :=
  (Yu (wE (W5 gIx (Zg 1) (Zg 2)) (Jj 4))
    (Yu (wE (W5 gIx (Zg 1) (Zk Zcj (Zg 2) (fC (.int 1)))) (Jj 5))
    (Yu (wE (W5 gIx (Zg 1) (Zg 3)) (Jj 6))
    (Yu (wE (W5 gIx (Zg 1) (Zk Zd0 (Zk Zcj (Zg 3) (fC (.int 1))) (Ze5 Ze1 (Zh (Zg 0) Yk)))) (Jj 7))
    (wE (Zk gSb (Zk gSb (Zk Zcj (W5 gIx (W5 gIx (Zg 0) (Zg 4)) (Zg 6)) (W5 gIx (W5 gIx (Zg 0) (Zg 5)) (Zg 7))) (W5 gIx (W5 gIx (Zg 0) (Zg 4)) (Zg 7))) (W5 gIx (W5 gIx (Zg 0) (Zg 5)) (Zg 6))) Zce)))))
noncomputable def Jq : FD := Zci 4 8 Za3
noncomputable def Jz : FS :=
  (Yu (wX Jc (Zh (Ze5 Ze1 (Zh (Zg 0) Yk)) (Zh (Zg 1) Yk)) Znn)
    (Yu (wX Jd (Zh (Ze5 Ze1 (Zh (Zg 0) Yk)) (Zh (Zg 2) (Zh (Zg 3) Yk))) Znn)
    (Yu (wE (Wa Wk (Zh (Zg 0) Yk)) (Jj 4))
    (wX Jy (Zh (Wa Jq (Zh (Wa Ja (Zh (Zg 4) (Zh (Zg 0) Yk))) (Zh (Zg 1) (Zh (Zg 2) (Zh (Zg 3) Yk))))) (Zh (Zk Zc7 (fC (.int 2)) (Zg 4)) Yk)) Zce))))
noncomputable def Ys : FD := Zci 4 5 Jz
noncomputable def W4 : FS :=
  (Yu (wE (Zvs true) (Zdl 2))
    (Yu (Ze8 (Zgo (Wa Yw (Zh (Ze5 Ze1 (Zh (Zg 1) Yk)) Yk))) (gTp 2 (gCn (gNm 3) (gCn (gNm 4) gNl)))
    (Yu (wX Ys (Zh (Zg 0) (Zh (Zg 1) (Zh (Zg 3) (Zh (Zg 4) Yk)))) (Jj 5))
    (Yu (Zde (tO (tNo (tD (Zt2 "tuple" (Zg 5)))) (tO (tV (Zk gNe (Ze5 Ze1 (Zh (Zg 5) Yk)) (fC (.int 2)))) (tV (Zk gLt (W5 gIx (Zg 5) (fC (.int 1))) (fC (.int 1))))))
    (wE (fC .none) Zce)
    fNx)
    (Zj2 2 (Zg 5) (Zg8 (Zh (Zg 3) (Zh (Zg 4) Yk)))))))
    (Zfa 2)))
noncomputable def Yr : FD := Zci 2 6 W4
noncomputable def Zgw : FS :=
  (Yu (wE (Wa J5 (Zh (Wa Y5 (Zh (Zg 0) (Zh (fC (.int 0)) Yk))) (Zh (fC (.int 3)) (Zh (fC (.int 5)) (Zh (fC (.int 6)) Yk))))) (Jj 1))
    (Yu (wE (Wa Y5 (Zh (Zg 0) (Zh (fC (.int 1)) Yk))) (Jj 2))
    (Yu (wE (Wa Jp (Zh (Zg 0) (Zh (fC (.int 3)) (Zh (Zg 1) (Zh (W5 gIx (Zp1 (Zh (fC (.int 2)) (Zh (fC (.int 3)) (Zh (fC (.int 5)) (Zh (Zk Zue (fC (.int 10)) (fC (.int 20))) Yk))))) (Zk Zd0 (Zk J0 (Zg 2) (fC (.int 12))) (fC (.int 4)))) (Zh (Zg 2) Yk)))))) (Jj 3))
    (Yu (wE (W5 gIx (Zp1 (Zh (fC (.int 1)) (Zh (fC (.int 2)) (Zh (fC (.int 6)) (Zh (Zk Zcj (Zk Zue (fC (.int 10)) (fC (.int 15))) (fC (.int 37))) Yk))))) (Zk Zd0 (Zk J0 (Zg 2) (fC (.int 3))) (fC (.int 4)))) (Jj 4))
    (Yu (wE (Zak 1 [4] (Zgo (Zg 3)) (gNm 0) Zge (Zak 1 [1] (Zgo (Zg 0)) (gNm 0) Zge (Wa Yv (Zh (Zg 0) (Zh (Zg 1) Yk))))) (Jj 5))
    (Yu (wE (Wa Jx (Zh (Wa Y5 (Zh (Zg 0) (Zh (fC (.int 2)) Yk))) (Zh (Zg 1) Yk))) (Jj 6))
    (Yu (wX Yr (Zh (Zg 5) (Zh (Zg 6) Yk)) (Zdl 7))
    (Yu (Zde (tO (tV (Zk gIs (Zmf 7) (fC .none))) (tNo (tD (Wa Zab (Zh (Zg 3) (Zh (Zg 6) (Zh (Zmf 7) (Zh (Zg 4) Yk))))))))
    (wE (fC (.bool false)) Zce)
    fNx)
    (Yu (wE (Wa Yw (Zh (Zg 1) Yk)) (Jj 8))
    (Yu (wE (W5 gIx (Zg 8) (Zk Zd0 (Wa We (Zh (Zg 2) (Zh (fC (.int 7)) Yk))) (Ze5 Ze1 (Zh (Zg 8) Yk)))) (Zxw (gTp 2 (gCn (gNm 9) (gCn (gNm 10) gNl)))))
    (Yu (wE (Zk Zcj (fC (.int 1)) (Zk Zd0 (Wa We (Zh (Zg 2) (Zh (fC (.int 8)) Yk))) (fC (.int 1000)))) (Jj 11))
    (Yu (wE (fSl (Zg 6) (oI (Zk Zcj (Zg 9) (fC (.int 1)))) (oI (Zk Zcj (Zg 10) (fC (.int 1))))) (Jj 12))
    (Yu (wE (Zak 1 [1, 3, 11, 12] (iRa (Zh (Zg 1) Yk)) (gNm 0) Zge (Zak 1 [2, 0, 3, 4] (iRa (Zh (Zg 1) Yk)) (gNm 0) Zge (Zk Zcj (W5 gIx (W5 gIx (Zg 1) (Zg 2)) (Zg 0)) (Zk Zc7 (Zg 3) (Ze5 Zw9 (Zh (Zk gNe (Zk (Zmy false) (Zg 2) (Zg 4)) (Zk (Zmy false) (Zg 0) (Zg 4))) Yk)))))) (Jj 13))
    (Yu (wX Yr (Zh (Zak 1 [4] (Zgo (Zg 13)) (gNm 0) Zge (Zak 1 [1] (Zgo (Zg 0)) (gNm 0) Zge (Wa Yv (Zh (Zg 0) (Zh (Zg 1) Yk))))) (Zh (Zg 6) Yk)) (Jj 14))
    (Yu (Zde (tV (Zk gIs (Zg 14) (fC .none)))
    (wE (fC (.bool false)) Zce)
    fNx)
    (Yu (Zj2 7 (Wa Yv (Zh (Zk Zcj (Zk Zc7 (W5 gIx (W5 Zmu (Zmf 7) (Zg8 (Zh (Zg 9) (Zh (Zg 10) Yk)))) (fC (.int 0))) (Zk J0 (Zk Zc7 (fC (.int 2)) (Zg 4)) (W5 gIx (W5 Zmu (Zmf 7) (Zg8 (Zh (Zg 9) (Zh (Zg 10) Yk)))) (fC (.int 1))))) (Zk Zc7 (fC (.int 2)) (Zg 11))) (Zh (Zk Zc7 (fC (.int 2)) (Zg 4)) Yk))) (Zg8 (Zh (Zg 9) (Zh (Zg 10) Yk))))
    (wE (Zk Zqi (Zg 14) (Zmf 7)) Zce)))))))))))))))))
noncomputable def Zem : FD := Zci 1 15 Zgw
end My
namespace L2
open PySem PySem.Spec
section
variable {e a b : FE} {as : FA} {δ : Zj} {Q : PyData → Zj → Prop} {QA : List PyData → Zj → Prop} {T : Bool → Zj → Prop} {t u : FT} {S S' : FS} {N : Zj → Prop} {R : PyData → Zj → Prop} {i : Nat} {d : PyData}
end
end L2
namespace My
open PySem L2 PySem.Spec
theorem Zn2 (p : List Int) : Sh 1 (Zv p) := Zv2 fun d m => by
  obtain ⟨x, _, rfl⟩ := List.mem_map.mp m
  exact Zt0 x
theorem Zmw {ds : List PyData} (h : ∀ d ∈ ds, Ji d = true) : Ji (.list ds) = true := by
  rw [Ji]
  induction ds with
  | nil => rfl
  | cons d ds ih => rw [Zdq, h d (.head _), ih fun e he => h e (.tail _ he)]; rfl
theorem Zes (p : List Int) : Ji (Zv p) = true := Zmw fun d m => by
  obtain ⟨x, _, rfl⟩ := List.mem_map.mp m
  rfl
theorem Zrg {a b : List Int} (h : Zv a = Zv b) : a = b := by
  unfold Zv at h
  injection h with h
  exact List.map_inj_right (fun x y z => by injection z) |>.mp h
theorem Zrc (a b : List Int) : gNe (Zv a) (Zv b) = some (.bool (!decide (a = b))) := by
  have s : SeqAt.shaped (Zv a) = true := ((Zn2 a).shp (by omega)).ok
  have t : SeqAt.shaped (Zv b) = true := ((Zn2 b).shp (by omega)).ok
  unfold gNe
  rw [if_pos (by rw [s, t]; rfl)]
  by_cases c : a = b
  · subst c
    rw [Zrw (Zes a)]
    simp
  · have : PyData.eqv (Zv a) (Zv b) = false := by
      cases e : PyData.eqv (Zv a) (Zv b) with
      | false => rfl
      | true => exact absurd (Zrg ((Zik _ _ (Zes a) (Zes b)).mp e)) c
    rw [this, decide_eq_false c]
theorem Zms {p : List Int} (h : p.length < 64) : Zi5 [Zv p] = some (.nd (((Zd8 p).map PyData.int).map OT.fz)) := by
  show ((Zkj (p.map PyData.int)).bind fun ns => if ns.length < 64 then some (OT.nd (((Zd8 ns).map PyData.int).map OT.fz)) else none) = _
  rw [Zgb, Option.bind_some, if_pos h]
theorem Zr9 {p : List Int} {i : Int} (h0 : 0 ≤ i) (h1 : i < p.length) : gIx (Zv p) (.int i) = some (.fz (.int (p.getD i.toNat 0))) := by
  unfold Zv
  rw [Zjz, Zlp h0 h1]; rfl
theorem Zla {p : List Int} (h : 0 < p.length) : gIx (Zv p) (.int (-1)) = some (.fz (.int (p.getD (p.length - 1) 0))) := by
  unfold Zv
  rw [Zjz]
  have e : p = p.dropLast ++ [p.getLast (by intro z; rw [z] at h; simp at h)] := (List.dropLast_concat_getLast _).symm
  have g : p.getD (p.length - 1) 0 = p.getLast (by intro z; rw [z] at h; simp at h) := by
    rw [List.getLast_eq_getElem, List.getD_eq_getElem?_getD, List.getElem?_eq_getElem (by omega)]; rfl
  rw [g]
  conv => lhs; rw [e, List.map_append]
  rw [List.map_cons, List.map_nil, Zrp]; rfl
noncomputable def J4 (n : Int) : List Int := (List.range n.toNat).map fun i : Nat => (i : Int)
theorem Zsc (n : Int) : PyData.list (Zda 0 n.toNat) = Zv (J4 n) := by
  unfold Zv J4 Zda
  rw [List.map_map]
  refine congrArg _ (List.map_congr_left fun i _ => ?_)
  show PyData.int (0 + (i : Int)) = PyData.int (i : Int)
  rw [Int.zero_add]
noncomputable def ringB (n : Int) (p : List Int) : Bool := decide (3 ≤ n) && (decide (Zd8 p = J4 n) && (decide (p.getD 0 0 = 0) && decide (p.getD 1 0 < p.getD (p.length - 1) 0)))
theorem Zmz {n : Int} {p : List Int} (h : p.length < 64) (hn : n ≤ 1000000) : Zbn [.int n, Zv p] = .ok (.fz (.bool (ringB n p))) := by
  refine Told.ok (Y7 rfl (Zp0 (ds := p.map PyData.int) (fun i δ => ∃ z, δ = [some (.fz (.int n)), some (.fz (Zv p)), z]) (Zee Zc) ⟨_, rfl⟩ (fun i d δ hd q => ?_) fun δ' q => ?_))
  · obtain ⟨z, rfl⟩ := q
    obtain ⟨x, _, rfl⟩ := List.mem_map.mp (List.mem_of_getElem? hd)
    exact ⟨_, _, rfl, .inl (W7 (Zke (p := true) (Zmo (Z9 (Zd Zc Zt) (.of (Ze7 x) (OT.data_fz _))))) rfl), _, rfl⟩
  obtain ⟨z, rfl⟩ := q
  unfold ringB
  by_cases c : n < 3
  · rw [decide_eq_false (show ¬ 3 ≤ n by omega)]
    exact Zfj (Zh4 (Z0a (Ze4 (Zgt Zc Yo (decide_eq_true c)))) (Jr Yo))
  have t1 : ∀ {b : Bool}, (!decide (Zd8 p = J4 n)) = b → EvT (tO (tV (Zk gLt (Zg 0) (fC (.int 3)))) (tV (Zk gNe (fBl Zi5 (Zh (Zg 1) Yk)) (Ztq (Zh (Zg 0) Yk))))) [some (.fz (.int n)), some (.fz (Zv p)), z] b := fun hb => Zw8 (Ze4 (Zgt Zc Yo (decide_eq_false c))) (Ze4 (Zw (Z2t (Zd Zc Zt) (Zms h) (Zpb _)) (Z4g (Zd Zc Zt) (by omega) hn) (by rw [Zsc, Zrc, hb])))
  rw [decide_eq_true (show 3 ≤ n by omega)]
  by_cases c2 : Zd8 p = J4 n
  · have hp : n.toNat = p.length := by
      have := congrArg List.length c2
      rw [(Zbw p).length_eq] at this
      unfold J4 at this
      simpa using this.symm
    rw [decide_eq_true c2] at t1 ⊢
    refine Z5 (W7 (t1 rfl) rfl) (Jr ?_)
    have a0 := Zbq (p := p) (δ := [some (.fz (.int n)), some (.fz (Zv p)), z]) (Zc (i := 1)) (Yo (d := .int 0)) (by decide) (by omega)
    by_cases c3 : p.getD 0 0 = 0
    · rw [decide_eq_true c3]
      exact Zsh (Zox a0 Yo (decide_eq_true c3)) (Zgt (Zbq Zc Yo (by decide) (by omega)) (Zal Zc (Zni Yo) (Zla (by omega))) rfl)
    · rw [decide_eq_false c3]
      exact Zrr (Zox a0 Yo (decide_eq_false c3))
  · rw [decide_eq_false c2] at t1 ⊢
    exact Zfj (Zh4 (t1 rfl) (Jr Yo))
noncomputable def Zq5 (n : Nat) (f : Nat → Int) : PyData := .list ((List.range n).map fun j => .int (f j))
noncomputable def Zam (n : Nat) (r : Nat → Nat → Int) : PyData := .list ((List.range n).map fun i => Zq5 n (r i))
theorem Zls {α : Type} {n i : Nat} (f : Nat → α) (h : i < n) : atI ((List.range n).map f) (i : Int) = some (f i) := by
  rw [Zt3, List.getElem?_map, List.getElem?_range h]; rfl
theorem Zkc {n j : Nat} {f : Nat → Int} (h : j < n) : gIx (Zq5 n f) (.int (j : Int)) = some (.fz (.int (f j))) := by
  unfold Zq5; rw [Zjz, Zls _ h]; rfl
theorem Zh1 {n i : Nat} {r : Nat → Nat → Int} (h : i < n) : gIx (Zam n r) (.int (i : Int)) = some (.fz (Zq5 n (r i))) := by
  unfold Zam; rw [Zjz, Zls _ h]; rfl
theorem Zi1 (n : Nat) (r : Nat → Nat → Int) : Ze1 [Zam n r] = some (.int n) := by
  unfold Zam; rw [Znl, List.length_map, List.length_range]
theorem Zkv {t b : Int} (hb : b ≠ 0) : ((Rat.divInt t b).den : Int) ∣ b := by
  rw [Rat.den_divInt, if_neg hb]
  have : (b.natAbs / b.gcd t : Nat) ∣ b.natAbs := Nat.div_dvd_of_dvd (by rw [Int.gcd_eq_natAbs_gcd_natAbs]; exact Nat.gcd_dvd_left ..)
  exact Int.ofNat_dvd_left.mpr this
theorem Zna {a m k : Int} (hk : 0 < k) (hm : 0 < m) : Rat.divInt (k * a) (m * k) = Rat.divInt a m := by
  rw [Int.mul_comm k a]
  exact Rat.divInt_mul_right (by omega)
theorem Zhn {n : Int} {p : List Int} (h : p.length < 64) (hn : n ≤ 1000000) (c : ringB n p = true) : Jc [.int n, Zv p] = .ok (.fz .none) :=
  (Ziu rfl (W7 (Zke (p := true) (Zmo (Z9 (Zd Zc (Zd Zc Zt)) (.of (by rw [Zmz h hn, c]) (OT.data_fz _))))) rfl)).none
noncomputable def Z42 (n a b : Int) : Bool := decide (0 ≤ a) && (decide (a < b) && decide (b < n))
theorem Zht {n a b : Int} (c : Z42 n a b = true) : Jd [.int n, .int a, .int b] = .ok (.fz .none) :=
  (Ziu rfl (W7 (Zke (p := true) (Ze4 (EvV.cast (Znx Yo Zc Zc Zc) (by exact congrArg PyData.bool c)))) rfl)).none
noncomputable def tw (S : Nat → Nat → Int) (x p y q : Nat) : Int := S x y + S p q - S x q - S p y
noncomputable def pn (p : List Int) (i : Nat) : Nat := (p.getD i 0).toNat
noncomputable def InR (n : Nat) (p : List Int) : Prop := p.length = n ∧ ∀ i, i < n → 0 ≤ p.getD i 0 ∧ p.getD i 0 < n
theorem InR.at {n : Nat} {p : List Int} (h : InR n p) {i : Nat} (hi : i < n) : gIx (Zv p) (.int (i : Int)) = some (.fz (.int (pn p i : Nat))) ∧ pn p i < n := by
  obtain ⟨h1, h2⟩ := h
  obtain ⟨a, b⟩ := h2 i hi
  rw [Zr9 (by omega) (by omega), Int.toNat_natCast]
  unfold pn
  rw [Int.toNat_of_nonneg a]
  exact ⟨rfl, by omega⟩
theorem Zrm {b n : Nat} (h : 0 < n) : Zd0 (.int ((b : Int) + 1)) (.int (n : Int)) = some (.int (((b + 1) % n : Nat) : Int)) := by
  rw [Zl1 (by omega), show ((b : Int) + 1).fmod (n : Int) = (((b + 1) % n : Nat) : Int) by rw [Zc4 (by omega)]; push_cast; rfl]
theorem Zll {n x y i j : Nat} {S : Nat → Nat → Int} {δ : Zj} (hx : x < n) (hy : y < n) (h0 : δ[0]? = some (some (.fz (Zam n S)))) (h1 : δ[i]? = some (some (.fz (.int x)))) (h2 : δ[j]? = some (some (.fz (.int y)))) : EvV (W5 gIx (W5 gIx (Zg 0) (Zg i)) (Zg j)) δ (.int (S x y)) := Zal (Zal (Zc h0) (Zc h1) (Zh1 hx)) (Zc h2) (Zkc hy)
theorem Zf6 {n a b : Nat} {S : Nat → Nat → Int} {p : List Int} (h : InR n p) (hab : a < b) (hb : b < n) : Jq [Zam n S, Zv p, .int a, .int b] = .ok (.fz (.int (tw S (pn p a) (pn p (a + 1)) (pn p b) (pn p ((b + 1) % n))))) := by
  have hm : (b + 1) % n < n := Nat.mod_lt _ (by omega)
  obtain ⟨e1, l1⟩ := h.at (i := a) (by omega)
  obtain ⟨e2, l2⟩ := h.at (i := a + 1) (by omega)
  obtain ⟨e3, l3⟩ := h.at hb
  obtain ⟨e4, l4⟩ := h.at hm
  exact Told.int <| Y7 rfl <| Z5 (Zz (Zal Zc Zc e1)) <| Z5 (Zz (Zal Zc (Ww Zc Yo) e2)) <| Z5 (Zz (Zal Zc Zc e3)) <|
    Z5 (Zz (Zal Zc (Zw (Ww Zc Yo) (Zdf (Zd Zc Zt) (Zi1 n S)) (Zrm (by omega))) e4)) <|
    Jr (Zit (Zit (Ww (Zll l1 l3 rfl rfl rfl) (Zll l2 l4 rfl rfl rfl)) (Zll l1 l4 rfl rfl rfl)) (Zll l2 l3 rfl rfl rfl))
noncomputable def Zfv (n : Nat) (R : Nat → Nat → Int) (b : Int) : List (List Rat) := (List.range n).map fun i => (List.range n).map fun j => Rat.divInt (R i j) b
theorem Zvx (T : List (List Rat)) : Ze1 [tbD T] = some (.int T.length) := by
  unfold tbD
  rw [Znl, List.length_map]
theorem Zlq (n : Nat) (R : Nat → Nat → Int) (b : Int) : (Zfv n R b).length = n := by unfold Zfv; simp
theorem Zoz {S R : Nat → Nat → Int} {m k : Int} (hm : 0 < m) (hk : 0 < k) {x p y q : Nat} (h1 : k * S x y = R x y) (h2 : k * S p q = R p q) (h3 : k * S x q = R x q) (h4 : k * S p y = R p y) :
    Rat.divInt (tw S x p y q) (2 * m) = Rat.divInt (tw R x p y q) (2 * (m * k)) := by
  have e : tw R x p y q = k * tw S x p y q := by
    unfold tw
    rw [← h1, ← h2, ← h3, ← h4]
    simp only [Int.mul_add, Int.mul_sub]
  rw [e, show 2 * (m * k) = (2 * m) * k by rw [Int.mul_assoc], Zna hk (by omega)]
theorem Zgm {n a c : Nat} {R : Nat → Nat → Int} {b : Int} {p : List Int} (h : InR n p) (hr : ringB n p = true) (hn : n < 64) (hac : a < c) (hc : c < n) (hb : 0 < b) (bb : Bt 300 b) (bR : ∀ i j, i < n → j < n → Bt 300 (R i j)) :
    Told Ys [tbD (Zfv n R b), Zv p, .int a, .int c] (frD (Rat.divInt (tw R (pn p a) (pn p (a + 1)) (pn p c) (pn p ((c + 1) % n))) (2 * b))) := by
  have hz : ∀ r ∈ Zfv n R b, r.length ≤ 1000 := fun r hr => by
    unfold Zfv at hr
    obtain ⟨x, _, rfl⟩ := List.mem_map.mp hr
    rw [List.length_map, List.length_range]; omega
  have hB : Zzn (Zfv n R b) b := fun r hr q hq => by
    unfold Zfv at hr
    obtain ⟨x, _, rfl⟩ := List.mem_map.mp hr
    obtain ⟨y, _, rfl⟩ := List.mem_map.mp hq
    exact Zkv (by omega)
  have hN : ∀ r ∈ Zfv n R b, ∀ q ∈ r, Bt 300 q.num := fun r hr q hq => by
    unfold Zfv at hr
    obtain ⟨x, hx, rfl⟩ := List.mem_map.mp hr
    obtain ⟨y, hy, rfl⟩ := List.mem_map.mp hq
    exact Zqo (by omega) (bR x y (List.mem_range.mp hx) (List.mem_range.mp hy))
  obtain ⟨m, e1, m0, hm, k, rfl⟩ := Zfo hb bb (by decide) (Zfv n R b) hz hB
  have k0 : 0 < k := by
    by_cases c : 0 < k
    · exact c
    · have := Int.mul_nonpos_of_nonneg_of_nonpos (a := m) (b := k) (by omega) (by omega)
      omega
  have bm : Bt 300 m := Ze3 hb ⟨k, rfl⟩ bb
  have e2 := Zhr m0 bm (Zfv n R (m * k)) (by rw [Zlq]; omega) hz hm hN
  have sc : ∀ x y, x < n → y < n → k * scI m (Rat.divInt (R x y) (m * k)) = R x y := fun x y hx hy => by
    have hd : ((Rat.divInt (R x y) (m * k)).den : Int) ∣ m := hm _ (List.mem_map.mpr ⟨x, List.mem_range.mpr hx, rfl⟩) _ (List.mem_map.mpr ⟨y, List.mem_range.mpr hy, rfl⟩)
    have := Zs8 hd
    have e : ((k * scI m (Rat.divInt (R x y) (m * k)) : Int) : Rat) = ((R x y : Int) : Rat) := by
      have nk : ((k : Int) : Rat) ≠ 0 := by
        intro z
        have : k = 0 := by exact_mod_cast z
        omega
      have nm : ((m : Int) : Rat) ≠ 0 := by
        intro z
        have : m = 0 := by exact_mod_cast z
        omega
      rw [Rat.intCast_mul, this, Rat.divInt_eq_div, Rat.intCast_mul]
      rw [Rat.mul_comm, Rat.mul_assoc]
      exact Rat.div_mul_cancel (fun z => (Rat.mul_eq_zero.mp z).elim nm nk)
    exact_mod_cast e
  have er : PyData.list ((Zfv n R (m * k)).map fun r => .list (r.map fun q => .int (scI m q))) = Zam n (fun i j => scI m (Rat.divInt (R i j) (m * k))) := by
    unfold Zfv Zam
    rw [List.map_map]
    refine congrArg PyData.list (List.map_congr_left fun i _ => ?_)
    show PyData.list _ = Zq5 _ _
    rw [List.map_map]; rfl
  have hmod : (c + 1) % n < n := Nat.mod_lt _ (by omega)
  obtain ⟨_, l1⟩ := h.at (i := a) (by omega)
  obtain ⟨_, l2⟩ := h.at (i := a + 1) (by omega)
  obtain ⟨_, l3⟩ := h.at hc
  obtain ⟨_, l4⟩ := h.at hmod
  have eS : Told Ja [.int m, tbD (Zfv n R (m * k))] (Zam n (fun i j => scI m (Rat.divInt (R i j) (m * k)))) := er ▸ e2
  have hg : Zc7 (.int 2) (.int m) = some (.int (2 * m)) := Zf2 (Ztl (by decide))
  have hle : Ze1 [tbD (Zfv n R (m * k))] = some (.int n) := by rw [Zvx, Zlq]
  have eF := Zk6 (n := 302) (t := tw (fun i j => scI m (Rat.divInt (R i j) (m * k))) (pn p a) (pn p (a + 1)) (pn p c) (pn p ((c + 1) % n))) (b := 2 * m) (by omega) (Bt.mul (m := 2) (Bt.of_lt (by decide) (by decide)) bm)
  rw [Zoz m0 k0 (sc _ _ l1 l3) (sc _ _ l2 l4) (sc _ _ l1 l4) (sc _ _ l2 l3)] at eF
  exact Y7 rfl <| Z5 (Z2m (Zd (Zdf (Zd Zc Zt) hle) (Zd Zc Zt)) (.of (Zhn (by rw [h.1]; omega) (by omega) hr) (OT.data_fz _)) fun _ _ => rfl) <|
    Z5 (Z2m (Zd (Zdf (Zd Zc Zt) hle) (Zd Zc (Zd Zc Zt))) (.of (Zht (by unfold Z42; simp; omega)) (OT.data_fz _)) fun _ _ => rfl) <|
    Z5 (Zz (Z9 (Zd Zc Zt) e1)) <|
    Z74 (Zd (Z9 (Zd (Z9 (Zd Zc (Zd Zc Zt)) eS) (Zd Zc (Zd Zc (Zd Zc Zt)))) (.of (Zf6 h hac hc) (OT.data_fz _))) (Zd (Zw Yo Zc hg) Zt)) eF
theorem Zg3 {n : Nat} {t b : Int} (hb : 0 < b) (hB : Bt n b) (hn : n ≤ 9000 := by decide) : Told Yv [.int t, .int b] (frD (Rat.divInt t b)) := by
  obtain ⟨z', e⟩ := Zhl (f1 := fun x y z => [some (.fz (.int t)), some (.fz (.int b)), some (.fz (.int x)), some (.fz (.int y)), z]) (f2 := fun x y z => []) (t := tV (Zk gNe (Zg 3) (fC (.int 0)))) (u := Yu (wE (Zk Zd0 (Zg 2) (Zg 3)) (Jj 4)) (Yu (wE (Zg 3) (Jj 2)) (wE (Zg 4) (Jj 3)))) (fun x y z => Ze4 (Zru Zc Yo rfl)) (fun x y z hy => ⟨_, W3 (Zz (Zaj Zc Zc hy)) (W3 (Zz Zc) (Zz Zc))⟩) (b.toNat + 1) (t.natAbs : Int) b none (by omega) (by omega) (by omega)
  have eg : (Int.gcd (t.natAbs : Int) b : Int) = shr t b := by
    unfold shr
    rw [if_neg (by omega), Int.gcd_eq_natAbs_gcd_natAbs, Int.gcd_eq_natAbs_gcd_natAbs, Int.natAbs_natCast]
  obtain ⟨e1, e2⟩ := Z0m (t := t) (b := b) (by omega) hB hn _ eg
  exact Y7 rfl <| Z5 (Zz (Zdf (Zd Zc Zt) (Zpw t))) <| Z5 (Zz Zc) <| Z5 (Zj8 _ e (by intro z; cases z)) (Jr (Ze0 (Zd (Zw Zc Zc e1) (Zd (Zw Zc Zc e2) Zt)) (show 2 ≤ 1000 by decide)))
theorem Z7p : Zue (.int 10) (.int 20) = some (.int 100000000000000000000) := rfl
theorem Z64 : Zue (.int 10) (.int 15) = some (.int 1000000000000000) := rfl
theorem btc {n : Nat} {m : Int} (h1 : decide (-(2 ^ n) < m) = true) (h2 : decide (m < 2 ^ n) = true) : Bt n m := Bt.of_lt (of_decide_eq_true h1) (of_decide_eq_true h2)
noncomputable def Znc (r : List Int) : OT := .nd (r.map fun x => .fz (.int x))
noncomputable def Dr (n : Nat) (base : Int) (L : List (List Int)) : Prop := L.length = n ∧ ∀ r ∈ L, r.length = n ∧ ∀ x ∈ r, 0 ≤ x ∧ x < base
theorem Dr.put {n : Nat} {base v : Int} {L : List (List Int)} (h : Dr n base L) (h0 : 0 ≤ v) (h1 : v < base) (a b : Nat) : Dr n base (L.set a ((L.getD a []).set b v)) := by
  refine ⟨by rw [List.length_set]; exact h.1, fun r hr => ?_⟩
  rcases List.mem_or_eq_of_mem_set hr with hr | rfl
  · exact h.2 r hr
  · by_cases c : a < L.length
    · have m : L.getD a [] ∈ L := by rw [List.getD_eq_getElem?_getD, List.getElem?_eq_getElem c]; exact List.getElem_mem c
      obtain ⟨h3, h4⟩ := h.2 _ m
      refine ⟨by rw [List.length_set]; exact h3, fun x hx => ?_⟩
      rcases List.mem_or_eq_of_mem_set hx with hx | rfl
      · exact h4 x hx
      · exact ⟨h0, h1⟩
    · rw [List.set_eq_of_length_le (by omega)] at hr
      exact h.2 _ hr
theorem Zob {i : Nat} {e j j2 : FE} {δ : Zj} {d : Int} {L : List (List Int)} {a b : Nat} (he : EvV e δ (.int d)) (hi : δ[i]? = some (some (.nd (L.map Znc)))) (hj : EvV j δ (.int a)) (ha : a < L.length) (hk : EvV j2 δ (.int b)) (hb : b < (L.getD a []).length) :
    Zqq i e j j2 δ = .nx (δ.set i (some (.nd ((L.set a ((L.getD a []).set b d)).map Znc)))) := by
  have e1 : (L.map Znc)[a]? = some (.nd ((L.getD a []).map fun x => .fz (.int x))) := by
    rw [List.getElem?_map, List.getElem?_eq_getElem ha, List.getD_eq_getElem?_getD, List.getElem?_eq_getElem ha]; rfl
  obtain ⟨_, e2, d2⟩ := he
  obtain ⟨_, e3, d3⟩ := hj
  obtain ⟨_, e4, d4⟩ := hk
  unfold Zqq
  rw [Zdm, e2, Yx, hi]
  dsimp only
  rw [Zdm, e3, Yx, d3]
  dsimp only
  rw [Zl4 (by rw [List.length_map]; exact ha)]
  dsimp only
  rw [e1]
  dsimp only
  rw [Zdm, e4, Yx, d4]
  dsimp only
  rw [Zl4 (by rw [List.length_map]; exact hb)]
  dsimp only
  rw [d2]
  refine congrArg RS.nx (congrArg (δ.set i) (congrArg some (congrArg OT.nd ?_)))
  rw [List.map_set]
  refine congrArg _ ?_
  show _ = OT.nd _
  rw [List.map_set]
noncomputable def fnL (L : List (List Int)) (i j : Nat) : Int := (L.getD i []).getD j 0
theorem Zn7 {L : List (List Int)} {a b : Nat} {v : Int} (ha : a < L.length) (hb : b < (L.getD a []).length) (x y : Nat) : fnL (L.set a ((L.getD a []).set b v)) x y = if x = a ∧ y = b then v else fnL L x y := by
  unfold fnL
  rw [List.getD_eq_getElem?_getD (l := L.set a _), List.getElem?_set]
  by_cases c : a = x
  · subst c
    rw [if_pos rfl, if_pos ha]
    show (((L.getD a []).set b v).getD y 0) = _
    rw [List.getD_eq_getElem?_getD, List.getElem?_set]
    by_cases e : b = y
    · subst e
      rw [if_pos rfl, if_pos hb, if_pos ⟨rfl, rfl⟩]; rfl
    · rw [if_neg e, if_neg fun z => e z.2.symm, ← List.getD_eq_getElem?_getD]
  · rw [if_neg c, if_neg fun z => c z.1.symm, ← List.getD_eq_getElem?_getD]
noncomputable def Sy (n : Nat) (L : List (List Int)) : Prop := ∀ i j, i < n → j < n → fnL L i j = fnL L j i ∧ fnL L i i = 0
theorem Zse (ns : List Int) (n : Nat) (hn : n ≤ 10) {base : Int} (hb : 0 < base) (c : Int) : ∃ L, Told Jp [Zv ns, .int 3, .int n, .int base, .int c] (OT.nd (L.map Znc)).data ∧ Dr n base L ∧ Sy n L := by
  have e0 : ∀ {δ : Zj}, δ[2]? = some (some (.fz (.int n))) → blk 1 [2] δ = [none, some (.fz (.int n))] → (Zak 1 [2] (iRa (Zh (Zg 2) Yk)) (gNm 0) Zge (Zw6 (fC (.int 0)) (Zg 1))) δ = some (.nd ((List.range n).map fun _ => Znc (List.replicate n 0)), δ) := fun h2 hb => Zlj (cs := [some (.fz (.int n))]) (List.range n) (fun i : Nat => PyData.int (0 + (i : Int))) (fun _ => Znc (List.replicate n 0)) (Zgi (Zd (Zc h2) Zt) (by omega)) (by rw [List.length_range, sizeLine_eq]; omega) hb fun x _ => by
    unfold Znc
    rw [List.map_replicate]
    exact Zzj (by omega)
  have len : ∀ {L : List (List Int)} (k : Nat), Dr n base L → k < n → (L.getD k []).length = n := fun {L} k h hk => by
    refine (h.2 _ ?_).1
    rw [List.getD_eq_getElem?_getD, List.getElem?_eq_getElem (by rw [h.1]; exact hk)]
    exact List.getElem_mem _
  have key : ∃ d, Told Jp [Zv ns, (.int 3), .int n, .int base, .int c] d ∧ ∃ L, d = (OT.nd (L.map Znc)).data ∧ Dr n base L ∧ Sy n L := by
    refine Zpj rfl <| Zei (Zhp (e0 rfl rfl)) <| Zi0 (ds := Zda 0 n) (fun i δ => ∃ (L : List (List Int)) (z1 z2 z3 z4 : Option OT), δ = [some (.fz (Zv ns)), some (.fz (.int 3)), some (.fz (.int n)), some (.fz (.int base)), some (.fz (.int c)), some (.nd (L.map Znc)), z1, z2, z3, z4] ∧ Dr n base L ∧ Sy n L) (Zgi (Zd Zc Zt) (by omega)) ⟨(List.range n).map fun _ => List.replicate n 0, none, none, none, none, by rw [List.map_map]; rfl, ⟨by rw [List.length_map, List.length_range], fun r hr => by
      obtain ⟨_, _, rfl⟩ := List.mem_map.mp hr
      exact ⟨List.length_replicate, fun x hx => by rw [List.eq_of_mem_replicate hx]; omega⟩⟩, fun i j hi hj => by
      have z : ∀ i j, i < n → j < n → fnL ((List.range n).map fun _ => List.replicate n 0) i j = 0 := fun i j hi hj => by
        unfold fnL
        rw [List.getD_eq_getElem?_getD (l := List.map _ _), List.getElem?_map, List.getElem?_range hi]
        show (List.replicate n (0 : Int)).getD j 0 = 0
        rw [List.getD_eq_getElem?_getD, List.getElem?_replicate, if_pos hj]; rfl
      exact ⟨by rw [z i j hi hj, z j i hj hi], z i i hi hi⟩⟩ (fun i d δ hd q => ?_) fun δ' q => by obtain ⟨L, z1, z2, z3, z4, rfl, hL, sy⟩ := q; exact Z4x rfl ⟨L, rfl, hL, sy⟩
    obtain ⟨L, z1, z2, z3, z4, rfl, hL, sy⟩ := q
    obtain ⟨hi, rfl⟩ := Zbi hd
    rw [Int.zero_add]
    refine Zly (ds := Zda 0 i) (fun j δ => ∃ (L : List (List Int)) (z2 z3 z4 : Option OT), δ = [some (.fz (Zv ns)), some (.fz (.int 3)), some (.fz (.int n)), some (.fz (.int base)), some (.fz (.int c)), some (.nd (L.map Znc)), some (.fz (.int i)), z2, z3, z4] ∧ Dr n base L ∧ Sy n L) rfl (Zgi (Zd Zc Zt) (by omega)) ⟨L, z2, z3, z4, rfl, hL, sy⟩ (fun j d δ hd q => ?_) fun δ' q => by obtain ⟨L, z2, z3, z4, e, hL, sy⟩ := q; exact ⟨L, _, _, _, _, e, hL, sy⟩
    · obtain ⟨L, z2, z3, z4, rfl, hL, sy⟩ := q
      obtain ⟨hj, rfl⟩ := Zbi hd
      rw [Int.zero_add]
      obtain ⟨at', hat, a0⟩ : ∃ k, ((i : Int) * ((i : Int) - 1)).fdiv 2 + (j : Int) = k ∧ 0 ≤ k := by
        refine ⟨_, rfl, ?_⟩
        have hsm : 0 ≤ (i : Int) * ((i : Int) - 1) := Int.mul_nonneg (by omega) (by omega)
        rw [Wl (by decide)]
        omega
      obtain ⟨v, ev⟩ := Zhk c (90 + at')
      have w1 : ∀ {δ : Zj}, δ[6]? = some (some (.fz (.int i))) → δ[7]? = some (some (.fz (.int j))) → EvV (Zk Zcj (Zk J0 (Zk Zc7 (Zg 6) (Zk gSb (Zg 6) (fC (.int 1)))) (fC (.int 2))) (Zg 7)) δ (.int at') := fun h6 h7 => hat ▸ Ww (Zdo (Zba (Zc h6) (Zit (Zc h6) Yo) (by omega)) Yo) (Zc h7)
      have w3 : ∀ {δ : Zj}, δ[0]? = some (some (.fz (Zv ns))) → δ[1]? = some (some (.fz (.int 3))) → δ[8]? = some (some (.fz (.int at'))) → δ[9]? = some (some (.fz (.int v))) → ∃ w, Zde (tV (Zk gLt (Zk Zcj (Zg 1) (Zg 8)) (Ze5 Ze1 (Zh (Zg 0) Yk)))) (wE (W5 gIx (Zg 0) (Zk Zcj (Zg 1) (Zg 8))) (Jj 9)) fNx δ = .nx (δ.set 9 (some (.fz (.int w)))) := fun {δ} h0 h1 h8 h9 => by
        by_cases q : 3 + at' < ns.length
        · exact ⟨_, Zeu (Ze4 (Zgt (Ww (Zc h1) (Zc h8)) (Zad (Zc h0)) (decide_eq_true q))) (Zz (Zbq (Zc h0) (Ww (Zc h1) (Zc h8)) (by omega) q))⟩
        · exact ⟨v, (W7 (Ze4 (Zgt (Ww (Zc h1) (Zc h8)) (Zad (Zc h0)) (decide_eq_false q))) rfl).trans (congrArg RS.nx (Zq9 h9).symm)⟩
      obtain ⟨w, e3⟩ := w3 (δ := [some (.fz (Zv ns)), some (.fz (.int 3)), some (.fz (.int n)), some (.fz (.int base)), some (.fz (.int c)), some (.nd (L.map Znc)), some (.fz (.int i)), some (.fz (.int j)), some (.fz (.int at')), some (.fz (.int v))]) rfl rfl rfl rfl
      have w0 : 0 ≤ w.fmod base := Zcu hb
      have w1' : w.fmod base < base := Zck hb
      have D1 := hL.put w0 w1' i j
      exact ⟨_, _, rfl, .inl (W3 (Zz (w1 rfl rfl)) <| W3 (Zz (Z9 (Zd Zc (Zd (Ww Yo Zc) Zt)) ev)) <| W3 e3 <|
        W3 (Zob (L := L) (a := i) (b := j) (Zaj Zc Zc (by omega)) rfl Zc (by rw [hL.1]; exact hi) Zc (by rw [len i hL hi]; omega)) (Zob (L := L.set i ((L.getD i []).set j (w.fmod base))) (a := j) (b := i) (Zaj Zc Zc (by omega)) rfl Zc (by rw [D1.1]; omega) Zc (by rw [len j D1 (by omega)]; omega))), _, _, _, _, rfl, D1.put w0 w1' j i, fun x y hx hy => by
          have f2 := Zn7 (L := L.set i ((L.getD i []).set j (w.fmod base))) (a := j) (b := i) (v := w.fmod base) (by rw [D1.1]; omega) (by rw [len j D1 (by omega)]; exact hi)
          have f1 := Zn7 (L := L) (a := i) (b := j) (v := w.fmod base) (by rw [hL.1]; exact hi) (by rw [len i hL hi]; omega)
          rw [f2, f2, f2, f1, f1, f1]
          obtain ⟨s1, s2⟩ := sy x y hx hy
          refine ⟨?_, by rw [if_neg (by omega), if_neg (by omega)]; exact s2⟩
          by_cases c1 : x = j ∧ y = i
          · rw [if_pos c1, if_neg (by omega), if_pos ⟨c1.2, c1.1⟩]
          · rw [if_neg c1]
            by_cases c2 : x = i ∧ y = j
            · rw [if_pos c2, if_pos ⟨c2.2, c2.1⟩]
            · rw [if_neg c2, if_neg (by omega), if_neg (by omega)]; exact s1⟩
  obtain ⟨d, h, L, rfl, hL, sy⟩ := key
  exact ⟨L, h, hL, sy⟩
noncomputable def Zrl (p : List Int) (lo hi : Option Int) : List Int := (p.drop (HT.sIx p.length 0 lo)).take (HT.sIx p.length p.length hi - HT.sIx p.length 0 lo)
theorem Zrv (p : List Int) (lo hi : Option Int) : cutD (p.map PyData.int) lo hi = (Zrl p lo hi).map PyData.int := by
  unfold cutD Zrl
  rw [List.length_map, List.map_take, List.map_drop]
theorem Zpd {p : List Int} {k : Nat} (h : k ≤ p.length) : Zrl p none (some (k : Int)) = p.take k := by
  unfold Zrl
  rw [HT.sIx_none, HT.sIx_nat, List.drop_zero, Nat.sub_zero, Nat.min_eq_left h]
theorem Zql {p : List Int} {k : Nat} (h : k ≤ p.length) : Zrl p (some (k : Int)) none = p.drop k := by
  unfold Zrl
  rw [HT.sIx_none, HT.sIx_nat, Nat.min_eq_left h, List.take_of_length_le (by rw [List.length_drop]; omega)]
theorem Zr6 (e : FE) (lo hi st : FO) (δ : Zj) : Zr2 e lo hi st δ = (e δ).bind fun p => (lo p.2).bind fun q => (hi q.2).bind fun r => (st r.2).bind fun t => (stepOf p.1.data q.1 r.1 t.1).bind fun o => some (o, t.2) := rfl
theorem Zoc (p : List Int) : stepOf (Zv p) none (some 0) (some (-1)) = some (.nd ((((p.drop 1).reverse).map PyData.int).map OT.fz)) := by
  unfold Zv
  rw [Zkd, show ((p.map PyData.int).drop 1).reverse = ((p.drop 1).reverse).map PyData.int by rw [List.map_reverse, List.map_drop]]
noncomputable def Pm (n : Nat) (p : List Int) : Prop := p.Perm (J4 n)
theorem Zew {n : Nat} {x : Int} : x ∈ J4 n ↔ 0 ≤ x ∧ x < n := by
  unfold J4
  rw [Int.toNat_natCast, List.mem_map]
  constructor
  · rintro ⟨i, hi, rfl⟩
    have := List.mem_range.mp hi
    omega
  · rintro ⟨h0, h1⟩
    exact ⟨x.toNat, List.mem_range.mpr (by omega), by omega⟩
theorem Zjb (n : Nat) : (J4 n).Nodup := by
  unfold J4
  rw [Int.toNat_natCast]
  exact List.pairwise_map.mpr (List.nodup_range.imp fun h e => h (by omega))
theorem Zhv (n : Nat) : (J4 n).Pairwise (· ≤ ·) := by
  unfold J4
  rw [Int.toNat_natCast, List.pairwise_map]
  exact List.pairwise_lt_range.imp fun h => by omega
theorem Zen (n : Nat) : (J4 n).length = n := by unfold J4; simp
theorem Pm.len {n : Nat} {p : List Int} (h : Pm n p) : p.length = n := by rw [h.length_eq, Zen]
theorem Pm.nodup {n : Nat} {p : List Int} (h : Pm n p) : p.Nodup := h.nodup_iff.mpr (Zjb n)
theorem getD_mem {p : List Int} {i : Nat} (h : i < p.length) : p.getD i 0 ∈ p := by
  rw [List.getD_eq_getElem?_getD, List.getElem?_eq_getElem h]; exact List.getElem_mem h
theorem Pm.inR {n : Nat} {p : List Int} (h : Pm n p) : InR n p := ⟨h.len, fun i hi => Zew.mp (h.mem_iff.mp (getD_mem (by rw [h.len]; exact hi)))⟩
theorem Pm.ne {n : Nat} {p : List Int} (h : Pm n p) {i j : Nat} (hi : i < n) (hj : j < n) (e : p.getD i 0 = p.getD j 0) : i = j := by
  have hl := h.len
  rw [List.getD_eq_getElem?_getD, List.getD_eq_getElem?_getD, List.getElem?_eq_getElem (by omega), List.getElem?_eq_getElem (by omega)] at e
  have nd := List.pairwise_iff_getElem.mp h.nodup
  rcases Nat.lt_trichotomy i j with c | c | c
  · exact (nd i j (by omega) (by omega) c e).elim
  · exact c
  · exact (nd j i (by omega) (by omega) c e.symm).elim
theorem Pm.ringB {n : Nat} {p : List Int} (h : Pm n p) (h3 : 3 ≤ n) (h0 : p.getD 0 0 = 0) (h1 : p.getD 1 0 < p.getD (n - 1) 0) : ringB n p = true := by
  unfold My.ringB
  rw [decide_eq_true (show (3 : Int) ≤ n by omega), decide_eq_true (Zb4 ((Zbw p).trans h) (Zcy p) (Zhv n)), decide_eq_true h0, h.len, decide_eq_true h1]
  rfl
theorem Zrd {a b : FE} {δ : Zj} {p : List Int} {k : Int} (ha : a δ = some (.fz (Zv p), δ)) (hp : p.length ≤ 1000) (hb : b δ = some (.fz (.int k), δ)) (hk : k ∈ p) : Zis a b δ = some (.fz (.int (p.idxOf k : Nat)), δ) := by
  unfold Zis
  rw [ha, Option.bind_some, OT.data_fz]
  unfold Zv
  dsimp only
  rw [Zgb, Option.bind_some, if_pos (by omega), hb, Option.bind_some, OT.data_fz]
  dsimp only
  rw [if_pos hk]
noncomputable def flip (w : List Int) : List Int := w.take 1 ++ (w.drop 1).reverse
theorem Ziz (a : Int) (t : List Int) : flip (a :: t) = a :: t.reverse := rfl
theorem Znv (w : List Int) : (flip w).Perm w := by
  cases w with
  | nil => exact .nil
  | cons a t => rw [Ziz]; exact (List.reverse_perm t).cons a
theorem Zq1 {w : List Int} (h : 2 ≤ w.length) : (flip w).getD 0 0 = w.getD 0 0 ∧ (flip w).getD 1 0 = w.getD (w.length - 1) 0 ∧ (flip w).getD (w.length - 1) 0 = w.getD 1 0 := by
  match w, h with
  | a :: b :: t, _ =>
    rw [Ziz]
    simp only [List.getD_eq_getElem?_getD, List.length_cons]
    refine ⟨rfl, ?_, ?_⟩
    · rw [List.getElem?_cons_succ, List.getElem?_reverse (by simp)]
      simp only [List.length_cons, Nat.add_sub_cancel, Nat.sub_zero]
      rw [List.getElem?_cons_succ (l := b :: t)]
    · rw [show t.length + 1 + 1 - 1 = t.length + 1 by omega, List.getElem?_cons_succ, List.getElem?_reverse (by simp)]
      simp
theorem Zpl {e : FE} {δ : Zj} {r p : List Int} {lo hi : FO} {l h : Option Int} (he : EvV e δ (Zv r)) (hl : EvO lo δ l) (hh : EvO hi δ h) (hp : Zrl r l h = p) : EvV (fSl e lo hi) δ (Zv p) := hp ▸ (Z22 (ds := r.map PyData.int) he hl hh).cast (by rw [Zrv]; rfl)
theorem Zty {a b : FE} {δ : Zj} {p q : List Int} (ha : EvV a δ (Zv p)) (hb : EvV b δ (Zv q)) (h : p.length ≤ 1000) (k : q.length ≤ 1000) : EvV (W5 Zqw a b) δ (Zv (p ++ q)) := (Ztn (ds := p.map PyData.int) (es := q.map PyData.int) ha hb (by rw [List.length_map, List.length_map]; omega)).cast (by rw [← List.map_append]; rfl)
theorem Zuv {e : FE} {δ : Zj} {r : List Int} {hi st : FO} (he : EvV e δ (Zv r)) (hh : EvO hi δ (some 0)) (hs : EvO st δ (some (-1))) : EvV (Zr2 e oN hi st) δ (Zv ((r.drop 1).reverse)) := by
  obtain ⟨t, e1, d1⟩ := he
  unfold EvO at hh hs
  exact ⟨_, by rw [Zr6, e1, Option.bind_some, Z37, Option.bind_some, hh, Option.bind_some, hs, Option.bind_some, d1, Zoc, Option.bind_some], Zpb _⟩
theorem Zjx {n : Nat} {p : List Int} (h : Pm n p) (h3 : 3 ≤ n) (hn : n ≤ 10) : ∃ r, Told Jk [Zv p] (Zv r) ∧ Pm n r ∧ r.getD 0 0 = 0 ∧ r.getD 1 0 < r.getD (n - 1) 0 := by
  have hl := h.len
  have m0 : (0 : Int) ∈ p := h.mem_iff.mpr (Zew.mpr (by omega))
  have hk : p.idxOf 0 < p.length := List.idxOf_lt_length_of_mem m0
  obtain ⟨k, ek⟩ : ∃ k, p.idxOf 0 = k := ⟨_, rfl⟩
  obtain ⟨w, ew⟩ : ∃ w, p.drop k ++ p.take k = w := ⟨_, rfl⟩
  have hw : Pm n w := by
    unfold Pm
    rw [← ew]
    refine (List.perm_append_comm.trans ?_).trans h
    rw [List.take_append_drop]
  have wl := hw.len
  have w0 : w.getD 0 0 = 0 := by
    rw [← ew, List.getD_eq_getElem?_getD, List.getElem?_append_left (by rw [List.length_drop]; omega), List.getElem?_drop, Nat.add_zero, List.getElem?_eq_getElem (by omega)]
    subst ek
    exact List.getElem_idxOf hk
  have e1 : ∀ {δ : Zj}, δ[0]? = some (some (.fz (Zv p))) → EvV (Zis (Zg 0) (fC (.int 0))) δ (.int k) := fun h0 => ⟨_, by rw [Zrd (p := p) (k := 0) (by rw [Zku, h0, Zks]) (by omega) rfl m0, ek], OT.data_fz _⟩
  have e2 : ∀ {δ : Zj}, δ[0]? = some (some (.fz (Zv p))) → δ[1]? = some (some (.fz (.int k))) → EvV (W5 Zqw (fSl (Zg 0) (oI (Zg 1)) oN) (fSl (Zg 0) oN (oI (Zg 1)))) δ (Zv w) := fun h0 h1 => ew ▸ Zty (Zpl (Zc h0) (Zw0 (Zc h1)) Z3g (Zql (by omega))) (Zpl (Zc h0) Z3g (Zw0 (Zc h1)) (Zpd (by omega))) (by rw [List.length_drop]; omega) (by rw [List.length_take]; omega)
  have e3 : ∀ {δ : Zj} {b : Bool}, decide (w.getD (n - 1) 0 < w.getD 1 0) = b → δ[2]? = some (some (.fz (Zv w))) → EvT (tAn (tV (Zk gGt (Ze5 Ze1 (Zh (Zg 2) Yk)) (fC (.int 2)))) (tV (Zk gGt (W5 gIx (Zg 2) (fC (.int 1))) (W5 gIx (Zg 2) (fUn Zs4 (fC (.int 1))))))) δ b := fun hb h2 => Z27 (Ze4 (Zwl (Zad (Zc h2)) Yo (decide_eq_true (by omega)))) (Ze4 (Zwl (Zbq (Zc h2) Yo (by decide) (by omega)) (Zal (Zc h2) (Zni Yo) (Zla (by omega))) (by rw [wl]; exact hb)))
  by_cases c : w.getD (n - 1) 0 < w.getD 1 0
  · obtain ⟨g0, g1, g2⟩ := Zq1 (w := w) (by omega)
    rw [wl] at g1 g2
    exact ⟨flip w, Y7 rfl <| Z5 (Zz (e1 rfl)) <| Z5 (Zz (e2 rfl rfl)) <| Z5 (Zeu (e3 (decide_eq_true c) rfl) (Zz (Zty (Zpl Zc Z3g (Zw0 Yo) (Zpd (k := 1) (by omega))) (Zuv Zc rfl rfl) (by rw [List.length_take]; omega) (by rw [List.length_reverse, List.length_drop]; omega)))) (Jr Zc), (Znv w).trans hw, by rw [g0, w0], by rw [g1, g2]; exact c⟩
  · refine ⟨w, Y7 rfl <| Z5 (Zz (e1 rfl)) <| Z5 (Zz (e2 rfl rfl)) <| Z5 (W7 (e3 (decide_eq_false c) rfl) rfl) (Jr Zc), hw, w0, ?_⟩
    have : w.getD 1 0 ≠ w.getD (n - 1) 0 := fun e => by
      have := hw.ne (by omega) (by omega) e
      omega
    omega
theorem Zjr {α β : Type} (f : α → β) : ∀ (l : List α) (j : Nat), (l.map f).eraseIdx j = (l.eraseIdx j).map f
  | [], _ => rfl
  | _ :: _, 0 => rfl
  | a :: l, j + 1 => by
    show f a :: (l.map f).eraseIdx j = f a :: (l.eraseIdx j).map f
    rw [Zjr f l j]
theorem Zhe : ∀ (l : List Int) (j : Nat), j < l.length → (l.getD j 0 :: l.eraseIdx j).Perm l
  | [], _, h => by simp at h
  | a :: l, 0, _ => .refl _
  | a :: l, j + 1, h => by
    have := Zhe l j (by simpa using h)
    show (l.getD j 0 :: a :: l.eraseIdx j).Perm (a :: l)
    exact (List.Perm.swap _ _ _).trans (this.cons a)
theorem Zz8 {i : Nat} {a : FE} {δ : Zj} {l : List Int} {j : Nat} (hi : δ[i]? = some (some (.nd (l.map fun x => .fz (.int x))))) (ha : a δ = some (.fz (.int j), δ)) (hj : j < l.length) (hl : l.length ≤ 1000) :
    Zys i a δ = some (.fz (.int (l.getD j 0)), δ.set i (some (.nd ((l.eraseIdx j).map fun x => .fz (.int x))))) := by
  have e1 : (l.map fun x => OT.fz (.int x))[j]? = some (.fz (.int (l.getD j 0))) := by
    rw [List.getElem?_map, List.getD_eq_getElem?_getD, List.getElem?_eq_getElem hj]; rfl
  unfold Zys
  rw [hi]
  dsimp only
  rw [ha, Option.bind_some]
  dsimp only
  rw [hi]
  dsimp only
  rw [OT.data_fz]
  dsimp only
  rw [Zl4 (by rw [List.length_map]; exact hj)]
  dsimp only
  rw [e1]
  dsimp only
  rw [if_pos (by rw [List.length_map, sizeLine_eq]; omega)]
  refine congrArg some (congrArg (Prod.mk _) (congrArg (δ.set i) (congrArg some (congrArg OT.nd ?_))))
  rw [Zjr]
theorem Zkk (c : Int) {n : Nat} (h3 : 3 ≤ n) (hn : n ≤ 10) : ∃ r, Told Jx [.int c, .int n] (Zv r) ∧ Pm n r ∧ r.getD 0 0 = 0 ∧ r.getD 1 0 < r.getD (n - 1) 0 := by
  obtain ⟨vs, e0, hv⟩ := Zmi c n (by omega)
  have e1 : ∀ {δ : Zj}, δ[1]? = some (some (.fz (.int n))) → (Ztq (Zh (Zg 1) Yk)) δ = some (.nd ((J4 n).map fun x => OT.fz (.int x)), δ) := fun h1 => by
    rw [Znz, Zle, Zku, h1, Zks, Option.bind_some, Zwq, Option.bind_some, Option.bind_some, Zc6, Zea, OT.data_fz, Zt9, if_pos ⟨Zg2 (by omega) (by omega), by rw [sizeLine_eq]; omega⟩]
    refine congrArg some (congrArg (fun t => (t, _)) (congrArg OT.nd ?_))
    unfold Zda J4
    rw [List.map_map, List.map_map]
    refine List.map_congr_left fun i _ => ?_
    show OT.fz (.int (0 + (i : Int))) = OT.fz (.int (i : Int))
    rw [Int.zero_add]
  have key : ∃ d, Told Jx [.int c, .int n] d ∧ ∃ r, d = Zv r ∧ Pm n r ∧ r.getD 0 0 = 0 ∧ r.getD 1 0 < r.getD (n - 1) 0 := by
    refine Zpj rfl <| Zei (Zz (Z9 (Zd Zc (Zd Zc Zt)) e0)) <| Zei (Zhp (e1 rfl)) <| Zei Zqh <| Zi0 (ds := Zda 0 n) (fun i δ => ∃ (l r : List Int) (z : Option OT), δ = [some (.fz (.int c)), some (.fz (.int n)), some (.fz (Zv vs)), some (.nd (l.map fun x => .fz (.int x))), some (.nd (r.map fun x => .fz (.int x))), z] ∧ (r ++ l).Perm (J4 n) ∧ r.length = i) (Zgi (Zd Zc Zt) (by omega)) ⟨J4 n, [], none, rfl, .refl _, rfl⟩ (fun i d δ hd q => ?_) fun δ' q => ?_
    · obtain ⟨l, r, z, rfl, hp, hr⟩ := q
      obtain ⟨hi, rfl⟩ := Zbi hd
      rw [Int.zero_add]
      have hl := hp.length_eq
      rw [List.length_append, Zen] at hl
      obtain ⟨j, ej, hj⟩ := Zj7 (vs.getD i 0) (n := l.length) (by omega)
      have ep : EvV (Zk Zd0 (W5 gIx (Zg 2) (Zg 5)) (Ze5 Ze1 (Zh (Zmf 3) Yk))) [some (.fz (.int c)), some (.fz (.int n)), some (.fz (Zv vs)), some (.nd (l.map fun x => .fz (.int x))), some (.nd (r.map fun x => .fz (.int x))), some (.fz (.int i))] (.int j) := EvV.cast (Zaj (j := l.length) (Zbq (p := vs) (i := (i : Int)) Zc Zc (by omega) (by omega)) (Zad (Zjd rfl (Zib l))) (by omega)) (congrArg _ ej)
      obtain ⟨t, e2, d2⟩ := ep
      rw [Zlb d2] at e2
      refine ⟨_, _, rfl, .inl (Zqc (vs := r) (Zz8 (l := l) (j := j) rfl e2 hj (by omega)) rfl rfl (by omega)), l.eraseIdx j, r ++ [l.getD j 0], some (.fz (.int i)), rfl, ?_, by rw [List.length_append, hr]; rfl⟩
      rw [List.append_assoc]
      exact (List.Perm.append_left r (Zhe l j hj)).trans hp
    · obtain ⟨l, r, z, rfl, hp, hr⟩ := q
      rw [Zdx] at hr
      have hl := hp.length_eq
      rw [List.length_append, Zen] at hl
      have hl : l = [] := List.length_eq_zero_iff.mp (by omega)
      subst hl
      rw [List.append_nil] at hp
      obtain ⟨q, e1, h1⟩ := Zjx hp h3 hn
      exact Zqj rfl (Zot (Z9 (Zd (Zc (d := Zv r) (by rw [Zib]; rfl)) Zt) e1) ⟨q, rfl, h1⟩)
  obtain ⟨d, h, r, rfl, hr⟩ := key
  exact ⟨r, h, hr⟩
noncomputable def sm (f : Nat → Int) : Nat → Int
  | 0 => 0
  | n + 1 => sm f n + f n
theorem Zec {f g : Nat → Int} : ∀ n, (∀ i, i < n → f i = g i) → sm f n = sm g n
  | 0, _ => rfl
  | n + 1, h => by rw [sm, sm, Zec n fun i hi => h i (Nat.lt_succ_of_lt hi), h n (Nat.lt_succ_self n)]
theorem Zts (f g : Nat → Int) : ∀ n, sm (fun i => f i + g i) n = sm f n + sm g n
  | 0 => rfl
  | n + 1 => by rw [sm, sm, sm, Zts f g n]; omega
theorem Zh5 : ∀ n, sm (fun _ => 0) n = 0
  | 0 => rfl
  | n + 1 => by rw [sm, Zh5 n]; rfl
noncomputable def cl (lo hi x : Nat) : Nat := if x < lo then lo else if x < hi then x else hi
theorem Z12 (k : Nat → Int) {lo hi : Nat} (h : lo ≤ hi) (s : Nat) : ∀ m, sm (fun j => if lo ≤ s + j ∧ s + j < hi then k (s + j) - k (s + j + 1) else 0) m = k (cl lo hi s) - k (cl lo hi (s + m))
  | 0 => by rw [sm, Nat.add_zero]; omega
  | m + 1 => by
    rw [sm, Z12 k h s m]
    have e : s + (m + 1) = s + m + 1 := rfl
    rw [e]
    generalize s + m = x
    by_cases a : lo ≤ x ∧ x < hi
    · rw [if_pos a]
      have e1 : cl lo hi x = x := by unfold cl; rw [if_neg (by omega), if_pos a.2]
      have e2 : cl lo hi (x + 1) = x + 1 := by
        unfold cl
        rw [if_neg (by omega)]
        by_cases c : x + 1 < hi
        · rw [if_pos c]
        · rw [if_neg c]; omega
      rw [e1, e2]; omega
    · rw [if_neg a]
      have e1 : cl lo hi (x + 1) = cl lo hi x := by
        unfold cl
        by_cases b : x < lo
        · rw [if_pos b]
          by_cases c : x + 1 < lo
          · rw [if_pos c]
          · rw [if_neg c]
            by_cases d : x + 1 < hi
            · rw [if_pos d]; omega
            · rw [if_neg d]; omega
        · rw [if_neg b, if_neg (by omega), if_neg (by omega), if_neg (by omega)]
      rw [e1]; omega
theorem Zwu {lo hi x : Nat} (h : lo ≤ hi) (a : x ≤ lo) : cl lo hi x = lo := by
  unfold cl
  by_cases c : x < lo
  · rw [if_pos c]
  · rw [if_neg c]
    by_cases d : x < hi
    · rw [if_pos d]; omega
    · rw [if_neg d]; omega
theorem Zub {lo hi x : Nat} (h : lo ≤ hi) (a : hi ≤ x) : cl lo hi x = hi := by
  unfold cl
  rw [if_neg (by omega), if_neg (by omega)]
noncomputable def twP (n : Nat) (D : Nat → Nat → Int) (a c : Nat) : Int := D a c + D (a + 1) ((c + 1) % n) - D a ((c + 1) % n) - D (a + 1) c
noncomputable def inS (a c x : Nat) : Bool := decide (a < x) && decide (x ≤ c)
noncomputable def Zc8 (a c u v : Nat) : Bool := inS a c u != inS a c v
theorem Zcs {a c x : Nat} : inS a c x = true ↔ a < x ∧ x ≤ c := by
  unfold inS
  rw [Bool.and_eq_true, decide_eq_true_eq, decide_eq_true_eq]
theorem Zhu {a c u v : Nat} : Zc8 a c u v = true ↔ ¬ ((a < u ∧ u ≤ c) ↔ (a < v ∧ v ≤ c)) := by
  unfold Zc8
  rw [bne_iff_ne, ne_eq, Bool.eq_iff_iff, Zcs, Zcs]
noncomputable def kw (n : Nat) (D : Nat → Nat → Int) (a c : Nat) : Int := if c = n then D a 0 - D (a + 1) 0 else D a c - D (a + 1) c
noncomputable def kA (D : Nat → Nat → Int) (u v a : Nat) : Int := D a u - D a v
theorem Zvy {n u v a : Nat} (D : Nat → Nat → Int) (huv : u < v) (hv : v < n) (ha : a < n) : sm (fun j => if Zc8 a (a + 1 + j) u v = true then twP n D a (a + 1 + j) else 0) (n - (a + 1)) =
    (if 0 ≤ 0 + a ∧ 0 + a < u then kA D u v (0 + a) - kA D u v (0 + a + 1) else 0) + (if u ≤ 0 + a ∧ 0 + a < v then kA D v 0 (0 + a) - kA D v 0 (0 + a + 1) else 0) := by
  rw [Nat.zero_add]
  have tk : ∀ c, c < n → twP n D a c = kw n D a c - kw n D a (c + 1) := fun c hc => by
    unfold twP kw
    rw [if_neg (show ¬ c = n by omega)]
    by_cases e : c + 1 = n
    · rw [if_pos e, e, Nat.mod_self]; omega
    · rw [if_neg e, Nat.mod_eq_of_lt (by omega)]; omega
  have go : ∀ lo hi, lo ≤ hi → a + 1 ≤ lo → hi ≤ n → (∀ c, a < c → c < n → (Zc8 a c u v = true ↔ lo ≤ c ∧ c < hi)) → sm (fun j => if Zc8 a (a + 1 + j) u v = true then twP n D a (a + 1 + j) else 0) (n - (a + 1)) = kw n D a lo - kw n D a hi := fun lo hi h1 h2 h3 h4 => by
    have e : sm (fun j => if Zc8 a (a + 1 + j) u v = true then twP n D a (a + 1 + j) else 0) (n - (a + 1)) = sm (fun j => if lo ≤ a + 1 + j ∧ a + 1 + j < hi then kw n D a (a + 1 + j) - kw n D a (a + 1 + j + 1) else 0) (n - (a + 1)) := Zec _ fun j hj => by
      rw [← tk _ (by omega)]
      have h := h4 (a + 1 + j) (by omega) (by omega)
      by_cases p : Zc8 a (a + 1 + j) u v = true
      · rw [if_pos p, if_pos (h.mp p)]
      · rw [if_neg p, if_neg fun z => p (h.mpr z)]
    rw [e, Z12 (kw n D a) h1 (a + 1), Zwu h1 h2, Zub h1 (by omega)]
  by_cases h1 : a < u
  · rw [if_pos ⟨Nat.zero_le _, h1⟩, if_neg (by omega), go u v (by omega) (by omega) (by omega) fun c h2 h3 => by rw [Zhu]; omega]
    unfold kw kA
    rw [if_neg (by omega), if_neg (by omega)]; omega
  · rw [if_neg (by omega)]
    by_cases h2 : a < v
    · rw [if_pos ⟨by omega, h2⟩, go v n (by omega) (by omega) (by omega) fun c h2 h3 => by rw [Zhu]; omega]
      unfold kw kA
      rw [if_neg (by omega), if_pos rfl]; omega
    · rw [if_neg (by omega)]
      refine (Zec _ fun j hj => ?_).trans (Zh5 _)
      exact if_neg (by rw [Zhu]; omega)
noncomputable def Z1m (n : Nat) (F : Nat → Nat → Int) : Int := sm (fun a => sm (fun j => F a (a + 1 + j)) (n - (a + 1))) n
theorem Zq2 {n u v : Nat} {D : Nat → Nat → Int} (sy : ∀ i j, i < n → j < n → D i j = D j i ∧ D i i = 0) (hu : u < n) (hv : v < n) : Z1m n (fun a c => if Zc8 a c u v = true then twP n D a c else 0) = 2 * D u v := by
  have key : ∀ u v, u < v → v < n → Z1m n (fun a c => if Zc8 a c u v = true then twP n D a c else 0) = 2 * D u v := fun u v huv hv => by
    unfold Z1m
    rw [Zec n fun a ha => Zvy D huv hv ha, Zts, Z12 (kA D u v) (Nat.zero_le u) 0, Z12 (kA D v 0) (show u ≤ v by omega) 0, Zwu (Nat.zero_le _) (Nat.le_refl _), Zub (Nat.zero_le _) (by omega), Zwu (by omega) (Nat.zero_le _), Zub (by omega) (by omega)]
    unfold kA
    have s1 := sy 0 u (by omega) (by omega)
    have s2 := sy 0 v (by omega) (by omega)
    have s3 := sy u v (by omega) (by omega)
    have s4 := sy v u (by omega) (by omega)
    omega
  have sw : ∀ a c, Zc8 a c u v = Zc8 a c v u := fun a c => by unfold Zc8; cases inS a c u <;> cases inS a c v <;> rfl
  rcases Nat.lt_trichotomy u v with h | h | h
  · exact key u v h hv
  · subst h
    have : (fun a c => if Zc8 a c u u = true then twP n D a c else 0) = fun _ _ => (0 : Int) := funext fun a => funext fun c => if_neg (by unfold Zc8; rw [bne_self_eq_false]; exact Bool.false_ne_true)
    rw [this, (sy u u hu hu).2]
    unfold Z1m
    exact (Zec n fun a _ => Zh5 _).trans (Zh5 n)
  · have : (fun a c => if Zc8 a c u v = true then twP n D a c else 0) = fun a c => if Zc8 a c v u = true then twP n D a c else 0 := funext fun a => funext fun c => by rw [sw]
    rw [this, key v u h hu, (sy v u hv hu).1]
theorem Zs9 {a c x : Nat} (h : ¬ (a < x ∧ x ≤ c)) : inS a c x = false := by
  cases e : inS a c x with
  | true => exact absurd (Zcs.mp e) h
  | false => rfl
theorem Zma {a c x y : Nat} (h : (a < x ∧ x ≤ c) ↔ (a < y ∧ y ≤ c)) : inS a c x = inS a c y := by
  rw [Bool.eq_iff_iff, Zcs, Zcs]; exact h
noncomputable def cd (w : Int) (a c i j : Nat) : Int := w * (if Zc8 a c i j = true then 1 else 0)
theorem Zim {w : Int} {a c x y : Nat} (h : inS a c x = inS a c y) (j : Nat) : cd w a c x j = cd w a c y j ∧ cd w a c j x = cd w a c j y := by
  unfold cd Zc8
  rw [h]; exact ⟨rfl, rfl⟩
theorem Zl7 {w : Int} {a c i j : Nat} {p q : Bool} (h1 : inS a c i = p) (h2 : inS a c j = q) : cd w a c i j = if (p != q) = true then w else 0 := by
  unfold cd Zc8
  rw [h1, h2]
  cases (p != q)
  · rw [if_neg Bool.false_ne_true, if_neg Bool.false_ne_true]; omega
  · rw [if_pos rfl, if_pos rfl]; omega
theorem Z0v {n a c x y : Nat} (hac : a < c) (hc : c < n) (hxy : x < y) (hy : y < n) (D : Nat → Nat → Int) (w : Int) : twP n (fun i j => D i j + cd w a c i j) x y = twP n D x y + (if x = a ∧ y = c then 2 * w else 0) := by
  obtain ⟨z, hz, hz2⟩ : ∃ z, (y + 1) % n = z ∧ (z = y + 1 ∨ (z = 0 ∧ y + 1 = n)) := by
    by_cases e : y + 1 = n
    · exact ⟨0, by rw [e, Nat.mod_self], .inr ⟨rfl, e⟩⟩
    · exact ⟨y + 1, Nat.mod_eq_of_lt (by omega), .inl rfl⟩
  unfold twP
  rw [hz]
  dsimp only
  by_cases kx : x = a ∨ x = c
  · by_cases ky : y = a ∨ y = c
    · have k : x = a ∧ y = c := by omega
      obtain ⟨rfl, rfl⟩ := k
      have e1 : inS x y x = false := Zs9 (by omega)
      have e2 : inS x y (x + 1) = true := Zcs.mpr (by omega)
      have e3 : inS x y y = true := Zcs.mpr (by omega)
      have e4 : inS x y z = false := Zs9 (by omega)
      rw [if_pos ⟨rfl, rfl⟩, Zl7 e1 e3, Zl7 e2 e4, Zl7 e1 e4, Zl7 e2 e3]
      show (D x y + w) + (D (x + 1) z + w) - (D x z + 0) - (D (x + 1) y + 0) = _
      omega
    · rw [if_neg (by omega)]
      have e : inS a c y = inS a c z := Zma (by omega)
      have h1 := (Zim (w := w) e x).2
      have h2 := (Zim (w := w) e (x + 1)).2
      omega
  · rw [if_neg (by omega)]
    have e : inS a c x = inS a c (x + 1) := Zma (by omega)
    have h1 := (Zim (w := w) e y).1
    have h2 := (Zim (w := w) e z).1
    omega
theorem Zn1 {e : FE} {δ : Zj} {i : Nat} {ts rs : List OT} {ds : List PyData} (h : e δ = some (.nd rs, δ)) (hd : OT.datas rs = ds) (hi : δ[i]? = some (some (.nd ts))) (hl : ts.length + ds.length ≤ 1000000) : Zf9 i e δ = .nx (δ.set i (some (.nd (ts ++ ds.map OT.fz)))) := by
  unfold Zf9
  rw [hi]
  dsimp only
  rw [Zdm, h, Yx, hi]
  dsimp only
  have lr : rs.length = ds.length := by rw [← hd, Zeg]
  rw [if_pos (by rw [sizeLine_eq, lr]; omega), hd]
theorem Zvz {α : Type} {caps : List Nat} {it : FI} {me : FE} {cs : Zj} {δ : Zj} (xs : List α) (mk f : α → PyData) (hi : EvI it δ (xs.map mk)) (hz : xs.length ≤ 1000000) (hb : blk 1 caps δ = none :: cs) (h : ∀ x ∈ xs, EvV me (some (.fz (mk x)) :: cs) (f x)) : ∃ rs, Zak 1 caps it (gNm 0) Zge me δ = some (.nd rs, δ) ∧ OT.datas rs = xs.map f := by
  obtain ⟨t, e1, e2⟩ := Zdy xs mk f hi hz hb h
  cases t with
  | fz d =>
    unfold Zak at e1
    unfold EvI at hi
    rw [hi, Option.bind_some] at e1
    split at e1
    · obtain ⟨z, h1, h2⟩ := bs e1
      cases h2
    · cases e1
  | tp ts => rw [OT.data_tp] at e2; cases e2
  | dc _ _ _ => rw [OT.data_dc] at e2; cases e2
  | nd rs =>
    rw [OT.data_nd, ← datas_map] at e2
    injection e2 with e2
    exact ⟨rs, e1, e2⟩
theorem Zk4 (n : Nat) (hn : n ≤ 20) : Told Yw [.int n] (.list ((Z4 n).map ptD)) := by
  refine Y7 rfl <| Z5 Zqh ?_
  refine Zp0 (ds := Zda 0 n) (fun i δ => ∃ z, δ = [some (.fz (.int n)), some (.nd (((Zid n i).map ptD).map OT.fz)), z]) (Zgi (Zd Zc Zt) (by omega)) ⟨none, rfl⟩ (fun i d δ hd q => ?_) fun δ' q => ?_
  · obtain ⟨z, rfl⟩ := q
    obtain ⟨hi, rfl⟩ := Zbi hd
    rw [Int.zero_add]
    have lp := Zc1 n i
    have : i * n ≤ 20 * 20 := Nat.mul_le_mul (by omega) hn
    obtain ⟨rs, e1, e2⟩ := Zvz (δ := [some (.fz (.int n)), some (.nd (((Zid n i).map ptD).map OT.fz)), some (.fz (.int i))]) (caps := [2]) (cs := [some (.fz (.int i))]) (me := Zg8 (Zh (Zg 1) (Zh (Zg 0) Yk))) (it := iRb (Zh (Zk Zcj (Zg 2) (fC (.int 1))) (Zh (Zg 0) Yk))) (List.range (n - (i + 1))) (fun j : Nat => PyData.int (((i + 1 : Nat) : Int) + (j : Int))) (fun j => ptD (i, i + 1 + j)) (Z4b (m := i + 1) (Zd ((Ww Zc Yo).cast (by rw [Int.natCast_add]; rfl)) (Zd Zc Zt)) (by omega) (by omega)) (by rw [List.length_range]; omega) rfl fun j _ => (Ze0 (Zd Zc (Zd Zc Zt)) (show 2 ≤ 1000 by decide)).cast (by
      show PyData.tuple [.int (i : Int), .int (((i + 1 : Nat) : Int) + (j : Int))] = .tuple [.int (i : Int), .int ((i + 1 + j : Nat) : Int)]
      rw [Int.natCast_add (i + 1) j])
    refine ⟨_, _, rfl, .inl (Zn1 e1 e2 rfl (by rw [List.length_map, List.length_map, List.length_map, List.length_range]; omega)), some (.fz (.int i)), ?_⟩
    have em : (List.range (n - (i + 1))).map (fun j => ptD (i, i + 1 + j)) = ((List.range (n - (i + 1))).map fun j => (i, i + 1 + j)).map ptD := by rw [List.map_map]; rfl
    rw [Zhd, List.map_append, List.map_append, em]; rfl
  · obtain ⟨z, rfl⟩ := q
    rw [Zdx]
    exact Z4q rfl (by rw [OT.data_nd, OT.map_fz]; rfl)
theorem Zm2 {n : Nat} (h : n ≤ 6) : (Z4 n).Nodup := by
  have : ∀ m : Fin 7, (Z4 m).Nodup := by decide +kernel
  exact this ⟨n, by omega⟩
noncomputable def gk (p : Nat × Nat) : KY := .inr [.inl (p.1 : Int), .inl (p.2 : Int)]
theorem Zqn {p q : Nat × Nat} (h : gk p = gk q) : p = q := by
  have := Sum.inr.inj h
  obtain ⟨h1, h2⟩ := List.cons.inj this
  have h1 := Sum.inl.inj h1
  have h2 := Sum.inl.inj (List.cons.inj h2).1
  exact Prod.ext (by omega) (by omega)
theorem Z05 (p : Nat × Nat) : Zgc (ptD p) = some (gk p) := rfl
theorem Zta (p : Nat × Nat) (L : List (Nat × Nat)) : Zqu (gk p) (L.map gk) = decide (p ∈ L) := by
  unfold Zqu
  rw [List.any_map, Bool.eq_iff_iff, List.any_eq_true, decide_eq_true_eq]
  constructor
  · rintro ⟨q, m, h⟩
    rw [← Zqn (of_decide_eq_true h)]; exact m
  · intro m
    exact ⟨p, m, decide_eq_true rfl⟩
theorem Z0w {f : Nat × Nat → PyData} (p : Nat × Nat) (L : List (Nat × Nat)) (h : p ∈ L) : Zur (gk p) (L.map gk) (L.map f) = some (f p) := by
  induction L with
  | nil => cases h
  | cons q L ih =>
    show (if gk q = gk p then some (f q) else Zur (gk p) (L.map gk) (L.map f)) = _
    by_cases c : gk q = gk p
    · rw [if_pos c, Zqn c]
    · rw [if_neg c]
      exact ih ((List.mem_cons.mp h).resolve_left fun e => c (by rw [e]))
theorem Zyf {f : Nat × Nat → PyData} {d : PyData} (p : Nat × Nat) (L : List (Nat × Nat)) : Zxq (gk p) d (L.map gk) (L.map f) = L.map fun q => if q = p then d else f q := by
  induction L with
  | nil => rfl
  | cons q L ih =>
    show (if gk q = gk p then d else f q) :: Zxq (gk p) d (L.map gk) (L.map f) = _
    rw [ih, List.map_cons]
    by_cases c : q = p
    · rw [if_pos c, if_pos (by rw [c])]
    · rw [if_neg c, if_neg fun z => c (Zqn z)]
theorem Zsv {f : Nat × Nat → PyData} {p : Nat × Nat} {L : List (Nat × Nat)} (h : p ∈ L) : Zmu (dcD true (L.map gk) (L.map f)) (ptD p) = some (.fz (f p)) := by
  show (Zmk (gk p) (((L.map gk).map kyD).zip (L.map f))).map OT.fz = _
  rw [Zj3, Z0w p L h]; rfl
theorem Ztd {a b : FE} {δ : Zj} {x y d : PyData} (ha : EvV a δ x) (hb : EvV b δ y) (h : Zmu x y = some (.fz d)) : EvV (W5 Zmu a b) δ d := Znu ha hb h (OT.data_fz _)
theorem Zow {e j : FE} {δ : Zj} {i : Nat} {d y : PyData} {t : Bool} {ks : List KY} {ds : List PyData} {k : KY} (he : EvV e δ d) (hi : δ[i]? = some (some (.dc t ks ds))) (hj : EvV j δ y) (hk : Zgc y = some k) (ht : Zxb k = t) (hl : ks.length < 1000000) : Zj2 i e j δ = .nx (δ.set i (some (.dc t (Ziy k ks) (Zjw k d ks ds)))) := by
  obtain ⟨t1, e1, d1⟩ := he
  obtain ⟨t2, e2, d2⟩ := hj
  unfold Zj2
  rw [Zdm, e1, Yx]
  rw [hi]
  dsimp only
  rw [Zdm, e2, Yx, d1, d2]
  rw [hk]
  dsimp only
  rw [if_pos ⟨ht, by rw [sizeLine_eq]; omega⟩]
noncomputable def wtR (n : Nat) (R : Nat → Nat → Int) (p : List Int) (b : Int) (q : Nat × Nat) : Rat := Rat.divInt (twP n (fun u v => R (pn p u) (pn p v)) q.1 q.2) (2 * b)
noncomputable def wO (n : Nat) (R : Nat → Nat → Int) (p : List Int) (b : Int) : OT := .dc true ((Z4 n).map gk) ((Z4 n).map fun q => frD (wtR n R p b q))
theorem take_snoc {α : Type} {L : List α} {k : Nat} {x : α} (h : L[k]? = some x) : L.take (k + 1) = L.take k ++ [x] := by
  rw [List.take_succ, h]; rfl
theorem Zmx {α : Type} {L : List α} {k : Nat} {x : α} (nd : L.Nodup) (h : L[k]? = some x) : x ∉ L.take k := fun m => by
  obtain ⟨j, hj⟩ := List.getElem?_of_mem m
  rw [List.getElem?_take] at hj
  split at hj
  · rename_i c
    have hk := (List.getElem?_eq_some_iff.mp h).1
    have := (List.getElem?_inj hk nd).mp (h.trans hj.symm)
    omega
  · cases hj
theorem Z0l {F : FD} {as : FA} {δ : Zj} {ds : List PyData} {d : PyData} {i : Nat} (h : EvA as δ ds) (hF : Told F ds d) : wX F as (Jj i) δ = .nx (δ.set i (some (.fz d))) := Z2m h hF fun o ho => by rw [← ho]; rfl
theorem Zgz {n : Nat} {R : Nat → Nat → Int} {b : Int} {p : List Int} (h : InR n p) (hr : ringB n p = true) (hn : n ≤ 6) (hb : 0 < b) (bb : Bt 300 b) (bR : ∀ i j, i < n → j < n → Bt 300 (R i j)) : Yr [tbD (Zfv n R b), Zv p] = .ok (wO n R p b) := by
  have lp : (p.length : Int) = n := by rw [h.1]
  obtain ⟨δ', e, z3, z4, z5, rfl⟩ := Znr (it := Zgo (Wa Yw (Zh (Ze5 Ze1 (Zh (Zg 1) Yk)) Yk))) (g := gTp 2 (gCn (gNm 3) (gCn (gNm 4) gNl))) (S := Yu (wX Ys (Zh (Zg 0) (Zh (Zg 1) (Zh (Zg 3) (Zh (Zg 4) Yk)))) (Jj 5))
    (Yu (Zde (tO (tNo (tD (Zt2 "tuple" (Zg 5)))) (tO (tV (Zk gNe (Ze5 Ze1 (Zh (Zg 5) Yk)) (fC (.int 2)))) (tV (Zk gLt (W5 gIx (Zg 5) (fC (.int 1))) (fC (.int 1))))))
    (wE (fC .none) Zce)
    fNx)
    (Zj2 2 (Zg 5) (Zg8 (Zh (Zg 3) (Zh (Zg 4) Yk)))))) (δ := [some (.fz (tbD (Zfv n R b))), some (.fz (Zv p)), some (.dc true [] []), none, none, none]) (ds := (Z4 n).map ptD) (fun k δ => ∃ z3 z4 z5, δ = [some (.fz (tbD (Zfv n R b))), some (.fz (Zv p)), some (.dc true (((Z4 n).take k).map gk) (((Z4 n).take k).map fun q => frD (wtR n R p b q))), z3, z4, z5]) (Zee (Z9 (Zd ((Zad Zc).cast (congrArg PyData.int lp)) Zt) (Zk4 n (by omega)))) ⟨none, none, none, rfl⟩ (fun k d δ hd q => by
      obtain ⟨z3, z4, z5, rfl⟩ := q
      rw [List.getElem?_map] at hd
      obtain ⟨q, hq, rfl⟩ := Option.map_eq_some_iff.mp hd
      obtain ⟨h1, h2⟩ := Zc5 (List.mem_of_getElem? hq)
      have hw : Told Ys [tbD (Zfv n R b), Zv p, .int q.1, .int q.2] (frD (wtR n R p b q)) := Zgm h hr (by omega) h1 h2 hb bb bR
      have hlen : (((Z4 n).take k).map gk).length < 1000000 := by
        rw [List.length_map, List.length_take]
        have := Zc1 n n
        have : n * n ≤ 6 * 6 := Nat.mul_le_mul hn hn
        have : (Z4 n).length ≤ n * n := Zc1 n n
        omega
      refine ⟨_, _, rfl, .inl (W3 (Z0l (Zd Zc (Zd Zc (Zd Zc (Zd Zc Zt)))) hw) (W3 (W7 (Zw8 (Zke (p := true) (Zmo (Zyt (x := frD (wtR n R p b q)) Zc rfl))) (Zw8 (Ze4 (Zru (Zdf (Zd Zc Zt) (rfl : Ze1 [frD (wtR n R p b q)] = some (.int 2))) Yo rfl)) (Ze4 (Zgt (Zal (d := .int ((wtR n R p b q).den : Int)) Zc Yo rfl) Yo (decide_eq_false (by have := Zbj (wtR n R p b q); omega)))))) rfl) (Zow Zc rfl ((Ze0 (Zd Zc (Zd Zc Zt)) (show 2 ≤ 1000 by decide)).cast rfl) (Z05 q) rfl hlen))), some (.fz (.int q.1)), some (.fz (.int q.2)), some (.fz (frD (wtR n R p b q))), ?_⟩
      have hf : Zqu (gk q) (((Z4 n).take k).map gk) = false := by rw [Zta]; exact decide_eq_false (Zmx (Zm2 hn) hq)
      unfold Ziy Zjw
      rw [hf, if_neg Bool.false_ne_true, if_neg Bool.false_ne_true, take_snoc hq, List.map_append, List.map_append]; rfl)
  rw [List.length_map, List.take_length] at e
  unfold Yr
  rw [Zkx (np := 2) (by rfl)]
  have : W4 (Zfq 6 [tbD (Zfv n R b), Zv p]) = .rt (wO n R p b) _ := W3 (Zhp (rfl : Zvs true _ = some (.dc true [] [], _))) (W3 e rfl)
  rw [this, Zoa]
theorem Zd4 (neg : Bool) (x : Int) (p : List Int) : Zmy neg (.int x) (Zv p) = some (.bool (if neg then !decide (x ∈ p) else decide (x ∈ p))) := by
  have e : memS (.int x) (p.map PyData.int) = decide (x ∈ p) := by
    unfold memS
    rw [List.any_map]
    rw [Bool.eq_iff_iff, List.any_eq_true, decide_eq_true_eq]
    constructor
    · rintro ⟨y, hy, h⟩
      have : (y == x) = true := h
      rw [← eq_of_beq this]; exact hy
    · intro h
      exact ⟨x, h, (show (x == x) = true from beq_self_eq_true x)⟩
  have s : (p.map PyData.int).all scD = true := by
    rw [List.all_eq_true]
    intro d hd
    obtain ⟨y, _, rfl⟩ := List.mem_map.mp hd
    rfl
  show (if (scD (.int x) && (p.map PyData.int).all scD) = true then some (PyData.bool (if neg then !memS (.int x) (p.map PyData.int) else memS (.int x) (p.map PyData.int))) else none) = _
  rw [s, e]; rfl
theorem Zs7 (x y : Bool) : gNe (.bool x) (.bool y) = some (.bool (x != y)) := by
  cases x <;> cases y <;> rfl
noncomputable def sd (p : List Int) (q : Nat × Nat) : List Int := (p.drop (q.1 + 1)).take (q.2 - q.1)
theorem Zfm {n : Nat} {p : List Int} (h : Pm n p) {u : Nat} (hu : u < n) {q : Nat × Nat} (h1 : q.1 < q.2) (h2 : q.2 < n) : decide (p.getD u 0 ∈ sd p q) = inS q.1 q.2 u := by
  rw [Bool.eq_iff_iff, decide_eq_true_eq, Zcs]
  have lp := h.len
  unfold sd
  constructor
  · intro m
    obtain ⟨k, hk⟩ := List.getElem?_of_mem m
    rw [List.getElem?_take] at hk
    split at hk
    · rw [List.getElem?_drop] at hk
      have hl := (List.getElem?_eq_some_iff.mp hk).1
      have e : p.getD (q.1 + 1 + k) 0 = p.getD u 0 := by rw [List.getD_eq_getElem?_getD, hk]; rfl
      have := h.ne (by omega) hu e
      omega
    · cases hk
  · rintro ⟨h3, h4⟩
    refine List.mem_of_getElem? (i := u - (q.1 + 1)) ?_
    rw [List.getElem?_take, if_pos (by omega), List.getElem?_drop, show q.1 + 1 + (u - (q.1 + 1)) = u by omega, List.getD_eq_getElem?_getD, List.getElem?_eq_getElem (by omega)]; rfl
theorem Ztc {p : List Int} {q : Nat × Nat} (h1 : q.1 < q.2) (h2 : q.2 < p.length) : Zrl p (some ((q.1 : Int) + 1)) (some ((q.2 : Int) + 1)) = sd p q := by
  have e1 : (q.1 : Int) + 1 = ((q.1 + 1 : Nat) : Int) := by omega
  have e2 : (q.2 : Int) + 1 = ((q.2 + 1 : Nat) : Int) := by omega
  have f : ∀ k d : Nat, k ≤ p.length → HT.sIx p.length d (some (k : Int)) = k := fun k d hk => by
    show (if (k : Int) < 0 then ((k : Int) + (p.length : Int)).toNat else min (k : Int).toNat p.length) = k
    rw [if_neg (by omega)]
    omega
  unfold Zrl sd
  rw [e1, e2, f _ _ (by omega), f _ _ (by omega), show q.2 + 1 - (q.1 + 1) = q.2 - q.1 by omega]
theorem Pm.at {n : Nat} {p : List Int} (h : Pm n p) {i : Nat} (hi : i < n) : ∃ u, u < n ∧ p.getD u 0 = (i : Int) := by
  have m : (i : Int) ∈ p := h.mem_iff.mpr (Zew.mpr ⟨by omega, by omega⟩)
  obtain ⟨u, hu⟩ := List.getElem?_of_mem m
  exact ⟨u, by rw [← h.len]; exact (List.getElem?_eq_some_iff.mp hu).1, by rw [List.getD_eq_getElem?_getD, hu]; rfl⟩
noncomputable def smL (F : Nat × Nat → Int) (L : List (Nat × Nat)) : Int := (L.map F).sum
theorem Zkg (F : Nat × Nat → Int) (L M : List (Nat × Nat)) : smL F (L ++ M) = smL F L + smL F M := by
  unfold smL
  rw [List.map_append, List.sum_append]
theorem Zji (F : Nat × Nat → Int) (i : Nat) : ∀ m, smL F ((List.range m).map fun j => (i, i + 1 + j)) = sm (fun j => F (i, i + 1 + j)) m
  | 0 => rfl
  | m + 1 => by
    rw [List.range_succ, List.map_append, Zkg, Zji F i m, sm]
    refine congrArg (_ + ·) ?_
    show F (i, i + 1 + m) + 0 = _
    omega
theorem Zl6 (F : Nat × Nat → Int) (n : Nat) : ∀ m, smL F (Zid n m) = sm (fun a => sm (fun j => F (a, a + 1 + j)) (n - (a + 1))) m
  | 0 => rfl
  | m + 1 => by rw [Zhd, Zkg, Zl6 F n m, Zji, sm]
theorem Zl2 {T m : Int} (hm : 0 < m) : (Rat.divInt T m).num * (m.fdiv ((Rat.divInt T m).den : Int)) = T ∧ m.fmod ((Rat.divInt T m).den : Int) = 0 := by
  have hd : ((Rat.divInt T m).den : Int) ∣ m := Zkv (by omega)
  have hp := Zbj (Rat.divInt T m)
  refine ⟨?_, by rw [Zc4 hp]; exact Int.emod_eq_zero_of_dvd hd⟩
  rw [Wl hp]
  have e := Zs8 hd
  have : (Rat.divInt T m) * (m : Rat) = (T : Rat) := by
    rw [Rat.divInt_eq_div]
    exact Rat.div_mul_cancel (by intro z; have : m = 0 := by exact_mod_cast z
                                 omega)
  rw [this] at e
  exact_mod_cast e
theorem Zzf {n : Nat} {D : Nat → Nat → Int} {a c : Nat} (h : ∀ i j, i < n → j < n → Bt 300 (D i j)) (hac : a < c) (hc : c < n) : Bt 303 (twP n D a c) := by
  have hm : (c + 1) % n < n := Nat.mod_lt _ (by omega)
  unfold twP
  exact (((h a c (by omega) hc).add' (h (a + 1) _ (by omega) hm)).sub' ((h a _ (by omega) hm).mono (by decide))).sub' ((h (a + 1) c (by omega) hc).mono (by decide))
theorem Z1w {b : Int} (h : Bt 300 b) : Bt 302 (2 * b) := (show Bt 2 2 by unfold Bt; decide).mul h
theorem Ztj {b : Int} {q : Rat} (hb : 0 < b) (bb : Bt 300 b) (hd : (q.den : Int) ∣ 2 * b) : Bt 302 ((2 * b).fdiv (q.den : Int)) := by
  rw [Wl (Zbj q)]
  exact Ze3 (by omega) (Int.ediv_dvd_of_dvd hd) (Z1w bb)
theorem Zsu {T b : Int} (hb : 0 < b) : ((Rat.divInt T (2 * b)).den : Int) ∣ 2 * b := Zkv (by omega)
theorem Zoh {n : Nat} {R : Nat → Nat → Int} {b : Int} {p : List Int} (h : Pm n p) (hn : n ≤ 6) (hb : 0 < b) (bb : Bt 300 b) (bR : ∀ i j, i < n → j < n → Bt 300 (R i j)) (sy : ∀ i j, i < n → j < n → R i j = R j i ∧ R i i = 0) : Told Zab [Zam n R, Zv p, (wO n R p b).data, .int b] (.bool true) := by
  have lp := h.len
  have hin := h.inR
  have pnlt : ∀ u, u < n → pn p u < n := fun u hu => (hin.at hu).2
  have dW : (wO n R p b).data = dcD true ((Z4 n).map gk) ((Z4 n).map fun q => frD (wtR n R p b q)) := OT.data_dc ..
  rw [dW]
  generalize hWd : dcD true ((Z4 n).map gk) ((Z4 n).map fun q => frD (wtR n R p b q)) = Wd
  refine Y7 rfl <| Z5 (Zz (Zdf (Zd Zc Zt) (Zi1 n R))) ?_
  refine Zp0 (ds := Zda 0 n) (fun _ δ => ∃ z5 z6 z7 z8 z9 z10 z11, δ = [some (.fz (Zam n R)), some (.fz (Zv p)), some (.fz Wd), some (.fz (.int b)), some (.fz (.int n)), z5, z6, z7, z8, z9, z10, z11]) (Zgi (Zd Zc Zt) (by omega)) ⟨none, none, none, none, none, none, none, rfl⟩ (fun i d δ hd q => ?_) fun δ' q => by obtain ⟨z5, z6, z7, z8, z9, z10, z11, rfl⟩ := q; exact Jr Yo
  obtain ⟨z5, z6, z7, z8, z9, z10, z11, rfl⟩ := q
  obtain ⟨hi, rfl⟩ := Zbi hd
  rw [Int.zero_add]
  obtain ⟨u, hu, eu⟩ := h.at hi
  refine Zly (ds := Zda 0 n) (fun _ δ => ∃ z6 z7 z8 z9 z10 z11, δ = [some (.fz (Zam n R)), some (.fz (Zv p)), some (.fz Wd), some (.fz (.int b)), some (.fz (.int n)), some (.fz (.int i)), z6, z7, z8, z9, z10, z11]) rfl (Zgi (Zd Zc Zt) (by omega)) ⟨z6, z7, z8, z9, z10, z11, rfl⟩ (fun j d δ hd q => ?_) fun δ' q => by obtain ⟨z6, z7, z8, z9, z10, z11, e⟩ := q; exact ⟨_, z6, z7, z8, z9, z10, z11, e⟩
  obtain ⟨z6, z7, z8, z9, z10, z11, rfl⟩ := q
  obtain ⟨hj, rfl⟩ := Zbi hd
  rw [Int.zero_add]
  obtain ⟨v, hv, ev⟩ := h.at hj
  have key := Znr (it := Zgo (Wa Yw (Zh (Zg 4) Yk))) (g := gTp 2 (gCn (gNm 8) (gCn (gNm 9) gNl))) (S := Yu (wE (fSl (Zg 1) (oI (Zk Zcj (Zg 8) (fC (.int 1)))) (oI (Zk Zcj (Zg 9) (fC (.int 1))))) (Jj 10))
    (Yu (wE (W5 Zmu (Zg 2) (Zg8 (Zh (Zg 8) (Zh (Zg 9) Yk)))) (Jj 11))
    (Yu (Zde (tV (Zk gGt (Zk Zd0 (Zk Zc7 (fC (.int 2)) (Zg 3)) (W5 gIx (Zg 11) (fC (.int 1)))) (fC (.int 0))))
    (wE (fC (.bool false)) Zce)
    fNx)
    (Zde (tV (Zk gNe (Zk (Zmy false) (Zg 5) (Zg 10)) (Zk (Zmy false) (Zg 6) (Zg 10))))
    (wE (Zk Zcj (Zg 7) (Zk Zc7 (W5 gIx (Zg 11) (fC (.int 0))) (Zk J0 (Zk Zc7 (fC (.int 2)) (Zg 3)) (W5 gIx (Zg 11) (fC (.int 1)))))) (Jj 7))
    fNx)))) (δ := [some (.fz (Zam n R)), some (.fz (Zv p)), some (.fz Wd), some (.fz (.int b)), some (.fz (.int n)), some (.fz (.int i)), some (.fz (.int j)), some (.fz (.int 0)), z8, z9, z10, z11]) (ds := (Z4 n).map ptD)
    (fun k δ => ∃ z8 z9 z10 z11, δ = [some (.fz (Zam n R)), some (.fz (Zv p)), some (.fz Wd), some (.fz (.int b)), some (.fz (.int n)), some (.fz (.int i)), some (.fz (.int j)), some (.fz (.int (smL (fun q => if Zc8 q.1 q.2 u v = true then twP n (fun u v => R (pn p u) (pn p v)) q.1 q.2 else 0) ((Z4 n).take k)))), z8, z9, z10, z11]) (Zee (Z9 (Zd Zc Zt) (Zk4 n (by omega)))) ⟨z8, z9, z10, z11, rfl⟩ (fun k d δ hd q => by
      obtain ⟨z8, z9, z10, z11, rfl⟩ := q
      rw [List.getElem?_map] at hd
      obtain ⟨q, hq, rfl⟩ := Option.map_eq_some_iff.mp hd
      have hm := List.mem_of_getElem? hq
      obtain ⟨h1, h2⟩ := Zc5 hm
      have tT : Bt 303 (twP n (fun u v => R (pn p u) (pn p v)) q.1 q.2) := Zzf (fun i j hi hj => bR _ _ (pnlt i hi) (pnlt j hj)) h1 h2
      have hw : wtR n R p b q = Rat.divInt (twP n (fun u v => R (pn p u) (pn p v)) q.1 q.2) (2 * b) := rfl
      obtain ⟨lb1, lb2⟩ := Zl2 (T := twP n (fun u v => R (pn p u) (pn p v)) q.1 q.2) (m := 2 * b) (by omega)
      have hdv := Zsu (T := twP n (fun u v => R (pn p u) (pn p v)) q.1 q.2) hb
      rw [← hw] at lb1 lb2 hdv
      have bn : Bt 303 (wtR n R p b q).num := Zqo (by omega) tT
      have bd : Bt 302 ((wtR n R p b q).den : Int) := Ze3 (by omega) hdv (Z1w bb)
      have hden := Zbj (wtR n R p b q)
      have bq := Ztj hb bb hdv
      have t1 : (decide ((i : Int) ∈ sd p q) != decide ((j : Int) ∈ sd p q)) = Zc8 q.1 q.2 u v := by
        unfold Zc8
        rw [← eu, ← ev, Zfm h hu h1 h2, Zfm h hv h1 h2]
      have tst : ∀ {δ : Zj}, δ[5]? = some (some (.fz (.int i))) → δ[6]? = some (some (.fz (.int j))) → δ[10]? = some (some (.fz (Zv (sd p q)))) → EvT (tV (Zk gNe (Zk (Zmy false) (Zg 5) (Zg 10)) (Zk (Zmy false) (Zg 6) (Zg 10)))) δ (Zc8 q.1 q.2 u v) := fun h5 h6 h10 => t1 ▸ Ze4 (Zw (Zw (Zc h5) (Zc h10) (Zd4 false _ _)) (Zw (Zc h6) (Zc h10) (Zd4 false _ _)) (Zs7 _ _))
      refine ⟨_, [some (.fz (Zam n R)), some (.fz (Zv p)), some (.fz Wd), some (.fz (.int b)), some (.fz (.int n)), some (.fz (.int i)), some (.fz (.int j)), some (.fz (.int (smL (fun q => if Zc8 q.1 q.2 u v = true then twP n (fun u v => R (pn p u) (pn p v)) q.1 q.2 else 0) ((Z4 n).take (k + 1))))), some (.fz (.int q.1)), some (.fz (.int q.2)), some (.fz (Zv (sd p q))), some (.fz (frD (wtR n R p b q)))], rfl, .inl ?_, _, _, _, _, rfl⟩
      rw [take_snoc hq, Zkg]
      refine W3 (Zz (Zpl Zc (Zw0 (Ww Zc Yo)) (Zw0 (Ww Zc Yo)) (Ztc h1 (by omega)))) ?_
      refine W3 (Zz (Ztd (x := Wd) (d := frD (wtR n R p b q)) Zc ((Ze0 (Zd Zc (Zd Zc Zt)) (show 2 ≤ 1000 by decide)).cast (rfl : _ = ptD q)) (by rw [← hWd]; exact Zsv (f := fun q => frD (wtR n R p b q)) hm))) ?_
      refine W3 (W7 (Ze4 (Zwl (Zaj (Zba Yo Zc) (Zal (d := .int ((wtR n R p b q).den : Int)) Zc Yo rfl) (by omega)) Yo (decide_eq_false (by rw [lb2]; omega)))) rfl) ?_
      cases c : Zc8 q.1 q.2 u v with
      | true =>
        have t := tst (δ := [some (.fz (Zam n R)), some (.fz (Zv p)), some (.fz Wd), some (.fz (.int b)), some (.fz (.int n)), some (.fz (.int i)), some (.fz (.int j)), some (.fz (.int (smL (fun q => if Zc8 q.1 q.2 u v = true then twP n (fun u v => R (pn p u) (pn p v)) q.1 q.2 else 0) ((Z4 n).take k)))), some (.fz (.int q.1)), some (.fz (.int q.2)), some (.fz (Zv (sd p q))), some (.fz (frD (wtR n R p b q)))]) rfl rfl rfl
        rw [c] at t
        refine (Zeu t (Zz (Ww Zc (Zw (Zal (d := .int (wtR n R p b q).num) Zc Yo rfl) (Zw (Zba Yo Zc) (Zal (d := .int ((wtR n R p b q).den : Int)) Zc Yo rfl) (Zb6 (Zb2 (by omega) bd))) (Zf2 (Zic bn bq)))))).trans ?_
        rw [lb1]
        have e : smL (fun q => if Zc8 q.1 q.2 u v = true then twP n (fun u v => R (pn p u) (pn p v)) q.1 q.2 else 0) [q] = twP n (fun u v => R (pn p u) (pn p v)) q.1 q.2 := by
          show (if Zc8 q.1 q.2 u v = true then twP n (fun u v => R (pn p u) (pn p v)) q.1 q.2 else 0) + 0 = _
          rw [if_pos c]; omega
        rw [e]; rfl
      | false =>
        have t := tst (δ := [some (.fz (Zam n R)), some (.fz (Zv p)), some (.fz Wd), some (.fz (.int b)), some (.fz (.int n)), some (.fz (.int i)), some (.fz (.int j)), some (.fz (.int (smL (fun q => if Zc8 q.1 q.2 u v = true then twP n (fun u v => R (pn p u) (pn p v)) q.1 q.2 else 0) ((Z4 n).take k)))), some (.fz (.int q.1)), some (.fz (.int q.2)), some (.fz (Zv (sd p q))), some (.fz (frD (wtR n R p b q)))]) rfl rfl rfl
        rw [c] at t
        have e : smL (fun q => if Zc8 q.1 q.2 u v = true then twP n (fun u v => R (pn p u) (pn p v)) q.1 q.2 else 0) [q] = 0 := by
          show (if Zc8 q.1 q.2 u v = true then twP n (fun u v => R (pn p u) (pn p v)) q.1 q.2 else 0) + 0 = _
          rw [if_neg (by rw [c]; exact Bool.false_ne_true)]; rfl
        rw [e, Int.add_zero]
        exact W7 t rfl)
  obtain ⟨δ', e, z8', z9', z10', z11', rfl⟩ := key
  rw [List.length_map, List.take_length] at e
  have fin : smL (fun q => if Zc8 q.1 q.2 u v = true then twP n (fun u v => R (pn p u) (pn p v)) q.1 q.2 else 0) (Z4 n) = 2 * R i j := by
    have := Zq2 (n := n) (u := u) (v := v) (D := fun u v => R (pn p u) (pn p v)) (fun i j hi hj => sy _ _ (pnlt i hi) (pnlt j hj)) hu hv
    have pu : pn p u = i := by unfold pn; rw [eu]; rfl
    have pv : pn p v = j := by unfold pn; rw [ev]; rfl
    rw [pu, pv] at this
    exact (Zl6 _ n n).trans this
  rw [fin] at e
  refine ⟨_, _, rfl, .inl (W3 (Zz Yo) (W3 e (W7 (Ze4 (Zru Zc (Zba Yo (Zal (Zal Zc Zc (Zh1 hi)) Zc (Zkc hj))) (by rw [decide_eq_true rfl]; rfl))) rfl))), ⟨_, _, _, _, _, _, rfl⟩⟩
theorem list_range {α β : Type} (p : List α) (d : α) (f : α → β) : p.map f = (List.range p.length).map fun i => f (p.getD i d) := by
  refine List.ext_getElem? fun i => ?_
  rw [List.getElem?_map, List.getElem?_map]
  by_cases c : i < p.length
  · rw [List.getElem?_range c, List.getElem?_eq_getElem c]
    simp [List.getD_eq_getElem?_getD, List.getElem?_eq_getElem c]
  · rw [List.getElem?_eq_none (by omega), List.getElem?_eq_none (by simp; omega)]; rfl
theorem Zvl {n : Nat} {base : Int} {L : List (List Int)} (h : Dr n base L) : PyData.list ((L.map Znc).map OT.data) = Zam n (fnL L) ∧ ∀ i j, i < n → j < n → 0 ≤ fnL L i j ∧ fnL L i j < base := by
  refine ⟨?_, fun i j hi hj => ?_⟩
  · unfold Zam
    refine congrArg PyData.list ?_
    rw [List.map_map, list_range L [], h.1]
    refine List.map_congr_left fun i hi => ?_
    have hi : i < n := by simpa using hi
    have hr : (L.getD i []).length = n := by
      refine (h.2 _ ?_).1
      rw [List.getD_eq_getElem?_getD, List.getElem?_eq_getElem (by rw [h.1]; exact hi)]
      exact List.getElem_mem _
    show (OT.nd _).data = Zq5 n _
    rw [OT.data_nd]
    unfold Zq5
    refine congrArg PyData.list ?_
    rw [List.map_map, list_range (L.getD i []) 0, hr]
    rfl
  · have m1 : L.getD i [] ∈ L := by
      rw [List.getD_eq_getElem?_getD, List.getElem?_eq_getElem (by rw [h.1]; exact hi)]
      exact List.getElem_mem _
    obtain ⟨h1, h2⟩ := h.2 _ m1
    exact h2 _ (getD_mem (by omega))
theorem Z4o {F : FD} {as : FA} {δ : Zj} {ds : List PyData} {o : OT} {i : Nat} (h : EvA as δ ds) (hF : F ds = .ok o) : wX F as (Zdl i) δ = .nx (δ.set i (some o)) := by
  obtain ⟨ts, e1, e2⟩ := h
  rw [Zuz, e1, Yx, e2, hF, Zp3]; rfl
theorem Z0z {e : FE} {δ δ' : Zj} {d : PyData} {g : FG} (h : EvV e δ d) (hg : g d δ = some δ') : wE e (Zxw g) δ = .nx δ' := by
  obtain ⟨t, e1, e2⟩ := h
  rw [Zdm, e1, Yx]
  show (match g t.data δ with | some δ' => RS.nx δ' | none => .bad) = _
  rw [e2, hg]
theorem Zst {n k : Nat} {R : Nat → Nat → Int} {b : Int} (hn : n ≤ 6) (hb : 0 < b) (bb : Bt 300 b) {δ : Zj} (h3 : δ[k]? = some (some (.fz (Zam n R)))) (hk : blk 1 [4] δ = [none, some (.fz (.int b))]) : EvV (Zak 1 [4] (Zgo (Zg k)) (gNm 0) Zge (Zak 1 [1] (Zgo (Zg 0)) (gNm 0) Zge (Wa Yv (Zh (Zg 0) (Zh (Zg 1) Yk))))) δ (tbD (Zfv n R b)) := by
  have := Zdy (δ := δ) (cs := [some (.fz (.int b))]) (caps := [4]) (it := Zgo (Zg k)) (me := Zak 1 [1] (Zgo (Zg 0)) (gNm 0) Zge (Wa Yv (Zh (Zg 0) (Zh (Zg 1) Yk)))) (List.range n) (fun i => Zq5 n (R i)) (fun i => .list ((List.range n).map fun j => frD (Rat.divInt (R i j) b))) (Zee (Zc h3)) (by rw [List.length_range]; omega) hk fun i _ =>
    Zdy (cs := [some (.fz (.int b))]) (List.range n) (fun j => PyData.int (R i j)) (fun j => frD (Rat.divInt (R i j) b)) (Zee Zc) (by rw [List.length_range]; omega) rfl fun j _ => Z9 (Zd Zc (Zd Zc Zt)) (Zg3 hb bb)
  unfold Zfv tbD
  rw [List.map_map]
  refine this.cast (congrArg PyData.list (List.map_congr_left fun i _ => ?_))
  show _ = Znb _
  unfold Znb
  rw [List.map_map]; rfl
noncomputable def mo2 (R : Nat → Nat → Int) (p : List Int) (q : Nat × Nat) (w : Int) (i j : Nat) : Int := R i j + w * (if (decide ((i : Int) ∈ sd p q) != decide ((j : Int) ∈ sd p q)) = true then 1 else 0)
theorem Zwb {n : Nat} {R : Nat → Nat → Int} {p : List Int} {q : Nat × Nat} {w : Int} (hn : n ≤ 6) (hw : w.natAbs < 2 ^ 64) {δ : Zj} (h1 : δ[1]? = some (some (.fz (.int n)))) (hk : blk 1 [1, 3, 11, 12] δ = [none, some (.fz (.int n)), some (.fz (Zam n R)), some (.fz (.int w)), some (.fz (Zv (sd p q)))]) : EvV (Zak 1 [1, 3, 11, 12] (iRa (Zh (Zg 1) Yk)) (gNm 0) Zge (Zak 1 [2, 0, 3, 4] (iRa (Zh (Zg 1) Yk)) (gNm 0) Zge (Zk Zcj (W5 gIx (W5 gIx (Zg 1) (Zg 2)) (Zg 0)) (Zk Zc7 (Zg 3) (Ze5 Zw9 (Zh (Zk gNe (Zk (Zmy false) (Zg 2) (Zg 4)) (Zk (Zmy false) (Zg 0) (Zg 4))) Yk)))))) δ (Zam n (mo2 R p q w)) := by
  have z : ∀ i : Nat, (0 + (i : Int)) = (i : Int) := fun i => Int.zero_add _
  refine (Zdy (cs := [some (.fz (.int n)), some (.fz (Zam n R)), some (.fz (.int w)), some (.fz (Zv (sd p q)))]) (List.range n) (fun i : Nat => PyData.int (0 + (i : Int))) (fun i => Zq5 n (mo2 R p q w i)) (Zgi (Zd (Zc h1) Zt) (by omega)) (by rw [List.length_range]; omega) hk fun i hi => ?_).cast rfl
  have hi : i < n := List.mem_range.mp hi
  rw [z]
  refine (Zdy (cs := [some (.fz (Zam n R)), some (.fz (.int i)), some (.fz (.int w)), some (.fz (Zv (sd p q)))]) (List.range n) (fun j : Nat => PyData.int (0 + (j : Int))) (fun j => .int (mo2 R p q w i j)) (Zgi (Zd Zc Zt) (by omega)) (by rw [List.length_range]; omega) rfl fun j hj => ?_).cast rfl
  have hj : j < n := List.mem_range.mp hj
  rw [z]
  refine (Ww (Zal (Zal Zc Zc (Zh1 hi)) Zc (Zkc hj)) (Zba Zc (Zdf (Zd (Zw (Zw Zc Zc (Zd4 false _ _)) (Zw Zc Zc (Zd4 false _ _)) (Zs7 _ _)) Zt) rfl) hw)).cast ?_
  rfl
theorem Zp9 {n : Nat} {R : Nat → Nat → Int} {p : List Int} {b w : Int} (h : Pm n p) {q x : Nat × Nat} (h1 : q.1 < q.2) (h2 : q.2 < n) (h3 : x.1 < x.2) (h4 : x.2 < n) : wtR n (mo2 R p q w) p b x = if x = q then Rat.divInt (twP n (fun u v => R (pn p u) (pn p v)) q.1 q.2 + 2 * w) (2 * b) else wtR n R p b x := by
  have hin := h.inR
  have e : ∀ u v, u < n → v < n → mo2 R p q w (pn p u) (pn p v) = (fun i j => (fun u v => R (pn p u) (pn p v)) i j + cd w q.1 q.2 i j) u v := fun u v hu hv => by
    have pe : ∀ u, u < n → ((pn p u : Nat) : Int) = p.getD u 0 := fun u hu => Int.toNat_of_nonneg (hin.2 u hu).1
    unfold mo2 cd Zc8
    rw [pe u hu, pe v hv, Zfm h hu h1 h2, Zfm h hv h1 h2]
  have et : twP n (fun u v => mo2 R p q w (pn p u) (pn p v)) x.1 x.2 = twP n (fun u v => R (pn p u) (pn p v)) x.1 x.2 + (if x.1 = q.1 ∧ x.2 = q.2 then 2 * w else 0) := by
    rw [← Z0v h1 h2 h3 h4]
    have hm : (x.2 + 1) % n < n := Nat.mod_lt _ (by omega)
    unfold twP
    dsimp only
    rw [e _ _ (by omega) h4, e _ _ (by omega) hm, e _ _ (by omega) hm, e _ _ (by omega) h4]
  unfold wtR
  rw [et]
  by_cases c : x = q
  · subst c
    rw [if_pos rfl, if_pos ⟨rfl, rfl⟩]
  · rw [if_neg c, if_neg fun z => c (Prod.ext z.1 z.2), Int.add_zero]
theorem eq_self (n : Nat) (f : Nat × Nat → Rat) : Zqi (dcD true ((Z4 n).map gk) ((Z4 n).map fun q => frD (f q))) (dcD true ((Z4 n).map gk) ((Z4 n).map fun q => frD (f q))) = some (.bool true) := by
  have key : ∀ L : List (Nat × Nat), Ztb (((L.map gk).map kyD).zip (L.map fun q => frD (f q))) (((L.map gk).map kyD).zip (L.map fun q => frD (f q))) = true := by
    intro L
    induction L with
    | nil => rfl
    | cons q L ih =>
      have s : SeqAt.shaped (frD (f q)) = true := ((show Sh 1 (frD (f q)) from Znk [(f q).num, ((f q).den : Int)]).shp (by omega)).ok
      show (decide (Zgc (kyD (gk q)) = Zgc (kyD (gk q))) && (SeqAt.shaped (frD (f q)) && (SeqAt.shaped (frD (f q)) && (PyData.eqv (frD (f q)) (frD (f q)) && Ztb (((L.map gk).map kyD).zip (L.map fun q => frD (f q))) (((L.map gk).map kyD).zip (L.map fun q => frD (f q))))))) = true
      rw [ih, s, Zx3, decide_eq_true rfl, decide_eq_true rfl]; rfl
  show (if Ztb (((((Z4 n).map gk)).map kyD).zip _) _ = true then some (PyData.bool true) else none) = _
  rw [if_pos (key (Z4 n))]
theorem Zrk (ns : List Int) (hl : ns.length ≤ 63) : Zem [.list (ns.map PyData.int)] = .ok (.fz (.bool true)) := by
  show Zem [Zv ns] = _
  obtain ⟨c0, e0⟩ := Zep ns (k := 0) (by decide)
  obtain ⟨c1, e1⟩ := Zep ns (k := 1) (by decide)
  obtain ⟨c2, e2⟩ := Zep ns (k := 2) (by decide)
  obtain ⟨n, en, h3, hn⟩ : ∃ n : Nat, J5 [.int c0, .int 3, .int 5, .int 6] = .ok (.fz (.int n)) ∧ 3 ≤ n ∧ n ≤ 6 := by
    obtain ⟨m, e, h1, h2⟩ := Zvu c0 (a := 3) (b := 5) (d := 6) (by decide) (by decide)
    exact ⟨m.toNat, by rw [e, Int.toNat_of_nonneg (by omega)], by omega, by omega⟩
  obtain ⟨base, eb, b0, b1⟩ : ∃ far, atI [PyData.int 2, .int 3, .int 5, .int 100000000000000000000] ((c1.fdiv 12).fmod 4) = some (.int far) ∧ 0 < far ∧ far ≤ 100000000000000000000 := by
    have q0 := Zcu (i := c1.fdiv 12) (j := 4) (by decide)
    have q1 := Zck (i := c1.fdiv 12) (j := 4) (by decide)
    have : (c1.fdiv 12).fmod 4 = 0 ∨ (c1.fdiv 12).fmod 4 = 1 ∨ (c1.fdiv 12).fmod 4 = 2 ∨ (c1.fdiv 12).fmod 4 = 3 := by omega
    rcases this with e | e | e | e <;> rw [e] <;> exact ⟨_, rfl, by decide, by decide⟩
  obtain ⟨b, ebt, bt0, bt1⟩ : ∃ far, atI [PyData.int 1, .int 2, .int 6, .int (1000000000000000 + 37)] ((c1.fdiv 3).fmod 4) = some (.int far) ∧ 0 < far ∧ far ≤ 100000000000000000000 := by
    have q0 := Zcu (i := c1.fdiv 3) (j := 4) (by decide)
    have q1 := Zck (i := c1.fdiv 3) (j := 4) (by decide)
    have : (c1.fdiv 3).fmod 4 = 0 ∨ (c1.fdiv 3).fmod 4 = 1 ∨ (c1.fdiv 3).fmod 4 = 2 ∨ (c1.fdiv 3).fmod 4 = 3 := by omega
    rcases this with e | e | e | e <;> rw [e] <;> exact ⟨_, rfl, by decide, by decide⟩
  obtain ⟨L, eL, dL, sL⟩ := Zse ns n (by omega) b0 c1
  obtain ⟨eR, bR⟩ := Zvl dL
  obtain ⟨R, hR⟩ : ∃ R, R = fnL L := ⟨_, rfl⟩
  unfold Sy at sL
  rw [← hR] at eR bR sL
  rw [OT.data_nd, eR] at eL
  obtain ⟨r, er, pm, r0, r1⟩ := Zkk c2 h3 (by omega)
  have hr : ringB n r = true := pm.ringB h3 r0 r1
  have bb0 : Bt 68 b := Bt.of_lt (by omega) (by omega)
  have bb : Bt 300 b := bb0.mono (by decide)
  have bR68 : ∀ i j, i < n → j < n → Bt 68 (R i j) := fun i j hi hj => by
    obtain ⟨u1, u2⟩ := bR i j hi hj
    exact Bt.of_lt (by omega) (by omega)
  have bRR : ∀ i j, i < n → j < n → Bt 300 (R i j) := fun i j hi hj => (bR68 i j hi hj).mono (by decide)
  have eW := Zgz pm.inR hr hn bt0 bb bRR
  have eS := Zoh pm hn bt0 bb bRR sL
  have dW : ∀ R, (wO n R r b).data = dcD true ((Z4 n).map gk) ((Z4 n).map fun q => frD (wtR n R r b q)) := fun R => OT.data_dc ..
  obtain ⟨s7, e7⟩ := Zhk c1 7
  obtain ⟨s8, e8⟩ := Zhk c1 8
  obtain ⟨q, hq, hm⟩ : ∃ q, gIx (.list ((Z4 n).map ptD)) (.int (s7.fmod ((Z4 n).length : Int))) = some (.fz (ptD q)) ∧ q ∈ Z4 n := by
    have h0 : (0, 1) ∈ Z4 n := Zhb (by decide) (by omega)
    have hp : 0 < (Z4 n).length := List.length_pos_of_mem h0
    obtain ⟨m, em, hm⟩ := Zj7 s7 hp
    rw [em]
    refine ⟨(Z4 n)[m], ?_, List.getElem_mem _⟩
    rw [Zjz, Zt3, List.getElem?_map, List.getElem?_eq_getElem hm]; rfl
  obtain ⟨h1, h2⟩ := Zc5 hm
  have w0 := Zcu (i := s8) (j := 1000) (by decide)
  have w1 := Zck (i := s8) (j := 1000) (by decide)
  obtain ⟨w, hw⟩ : ∃ w, w = 1 + s8.fmod 1000 := ⟨_, rfl⟩
  have hw64 : w.natAbs < 2 ^ 64 := by omega
  have bw : Bt 10 w := Bt.of_lt (by omega) (by omega)
  have bM : ∀ i j, i < n → j < n → Bt 300 (mo2 R r q w i j) := fun i j hi hj => by
    unfold mo2
    refine Bt.mono (m := 68 + 12 + 1) (Bt.add (bR68 i j hi hj) ?_) (by decide)
    split
    · exact Bt.mono (m := 10) (by rw [Int.mul_one]; exact bw) (by decide)
    · rw [Int.mul_zero]; unfold Bt; decide
  have eW2 := Zgz (R := mo2 R r q w) pm.inR hr hn bt0 bb bM
  have hT : Bt 303 (twP n (fun u v => R (pn r u) (pn r v)) q.1 q.2) := Zzf (fun i j hi hj => bRR _ _ (pm.inR.at hi).2 (pm.inR.at hj).2) h1 h2
  obtain ⟨lb1, lb2⟩ := Zl2 (T := twP n (fun u v => R (pn r u) (pn r v)) q.1 q.2) (m := 2 * b) (by omega)
  have hdv := Zsu (T := twP n (fun u v => R (pn r u) (pn r v)) q.1 q.2) bt0
  have hwt : wtR n R r b q = Rat.divInt (twP n (fun u v => R (pn r u) (pn r v)) q.1 q.2) (2 * b) := rfl
  rw [← hwt] at lb1 hdv
  have bn : Bt 303 (wtR n R r b q).num := Zqo (by omega) hT
  have bd : Bt 302 ((wtR n R r b q).den : Int) := Ze3 (by omega) hdv (Z1w bb)
  have hden := Zbj (wtR n R r b q)
  have bq := Ztj bt0 bb hdv
  have q1 : J0 (.int c1) (.int 12) = some (.int (c1.fdiv 12)) := Zb6 (Zb2 (n := 5) (by decide) (btc (by decide) (by decide)))
  have q2 : Zd0 (.int (c1.fdiv 12)) (.int 4) = some (.int ((c1.fdiv 12).fmod 4)) := Zl1 (by decide)
  have q3 : J0 (.int c1) (.int 3) = some (.int (c1.fdiv 3)) := Zb6 (Zb2 (n := 3) (by decide) (btc (by decide) (by decide)))
  have q4 : Zd0 (.int (c1.fdiv 3)) (.int 4) = some (.int ((c1.fdiv 3).fmod 4)) := Zl1 (by decide)
  have g1 : gIx (.list [PyData.int 2, .int 3, .int 5, .int 100000000000000000000]) (.int ((c1.fdiv 12).fmod 4)) = some (.fz (.int base)) := by rw [Zjz, eb]; rfl
  have g2 : gIx (.list [PyData.int 1, .int 2, .int 6, .int (1000000000000000 + 37)]) (.int ((c1.fdiv 3).fmod 4)) = some (.fz (.int b)) := by rw [Zjz, ebt]; rfl
  have h4 : (4 : Nat) ≤ 1000 := by decide
  have lr := pm.len
  refine (Y7 rfl <| Z5 (Zz (Z9 (Zd (Z9 (Zd Zc (Zd Yo Zt)) (.of e0 (OT.data_fz _))) (Zd Yo (Zd Yo (Zd Yo Zt)))) (.of en (OT.data_fz _)))) <|
    Z5 (Zz (Z9 (Zd Zc (Zd Yo Zt)) (.of e1 (OT.data_fz _)))) <|
    Z5 (Zz (Z9 (Zd Zc (Zd Yo (Zd Zc (Zd (Zal (Zos (Zd Yo (Zd Yo (Zd Yo (Zd (Zw Yo Yo Z7p) Zt)))) h4) (Zw (Zw Zc Yo q1) Yo q2) g1) (Zd Zc Zt))))) eL)) <|
    Z5 (Zz (Zal (Zos (Zd Yo (Zd Yo (Zd Yo (Zd (Ww (Zw Yo Yo Z64) Yo) Zt)))) h4) (Zw (Zw Zc Yo q3) Yo q4) g2)) <|
    Z5 (Zz (Zst hn bt0 bb rfl rfl)) <|
    Z5 (Zz (Z9 (Zd (Z9 (Zd Zc (Zd Yo Zt)) (.of e2 (OT.data_fz _))) (Zd Zc Zt)) er)) <|
    Z5 (Z4o (Zd Zc (Zd Zc Zt)) eW) ?_).ok
  show Zkf _ [some (.fz (Zv ns)), some (.fz (.int n)), some (.fz (.int c1)), some (.fz (Zam n R)), some (.fz (.int b)), some (.fz (tbD (Zfv n R b))), some (.fz (Zv r)), some (wO n R r b), none, none, none, none, none, none, none] _
  have nn : Zdr (wO n R r b).data = false := by rw [dW]; rfl
  refine Z5 (W7 (Zw8 (Ze4 (Zw (Zjd rfl rfl) Yo (by rw [Zy0, nn]))) (Zke (p := true) (Zmo (Z9 (Zd Zc (Zd Zc (Zd (Zjd rfl rfl) (Zd Zc Zt)))) eS)))) rfl) ?_
  refine Z5 (Zz (Z9 (Zd Zc Zt) (Zk4 n (by omega)))) ?_
  refine Z5 (Z0z (Zal (Zc (d := .list ((Z4 n).map ptD))) (Zaj (Z9 (Zd Zc (Zd Yo Zt)) e7) ((Zsz (Zc (d := .list ((Z4 n).map ptD)))).cast (by rw [List.length_map])) (by
    have h0 : (0, 1) ∈ Z4 n := Zhb (by decide) (by omega)
    have hp : 0 < (Z4 n).length := List.length_pos_of_mem h0
    omega)) hq) rfl) ?_
  refine Z5 (Zz ((Ww Yo (Zaj (Z9 (Zd Zc (Zd Yo Zt)) e8) Yo (by decide))).cast (congrArg PyData.int hw.symm))) ?_
  refine Z5 (Zz (Zpl Zc (Zw0 (Ww Zc Yo)) (Zw0 (Ww Zc Yo)) (Ztc h1 (by omega)))) ?_
  refine Z5 (Zz (Zwb (R := R) (p := r) (q := q) hn hw64 rfl rfl)) ?_
  refine Z5 (Z0l (Zd (Zst (R := mo2 R r q w) hn bt0 bb rfl rfl) (Zd Zc Zt)) (.of eW2 (dW _))) ?_
  refine Z5 (W7 (Ze4 (p := false) (Zw Zc Yo (Zy0 _))) rfl) ?_
  have dx : ∀ {δ : Zj}, δ[7]? = some (some (wO n R r b)) → δ[9]? = some (some (.fz (.int q.1))) → δ[10]? = some (some (.fz (.int q.2))) → EvV (W5 Zmu (Zmf 7) (Zg8 (Zh (Zg 9) (Zh (Zg 10) Yk)))) δ (frD (wtR n R r b q)) := fun h7 h9 h10 => Ztd (Zjd h7 (dW R)) ((Ze0 (Zd (Zc h9) (Zd (Zc h10) Zt)) (show 2 ≤ 1000 by decide)).cast (rfl : _ = ptD q)) (Zsv (f := fun q => frD (wtR n R r b q)) hm)
  have val : ∀ {δ : Zj}, δ[7]? = some (some (wO n R r b)) → δ[9]? = some (some (.fz (.int q.1))) → δ[10]? = some (some (.fz (.int q.2))) → δ[4]? = some (some (.fz (.int b))) → δ[11]? = some (some (.fz (.int w))) → EvV (Wa Yv (Zh (Zk Zcj (Zk Zc7 (W5 gIx (W5 Zmu (Zmf 7) (Zg8 (Zh (Zg 9) (Zh (Zg 10) Yk)))) (fC (.int 0))) (Zk J0 (Zk Zc7 (fC (.int 2)) (Zg 4)) (W5 gIx (W5 Zmu (Zmf 7) (Zg8 (Zh (Zg 9) (Zh (Zg 10) Yk)))) (fC (.int 1))))) (Zk Zc7 (fC (.int 2)) (Zg 11))) (Zh (Zk Zc7 (fC (.int 2)) (Zg 4)) Yk))) δ (frD (wtR n (mo2 R r q w) r b q)) := fun h7 h9 h10 hb4 h11 => by
    rw [Zp9 pm h1 h2 h1 h2, if_pos rfl]
    refine Z9 (Zd ((Ww (Zw (Zal (d := .int (wtR n R r b q).num) (dx h7 h9 h10) Yo rfl) (Zw (Zba Yo (Zc hb4)) (Zal (d := .int ((wtR n R r b q).den : Int)) (dx h7 h9 h10) Yo rfl) (Zb6 (Zb2 (by omega) bd))) (Zf2 (Zic bn bq))) (Zba Yo (Zc h11))).cast (congrArg (fun z => PyData.int (z + 2 * w)) lb1)) (Zd (Zba Yo (Zc hb4)) Zt)) ?_
    exact Zg3 (n := 302) (by omega) (Z1w bb)
  have lg : ((Z4 n).map gk).length < 1000000 := by
    rw [List.length_map]
    have : n * n ≤ 6 * 6 := Nat.mul_le_mul hn hn
    have : (Z4 n).length ≤ n * n := Zc1 n n
    omega
  refine Z5 (Zow (val rfl rfl rfl rfl rfl) rfl ((Ze0 (Zd Zc (Zd Zc Zt)) (show 2 ≤ 1000 by decide)).cast (rfl : _ = ptD q)) (Z05 q) rfl lg) ?_
  have hf : Zqu (gk q) ((Z4 n).map gk) = true := by rw [Zta]; exact decide_eq_true hm
  have pk : Ziy (gk q) ((Z4 n).map gk) = (Z4 n).map gk := by unfold Ziy; rw [if_pos hf]
  have pv : Zjw (gk q) (frD (wtR n (mo2 R r q w) r b q)) ((Z4 n).map gk) ((Z4 n).map fun x => frD (wtR n R r b x)) = (Z4 n).map fun x => frD (wtR n (mo2 R r q w) r b x) := by
    unfold Zjw
    rw [if_pos hf, Zyf]
    refine List.map_congr_left fun x hx => ?_
    obtain ⟨h5, h6⟩ := Zc5 hx
    by_cases c : x = q
    · rw [if_pos c, c]
    · rw [if_neg c, Zp9 pm h1 h2 h5 h6, if_neg c]
  rw [pk, pv]
  exact Jr (Zw Zc (Zjd rfl (OT.data_dc ..)) (eq_self n _))
end My
namespace My
open PySem L2 PySem.Spec
theorem Zw4 {P : List Value → Prop} (h : ∀ a0, P [a0]) : ∀ us : List Value, us.length = 1 → P us := fun us hl => by
  rcases us with _ | ⟨a0, us⟩
  · exact absurd hl (by simp)
  rcases us with _ | ⟨b, us⟩
  · exact h a0
  · exact absurd hl (by simp)
theorem Zmq {P : List Value → Prop} (h : ∀ a0 a1, P [a0, a1]) : ∀ us : List Value, us.length = 2 → P us := fun us hl => by
  rcases us with _ | ⟨a0, us⟩
  · exact absurd hl (by simp)
  rcases us with _ | ⟨a1, us⟩
  · exact absurd hl (by simp)
  rcases us with _ | ⟨b, us⟩
  · exact h a0 a1
  · exact absurd hl (by simp)
theorem Z6x {P : List Value → Prop} (h : ∀ a0 a1 a2, P [a0, a1, a2]) : ∀ us : List Value, us.length = 3 → P us := fun us hl => by
  rcases us with _ | ⟨a0, us⟩
  · exact absurd hl (by simp)
  rcases us with _ | ⟨a1, us⟩
  · exact absurd hl (by simp)
  rcases us with _ | ⟨a2, us⟩
  · exact absurd hl (by simp)
  rcases us with _ | ⟨b, us⟩
  · exact h a0 a1 a2
  · exact absurd hl (by simp)
theorem Z1r {P : List Value → Prop} (h : ∀ a0 a1 a2 a3, P [a0, a1, a2, a3]) : ∀ us : List Value, us.length = 4 → P us := fun us hl => by
  rcases us with _ | ⟨a0, us⟩
  · exact absurd hl (by simp)
  rcases us with _ | ⟨a1, us⟩
  · exact absurd hl (by simp)
  rcases us with _ | ⟨a2, us⟩
  · exact absurd hl (by simp)
  rcases us with _ | ⟨a3, us⟩
  · exact absurd hl (by simp)
  rcases us with _ | ⟨b, us⟩
  · exact h a0 a1 a2 a3
  · exact absurd hl (by simp)
theorem Z71 {P : List Value → Prop} (h : ∀ a0 a1 a2 a3 a4, P [a0, a1, a2, a3, a4]) : ∀ us : List Value, us.length = 5 → P us := fun us hl => by
  rcases us with _ | ⟨a0, us⟩
  · exact absurd hl (by simp)
  rcases us with _ | ⟨a1, us⟩
  · exact absurd hl (by simp)
  rcases us with _ | ⟨a2, us⟩
  · exact absurd hl (by simp)
  rcases us with _ | ⟨a3, us⟩
  · exact absurd hl (by simp)
  rcases us with _ | ⟨a4, us⟩
  · exact absurd hl (by simp)
  rcases us with _ | ⟨b, us⟩
  · exact h a0 a1 a2 a3 a4
  · exact absurd hl (by simp)
noncomputable def top (i : Nat) : Stmt := PySem.Challenge.pw_farcuts_k27_ring_sums.main.body.getD i (.Pass ⟨0, 0, 0, 0⟩)
noncomputable abbrev Jf : Stmt := top 21
noncomputable abbrev Zat : Stmt := top 22
noncomputable abbrev Zaf : Stmt := top 26
noncomputable abbrev Za1 : Stmt := top 29
noncomputable abbrev Zbv : Stmt := top 24
noncomputable abbrev Je : Stmt := top 23
noncomputable abbrev Wi : Stmt := top 27
noncomputable abbrev Zax : Stmt := top 28
noncomputable abbrev Zaw : Stmt := top 25
noncomputable abbrev Js : Stmt := top 31
noncomputable abbrev Ju : Stmt := top 17
noncomputable abbrev Zaz : Stmt := top 5
noncomputable abbrev Zbp : Stmt := top 15
noncomputable abbrev Jt : Stmt := top 16
noncomputable abbrev Yq : Stmt := top 6
noncomputable abbrev Zas : Stmt := top 7
noncomputable abbrev Zau : Stmt := top 8
noncomputable abbrev Wf : Stmt := top 10
noncomputable abbrev Wy : Stmt := top 12
noncomputable abbrev Zae : Stmt := top 11
noncomputable abbrev Jv : Stmt := top 13
noncomputable abbrev Wz : Stmt := top 18
noncomputable abbrev Jb : Stmt := top 19
noncomputable abbrev Jg : Stmt := top 30
noncomputable abbrev Zff : Stmt := top 32
set_option genInjectivity false in
set_option genSizeOfSpec false in
structure Txt (K : PySem.W.Frag) (mg : Str → Option Value) (f : Nat → Addr) (fd : Nat → FuncData) (cls : Nat → Addr) : Prop where
  F_law_cell_at : Fun K "_law_cell_at" "_law_cell_at" Jf (f 0) (fd 0)
  b_law_cell_at : Binds K (fd 0) ["script", "k"] []
  m_law_cell_at : mg "_law_cell_at" = some (.ref (f 0))
  F_law_stir : Fun K "_law_stir" "_law_stir" Zat (f 1) (fd 1)
  b_law_stir : Binds K (fd 1) ["cell", "k"] []
  m_law_stir : mg "_law_stir" = some (.ref (f 1))
  F_law_drawn : Fun K "_law_drawn" "_law_drawn" Zaf (f 2) (fd 2)
  b_law_drawn : Binds K (fd 2) ["script", "start", "n", "base", "cell"] []
  m_law_drawn : mg "_law_drawn" = some (.ref (f 2))
  F_law_gaps : Fun K "_law_gaps" "_law_gaps" Za1 (f 3) (fd 3)
  b_law_gaps : Binds K (fd 3) ["n"] []
  m_law_gaps : mg "_law_gaps" = some (.ref (f 3))
  F_law_low : Fun K "_law_low" "_law_low" Zbv (f 4) (fd 4)
  b_law_low : Binds K (fd 4) ["top", "bottom"] []
  m_law_low : mg "_law_low" = some (.ref (f 4))
  F_law_numbers : Fun K "_law_numbers" "_law_numbers" Je (f 5) (fd 5)
  b_law_numbers : Binds K (fd 5) ["cell", "many"] []
  m_law_numbers : mg "_law_numbers" = some (.ref (f 5))
  F_law_put_right : Fun K "_law_put_right" "_law_put_right" Wi (f 6) (fd 6)
  b_law_put_right : Binds K (fd 6) ["ring"] []
  m_law_put_right : mg "_law_put_right" = some (.ref (f 6))
  F_law_ring : Fun K "_law_ring" "_law_ring" Zax (f 7) (fd 7)
  b_law_ring : Binds K (fd 7) ["cell", "n"] []
  m_law_ring : mg "_law_ring" = some (.ref (f 7))
  F_law_size : Fun K "_law_size" "_law_size" Zaw (f 8) (fd 8)
  b_law_size : Binds K (fd 8) ["cell", "least", "most", "great"] []
  m_law_size : mg "_law_size" = some (.ref (f 8))
  F_law_summed : Fun K "_law_summed" "_law_summed" Js (f 9) (fd 9)
  b_law_summed : Binds K (fd 9) ["rows", "ring", "weights", "bottom"] []
  m_law_summed : mg "_law_summed" = some (.ref (f 9))
  F_check_gaps : Fun K "check_gaps" "check_gaps" Ju (f 10) (fd 10)
  b_check_gaps : Binds K (fd 10) ["n", "a", "b"] []
  m_check_gaps : mg "check_gaps" = some (.ref (f 10))
  F_is_whole : Fun K "is_whole" "is_whole" Zaz (f 11) (fd 11)
  b_is_whole : Binds K (fd 11) ["thing"] []
  m_is_whole : mg "is_whole" = some (.ref (f 11))
  F_is_ring : Fun K "is_ring" "is_ring" Zbp (f 12) (fd 12)
  b_is_ring : Binds K (fd 12) ["n", "ring"] []
  m_is_ring : mg "is_ring" = some (.ref (f 12))
  F_check_ring : Fun K "check_ring" "check_ring" Jt (f 13) (fd 13)
  b_check_ring : Binds K (fd 13) ["n", "ring"] []
  m_check_ring : mg "check_ring" = some (.ref (f 13))
  F_greatest_divisor : Fun K "greatest_divisor" "greatest_divisor" Yq (f 14) (fd 14)
  b_greatest_divisor : Binds K (fd 14) ["a", "b"] []
  m_greatest_divisor : mg "greatest_divisor" = some (.ref (f 14))
  F_in_least : Fun K "in_least" "in_least" Zas (f 15) (fd 15)
  b_in_least : Binds K (fd 15) ["top", "bottom"] []
  m_in_least : mg "in_least" = some (.ref (f 15))
  F_fraction : Fun K "fraction" "fraction" Zau (f 16) (fd 16)
  b_fraction : Binds K (fd 16) ["top", "bottom"] []
  m_fraction : mg "fraction" = some (.ref (f 16))
  F_shared_bottom : Fun K "shared_bottom" "shared_bottom" Wf (f 17) (fd 17)
  b_shared_bottom : Binds K (fd 17) ["numbers"] []
  m_shared_bottom : mg "shared_bottom" = some (.ref (f 17))
  F_table_bottom : Fun K "table_bottom" "table_bottom" Wy (f 18) (fd 18)
  b_table_bottom : Binds K (fd 18) ["table"] []
  m_table_bottom : mg "table_bottom" = some (.ref (f 18))
  F_tops_over : Fun K "tops_over" "tops_over" Zae (f 19) (fd 19)
  b_tops_over : Binds K (fd 19) ["bottom", "numbers"] []
  m_tops_over : mg "tops_over" = some (.ref (f 19))
  F_table_over : Fun K "table_over" "table_over" Jv (f 20) (fd 20)
  b_table_over : Binds K (fd 20) ["bottom", "table"] []
  m_table_over : mg "table_over" = some (.ref (f 20))
  F_twice_weight : Fun K "twice_weight" "twice_weight" Wz (f 21) (fd 21)
  b_twice_weight : Binds K (fd 21) ["rows", "ring", "a", "b"] []
  m_twice_weight : mg "twice_weight" = some (.ref (f 21))
  F_ring_weight : Fun K "ring_weight" "ring_weight" Jb (f 22) (fd 22)
  b_ring_weight : Binds K (fd 22) ["table", "ring", "a", "b"] []
  m_ring_weight : mg "ring_weight" = some (.ref (f 22))
  F_law_weights : Fun K "_law_weights" "_law_weights" Jg (f 23) (fd 23)
  b_law_weights : Binds K (fd 23) ["table", "ring"] []
  m_law_weights : mg "_law_weights" = some (.ref (f 23))
  F_law : Fun K "law" "law" Zff (f 24) (fd 24)
  b_law : Binds K (fd 24) ["script"] []
  m_law : mg "law" = some (.ref (f 24))
  z_abs : mg "abs" = none
  z_bool : mg "bool" = none
  z_int : mg "int" = none
  z_isinstance : mg "isinstance" = none
  z_len : mg "len" = none
  z_list : mg "list" = none
  z_range : mg "range" = none
  z_sorted : mg "sorted" = none
  z_tuple : mg "tuple" = none
  mC_NoNumber : mg "NoNumber" = some (.ref (cls 0))
  ca_NoNumber : ClsAt K "NoNumber" (cls 0)
  mC_NoOrder : mg "NoOrder" = some (.ref (cls 1))
  ca_NoOrder : ClsAt K "NoOrder" (cls 1)
  r_NoNumber : Zpe K (cls 0)
  r_NoOrder : Zpe K (cls 1)
  x_NoNumber_ga : PySem.W.findIn K (.ref (cls 0)) "__getattribute__" = some (some (.builtin "BaseException.__getattribute__"))
  x_NoNumber_gt : PySem.W.findIn K (.ref (cls 0)) "__getattr__" = some none
  x_NoNumber_cl : PySem.W.findIn K (.ref (cls 0)) "__class__" = some (some (.builtin "object.__class__"))
  x_NoNumber_isB : PySem.W.subIn K (.ref (cls 0)) (.type "BaseException") = some true
  x_NoNumber_isO : PySem.W.subIn K (.ref (cls 0)) (.type "object") = some true
  x_NoNumber_isC : PySem.W.isClsIn K (cls 0) = true
  x_NoNumber_k1 : PySem.W.kitOne K (.ref (cls 0)) (.type "int") = some false
  x_NoNumber_k2 : PySem.W.kitOne K (.ref (cls 0)) (.type "bool") = some false
  x_NoNumber_k3 : PySem.W.kitOne K (.ref (cls 0)) (.type "str") = some false
  x_NoNumber_k4 : PySem.W.kitOne K (.ref (cls 0)) (.type "list") = some false
  x_NoNumber_k5 : PySem.W.kitOne K (.ref (cls 0)) (.type "tuple") = some false
  x_NoOrder_ga : PySem.W.findIn K (.ref (cls 1)) "__getattribute__" = some (some (.builtin "BaseException.__getattribute__"))
  x_NoOrder_gt : PySem.W.findIn K (.ref (cls 1)) "__getattr__" = some none
  x_NoOrder_cl : PySem.W.findIn K (.ref (cls 1)) "__class__" = some (some (.builtin "object.__class__"))
  x_NoOrder_isB : PySem.W.subIn K (.ref (cls 1)) (.type "BaseException") = some true
  x_NoOrder_isO : PySem.W.subIn K (.ref (cls 1)) (.type "object") = some true
  x_NoOrder_isC : PySem.W.isClsIn K (cls 1) = true
  x_NoOrder_k1 : PySem.W.kitOne K (.ref (cls 1)) (.type "int") = some false
  x_NoOrder_k2 : PySem.W.kitOne K (.ref (cls 1)) (.type "bool") = some false
  x_NoOrder_k3 : PySem.W.kitOne K (.ref (cls 1)) (.type "str") = some false
  x_NoOrder_k4 : PySem.W.kitOne K (.ref (cls 1)) (.type "list") = some false
  x_NoOrder_k5 : PySem.W.kitOne K (.ref (cls 1)) (.type "tuple") = some false
section
variable {P : Program} {w : World} {K : PySem.W.Frag} {mg : Str → Option Value} {base : Heap}
theorem Zgr : Z8 ["script", "k"] ["script", "k"] (Zi Jf) := ⟨rfl, rfl, rfl, by decide +kernel, rfl, by decide +kernel, by decide +kernel⟩
theorem Zgj {f : Nat → Addr} {fd : Nat → FuncData} {cls : Nat → Addr} (T : Txt K mg f fd cls) : FnOk P w K mg base CX0 1 (f 0) (fd 0) ["script", "k"] (spD K (sD Y5)) := by
  refine Ws T.F_law_cell_at Zgr (S := Zbk) rfl rfl (fun cdv A outer s H E hr => ?_)
  have hu := hr.units
  exact (Zq (Ze (Zbx (Zb0 (Wt Zs5 (Wx Zfc Zcg (Zb (mv 1)) (W6 Zb9 (Zbh J3 (Yh rfl) (by rfl) T.z_len L2.B.boot_len (Za (Zb (mv 0)) (Zn Zm)))) (hm := (Y6 _)))) (Zr (Yz (Yy (Y0 (Z7 Zcd (Zca (Z2 rfl) Wm (Zb (mv 0)) (Zb (mv 1)) (hs := fun _ _ => rfl))))))) (Wg Wc)))
      (Zr (Yz (Yy (Yg Zo))))))
theorem Zdw : Z8 ["cell", "k", "one"] ["cell", "k"] (Zi Zat) := ⟨rfl, rfl, rfl, by decide +kernel, rfl, by decide +kernel, by decide +kernel⟩
theorem Zdz {f : Nat → Addr} {fd : Nat → FuncData} {cls : Nat → Addr} (T : Txt K mg f fd cls) : FnOk P w K mg base CX0 1 (f 1) (fd 1) ["cell", "k"] (spD K (sD We)) := by
  refine Ws T.F_law_stir Zdw (S := Zcl) rfl rfl (fun cdv A outer s H E hr => ?_)
  have hu := hr.units
  exact (Zq (Ze (Z1 (Z0 (i := 2) Zdw.nd rfl (Or.inl rfl) (Zf Zcb (Zx Wr J1 (Zf Zb5 (Zx Wo J2 (Zf Zar (Zx W0 Yi (Zf Zar (Zx W0 Yi (Zf Zcb (Zx Wr J1 (Zb (mv 0)) (Yg Zo))) (Zf Zb5 (Zx Wo J2 (Yg Zo) (Zb (mv 1)))))) (Yg Zo))) (Yg Zo))) (Yg Zo)))))
      (Zq (Ze (Z1 (Z0 (i := 2) Zdw.nd rfl (Or.inl rfl) (Zf Zcb (Zx Wr J1 (Zf Zb5 (Zx Wo J2 (Zb (mv 2)) (Zb (mv 2)))) (Yg Zo)))))
      (Zr (Yz (Yy (Zf Za6 (Zx Wn Za7 (Zf Zcb (Zx Wr J1 (Zf Zb5 (Zx Wo J2 (Zf Zar (Zx W0 Yi (Zb (mv 2)) (Zf Zb5 (Zx Wo J2 (Yg Zo) (Zb (mv 1)))))) (Yg Zo))) (Yg Zo))) (Yg Zo))))))))))
theorem W8 : Z8 ["script", "start", "n", "base", "cell", "rows", "i", "j", "at", "number"] ["script", "start", "n", "base", "cell"] (Zi Zaf) := ⟨rfl, rfl, rfl, by decide +kernel, rfl, by decide +kernel, by decide +kernel⟩
theorem Zjj {f : Nat → Addr} {fd : Nat → FuncData} {cls : Nat → Addr} (T : Txt K mg f fd cls) : FnOk P w K mg base CX0 2 (f 2) (fd 2) ["script", "start", "n", "base", "cell"] (spD K (sD Jp)) := by
  have G_law_stir := Zdz (P := P) (w := w) (base := base) T
  refine Ws T.F_law_drawn W8 (S := Zcf) rfl rfl (fun cdv A outer s H E hr => ?_)
  have hu := hr.units
  exact (Zq (Ze (Zsr (Zet (i := 5) (own := ["point"]) (caps := [2]) (N' := ["point", "n"])  true W8.nd rfl (Or.inl rfl) (by exact ⟨rfl, by decide +kernel, rfl, by decide +kernel, rfl, rfl⟩) (by rfl) (by decide) (Zgh (Jl (by rfl) T.z_range (Za (Zb (mv 2)) (Zn Zm)))) (fun _ _ _ _ _ => (Ye (Yd (i := 0) (by show List.Nodup (["point", "n"] : List Str); decide +kernel)))) (fun _ _ _ _ _ => (Zbo Zbm)) (fun _ _ _ _ _ => (Zzl (Z3q (Yg Zo) (Zb (mv 1)))))))
      (Zq (Ze (Zbt (Zbr PassesOwn.never rfl (Zgh (Jl (by rfl) T.z_range (Za (Zb (mv 2)) (Zn Zm)))) (Ye (Yd (i := 6) W8.nd))
      (Zr (Zbt (Zbr PassesOwn.never rfl (Zgh (Jl (by rfl) T.z_range (Za (Zb (mv 6)) (Zn Zm)))) (Ye (Yd (i := 7) W8.nd))
      (Zq (Ze (Z1 (Z0 (i := 8) W8.nd rfl (Or.inl rfl) (Zf Zar (Zx W0 Yi (Zf Za6 (Zx Wn Za7 (Zf Zb5 (Zx Wo J2 (Zb (mv 6)) (Zf Zo0 (Zx Zjv Yi (Zb (mv 6)) (Yg Zo))))) (Yg Zo))) (Zb (mv 7))))))
      (Zq (Ze (Z1 (Z0 (i := 9) W8.nd rfl (Or.inl rfl) (Zu (Z3 G_law_stir (hr.mono (by decide)) (by rfl) T.m_law_stir T.F_law_stir.kp T.b_law_stir Yp (Za (Zb (mv 4)) (Za (Zf Zar (Zx W0 Yi (Yg Zo) (Zb (mv 8)))) (Zn Zm)))))))
      (Zq (Ze (Zbx (Zb0 (Wt Zs5 (Wx Zfc Zcg (Zf Zar (Zx W0 Yi (Zb (mv 1)) (Zb (mv 8)))) (W6 Zb9 (Zbh J3 (Yh rfl) (by rfl) T.z_len L2.B.boot_len (Za (Zb (mv 0)) (Zn Zm)))) (hm := (Y6 _)))) (Zr (Z1 (Z0 (i := 9) W8.nd rfl (Or.inl rfl) (Y0 (Z7 Zcd (Zca (Z2 rfl) Wm (Zb (mv 0)) (Zf Zar (Zx W0 Yi (Zb (mv 1)) (Zb (mv 8)))) (hs := fun _ _ => rfl))))))) (Wg Wc)))
      (Zq (Ze (Zol (Zpf 5 (Zf Zcb (Zx Wr J1 (Zb (mv 9)) (Zb (mv 3)))) (Zb (mv 6)) (Zb (mv 7)) (fun _ _ => rfl)))
      (Zr (Zol (Zpf 5 (Zf Zcb (Zx Wr J1 (Zb (mv 9)) (Zb (mv 3)))) (Zb (mv 7)) (Zb (mv 6)) (fun _ _ => rfl)))))))))))))))))
      (Zr (Zia (Zhi 5)))))))
theorem Zds : Z8 ["n", "found", "a"] ["n"] (Zi Za1) := ⟨rfl, rfl, rfl, by decide +kernel, rfl, by decide +kernel, by decide +kernel⟩
theorem Zcc {f : Nat → Addr} {fd : Nat → FuncData} {cls : Nat → Addr} (T : Txt K mg f fd cls) : FnOk P w K mg base CX0 1 (f 3) (fd 3) ["n"] (spD K (sD Yw)) := by
  refine Ws T.F_law_gaps Zds (S := Zcq) rfl rfl (fun cdv A outer s H E hr => ?_)
  have hu := hr.units
  exact (Zq (Ze (Zdp (Zdt (i := 1) Zds.nd rfl (Or.inl rfl) (Zg7 (Zmv (Zn Zm)))))
      (Zq (Ze (Zbt (Zbr PassesOwn.never rfl (Zgh (Jl (by rfl) T.z_range (Za (Zb (mv 0)) (Zn Zm)))) (Ye (Yd (i := 2) Zds.nd))
      (Zr (Zn0 (Zpx 1 (Zdv (Zfz (own := ["b"]) (caps := [2]) (N' := ["b", "a"]) (by exact ⟨rfl, by decide +kernel, rfl, by decide +kernel, rfl, rfl⟩) (by rfl) (by decide) (Z2p (Zpt (by rfl) T.z_range (Za (Zf Zar (Zx W0 Yi (Zb (mv 2)) (Yg Zo))) (Za (Zb (mv 0)) (Zn Zm))))) (fun _ _ _ _ _ => (Ye (Yd (i := 0) (by show List.Nodup (["b", "a"] : List Str); decide +kernel)))) (fun _ _ _ _ _ => (Zbo Zbm)) (fun _ _ _ _ _ => (Zcp (Zf4 (Za (Zb (mv 1)) (Za (Zb (mv 0)) (Zn Zm)))))))))))))
      (Zr (Zia (Zhi 1)))))))
theorem Zav : Z8 ["top", "bottom", "one", "other", "left"] ["top", "bottom"] (Zi Zbv) := ⟨rfl, rfl, rfl, by decide +kernel, rfl, by decide +kernel, by decide +kernel⟩
theorem Zml {f : Nat → Addr} {fd : Nat → FuncData} {cls : Nat → Addr} (T : Txt K mg f fd cls) : FnOk P w K mg base CX0 1 (f 4) (fd 4) ["top", "bottom"] (spD K (sD Yv)) := by
  refine Ws T.F_law_low Zav (S := Zc9) rfl rfl (fun cdv A outer s H E hr => ?_)
  have hu := hr.units
  exact (Zq (Ze (Z1 (Z0 (i := 2) Zav.nd rfl (Or.inl rfl) (W6 Zt6 (Zbh Zps Zih (by rfl) T.z_abs L2.B.boot_abs (Za (Zb (mv 0)) (Zn Zm))))))
      (Zq (Ze (Z1 (Z0 (i := 3) Zav.nd rfl (Or.inl rfl) (Zb (mv 1))))
      (Zq (Ze (Zlr (Zlf PassesOwn.never (Wt Zrn (Wx (Zd5 hu) Zhw (Zb (mv 3)) (Yg Zo) (hm := (Y6 _)))) (Zq (Ze (Z1 (Z0 (i := 4) Zav.nd rfl (Or.inl rfl) (Zf Zcb (Zx Wr J1 (Zb (mv 2)) (Zb (mv 3))))))
      (Zq (Ze (Z1 (Z0 (i := 2) Zav.nd rfl (Or.inl rfl) (Zb (mv 3))))
      (Zr (Z1 (Z0 (i := 3) Zav.nd rfl (Or.inl rfl) (Zb (mv 4)))))))))))
      (Zr (Yz (Yy (Zcp (Zf4 (Za (Zf Za6 (Zx Wn Za7 (Zb (mv 0)) (Zb (mv 2)))) (Za (Zf Za6 (Zx Wn Za7 (Zb (mv 1)) (Zb (mv 2)))) (Zn Zm))))))))))))))
theorem Y8 : Z8 ["cell", "many", "found", "digits", "k", "number"] ["cell", "many"] (Zi Je) := ⟨rfl, rfl, rfl, by decide +kernel, rfl, by decide +kernel, by decide +kernel⟩
theorem Zgn {f : Nat → Addr} {fd : Nat → FuncData} {cls : Nat → Addr} (T : Txt K mg f fd cls) : FnOk P w K mg base CX0 2 (f 5) (fd 5) ["cell", "many"] (spD K (sD W2)) := by
  have G_law_stir := Zdz (P := P) (w := w) (base := base) T
  refine Ws T.F_law_numbers Y8 (S := Zbl) rfl rfl (fun cdv A outer s H E hr => ?_)
  have hu := hr.units
  exact (Zq (Ze (Zdp (Zdt (i := 2) Y8.nd rfl (Or.inl rfl) (Zg7 (Zmv (Zn Zm)))))
      (Zq (Ze (Z1 (Z0 (i := 3) Y8.nd rfl (Or.inl rfl) (Zb (mv 0))))
      (Zq (Ze (Zbt (Zbr PassesOwn.never rfl (Zgh (Jl (by rfl) T.z_range (Za (Zb (mv 1)) (Zn Zm)))) (Ye (Yd (i := 4) Y8.nd))
      (Zq (Ze (Z1 (Z0 (i := 5) Y8.nd rfl (Or.inl rfl) (Zu (Z3 G_law_stir (hr.mono (by decide)) (by rfl) T.m_law_stir T.F_law_stir.kp T.b_law_stir Yp (Za (Zb (mv 0)) (Za (Zb (mv 4)) (Zn Zm)))))))
      (Zq (Ze (Zbx (Zb0 (Wt Z61 (Wx Z3e Zcg (Zb (mv 0)) (Zf Zud (Zx Zky Zoo (Yg Zo) (Yg Zo))) (hm := (Y6 _)))) (Zr (Z1 (Z0 (i := 5) Y8.nd rfl (Or.inl rfl) (Zf Zcb (Zx Wr J1 (Zb (mv 3)) (Yg Zo)))))) (Wg Wc)))
      (Zq (Ze (Z1 (Z0 (i := 3) Y8.nd rfl (Or.inl rfl) (Zf Za6 (Zx Wn Za7 (Zb (mv 3)) (Yg Zo)))))
      (Zr (Zje (Zjy 2 (Zb (mv 5)))))))))))))
      (Zr (Zia (Zhi 2)))))))))
theorem Jo : Z8 ["ring", "at", "wound"] ["ring"] (Zi Wi) := ⟨rfl, rfl, rfl, by decide +kernel, rfl, by decide +kernel, by decide +kernel⟩
theorem Ze9 {f : Nat → Addr} {fd : Nat → FuncData} {cls : Nat → Addr} (T : Txt K mg f fd cls) : FnOk P w K mg base CX0 1 (f 6) (fd 6) ["ring"] (spD K (sD Jk)) := by
  refine Ws T.F_law_put_right Jo (S := Zap) rfl rfl (fun cdv A outer s H E hr => ?_)
  have hu := hr.units
  exact (Zq (Ze (Z1 (Z0 (i := 1) Jo.nd rfl (Or.inl rfl) (Zrj (Zvc (Zb (mv 0)) (Yg Zo)))))
      (Zq (Ze (Z1 (Z0 (i := 2) Jo.nd rfl (Or.inl rfl) (Y0 (Z7 Zuq (Z20 (Zki rfl) Zog (Zou (Zny (Zb (mv 0)) (Zb1 (Zb8 (Zb (mv 1)))) (Zh2 Zh6))) (Zou (Zny (Zb (mv 0)) (Zh2 Zh6) (Zb1 (Zb8 (Zb (mv 1)))))))))))
      (Zq (Ze (Zbx (Zb0 (MW.mt (Z09 (Zyg (Wt Z4j (Wx Zv1 Zcg (W6 Zb9 (Zbh J3 (Yh rfl) (by rfl) T.z_len L2.B.boot_len (Za (Zb (mv 2)) (Zn Zm)))) (Yg Zo) (hm := (Y6 _)))) (Zug (Wt Z4j (Wx Zv1 Zcg (Y0 (Z7 Zcd (Zca (Z2 rfl) Wm (Zb (mv 2)) (Yg Zo) (hs := fun _ _ => rfl)))) (Y0 (Z7 Zcd (Zca (Z2 rfl) Wm (Zb (mv 2)) (Zlo (Zsm (Yg Zo))) (hs := fun _ _ => rfl)))) (hm := (Y6 _)))))))) (Zr (Z1 (Z0 (i := 2) Jo.nd rfl (Or.inl rfl) (Y0 (Z7 Zuq (Z20 (Zki rfl) Zog (Zou (Zny (Zb (mv 2)) (Zh2 Zh6) (Zb1 (Zb8 (Yg Zo))))) (Zwz (Zx2 (Zb (mv 2)) (Zh2 Zh6) (Zb1 (Zb8 (Yg Zo))) (Zb1 (Zb8 (Zlo (Zsm (Yg Zo))))))))))))) (Wg Wc)))
      (Zr (Yz (Yy (Zb (mv 2)))))))))))
theorem Zbc : Z8 ["cell", "n", "numbers", "left", "ring", "k"] ["cell", "n"] (Zi Zax) := ⟨rfl, rfl, rfl, by decide +kernel, rfl, by decide +kernel, by decide +kernel⟩
theorem Zka {f : Nat → Addr} {fd : Nat → FuncData} {cls : Nat → Addr} (T : Txt K mg f fd cls) : FnOk P w K mg base CX0 3 (f 7) (fd 7) ["cell", "n"] (spD K (sD Jx)) := by
  have G_law_numbers := Zgn (P := P) (w := w) (base := base) T
  have G_law_put_right := Ze9 (P := P) (w := w) (base := base) T
  refine Ws T.F_law_ring Zbc (S := Zcx) rfl rfl (fun cdv A outer s H E hr => ?_)
  have hu := hr.units
  exact (Zq (Ze (Z1 (Z0 (i := 2) Zbc.nd rfl (Or.inl rfl) (Zu (Z3 G_law_numbers (hr.mono (by decide)) (by rfl) T.m_law_numbers T.F_law_numbers.kp T.b_law_numbers Yp (Za (Zb (mv 0)) (Za (Zb (mv 1)) (Zn Zm)))))))
      (Zq (Ze (Zdp (Zdt (i := 3) Zbc.nd rfl (Or.inl rfl) (Zt5 (Zjn (by rfl) (by rfl) T.z_list L2.B.boot_list (by rfl) T.z_range L2.B.boot_range (Za (Zb (mv 1)) (Zn Zm))))))
      (Zq (Ze (Zdp (Zdt (i := 4) Zbc.nd rfl (Or.inl rfl) (Zg7 (Zmv (Zn Zm)))))
      (Zq (Ze (Zbt (Zbr PassesOwn.never rfl (Zgh (Jl (by rfl) T.z_range (Za (Zb (mv 1)) (Zn Zm)))) (Ye (Yd (i := 5) Zbc.nd))
      (Zr (Zje (Zjy 4 (Z0h (Z3x 3 (Zf Zcb (Zx Wr J1 (Y0 (Z7 Zcd (Zca (Z2 rfl) Wm (Zb (mv 2)) (Zb (mv 5)) (hs := fun _ _ => rfl)))) (W6 Zb9 (Zbh J3 (Yh rfl) (by rfl) T.z_len L2.B.boot_len (Za (Zgu (mo 3)) (Zn Zm)))))))))))))
      (Zr (Zo6 (Zqp 4 (Yz (Yy (Zu (Z3 G_law_put_right (hr.mono (by decide)) (by rfl) T.m_law_put_right T.F_law_put_right.kp T.b_law_put_right Yp (Za (Zb (mv 4)) (Zn Zm)))))))))))))))))
theorem Zkp : Z8 ["cell", "least", "most", "great"] ["cell", "least", "most", "great"] (Zi Zaw) := ⟨rfl, rfl, rfl, by decide +kernel, rfl, by decide +kernel, by decide +kernel⟩
theorem Zkr {f : Nat → Addr} {fd : Nat → FuncData} {cls : Nat → Addr} (T : Txt K mg f fd cls) : FnOk P w K mg base CX0 1 (f 8) (fd 8) ["cell", "least", "most", "great"] (spD K (sD J5)) := by
  refine Ws T.F_law_size Zkp (S := Zc2) rfl rfl (fun cdv A outer s H E hr => ?_)
  have hu := hr.units
  exact (Zq (Ze (Zbx (Zb0 (Wt Zze (Wx (Zjf hu) Zpy (Zf Zcb (Zx Wr J1 (Zf Za6 (Zx Wn Za7 (Zb (mv 0)) (Yg Zo))) (Yg Zo))) (Yg Zo) (hm := (Y6 _)))) (Zr (Yz (Yy (Zf Zar (Zx W0 Yi (Zf Zar (Zx W0 Yi (Zb (mv 2)) (Yg Zo))) (Zf Zcb (Zx Wr J1 (Zf Za6 (Zx Wn Za7 (Zb (mv 0)) (Yg Zo))) (Zf Zo0 (Zx Zjv Yi (Zb (mv 3)) (Zb (mv 2))))))))))) (Wg Wc)))
      (Zr (Yz (Yy (Zf Zar (Zx W0 Yi (Zb (mv 1)) (Zf Zcb (Zx Wr J1 (Zb (mv 0)) (Zf Zo0 (Zx Zjv Yi (Zf Zar (Zx W0 Yi (Zb (mv 2)) (Yg Zo))) (Zb (mv 1)))))))))))))
theorem Yn : Z8 ["rows", "ring", "weights", "bottom", "n", "i", "j", "top", "a", "b", "side", "weight"] ["rows", "ring", "weights", "bottom"] (Zi Js) := ⟨rfl, rfl, rfl, by decide +kernel, rfl, by decide +kernel, by decide +kernel⟩
theorem Zhh {f : Nat → Addr} {fd : Nat → FuncData} {cls : Nat → Addr} (T : Txt K mg f fd cls) : FnOk P w K mg base CX0 2 (f 9) (fd 9) ["rows", "ring", "weights", "bottom"] (spD K (sD Zab)) := by
  have G_law_gaps := Zcc (P := P) (w := w) (base := base) T
  refine Ws T.F_law_summed Yn (S := Zbs) rfl rfl (fun cdv A outer s H E hr => ?_)
  have hu := hr.units
  exact (Zq (Ze (Z1 (Z0 (i := 4) Yn.nd rfl (Or.inl rfl) (W6 Zb9 (Zbh J3 (Yh rfl) (by rfl) T.z_len L2.B.boot_len (Za (Zb (mv 0)) (Zn Zm))))))
      (Zq (Ze (Zbt (Zbr PassesOwn.never rfl (Zgh (Jl (by rfl) T.z_range (Za (Zb (mv 4)) (Zn Zm)))) (Ye (Yd (i := 5) Yn.nd))
      (Zr (Zbt (Zbr PassesOwn.never rfl (Zgh (Jl (by rfl) T.z_range (Za (Zb (mv 4)) (Zn Zm)))) (Ye (Yd (i := 6) Yn.nd))
      (Zq (Ze (Z1 (Z0 (i := 7) Yn.nd rfl (Or.inl rfl) (Yg Zo)))
      (Zq (Ze (Zbt (Zbr PassesOwn.never rfl (Zaa (J8 (Zu (Z3 G_law_gaps (hr.mono (by decide)) (by rfl) T.m_law_gaps T.F_law_gaps.kp T.b_law_gaps Yp (Za (Zb (mv 4)) (Zn Zm)))))) (Zjs (Zi2 (n := 2) (by rfl) (Zai (Zah (Ye (Yd (i := 8) Yn.nd)) (Zai (Zah (Ye (Yd (i := 9) Yn.nd)) (Zf8 Zfy)))))))
      (Zq (Ze (Z1 (Z0 (i := 10) Yn.nd rfl (Or.inl rfl) (Zou (Zny (Zb (mv 1)) (Zb1 (Zb8 (Zf Zar (Zx W0 Yi (Zb (mv 8)) (Yg Zo))))) (Zb1 (Zb8 (Zf Zar (Zx W0 Yi (Zb (mv 9)) (Yg Zo)))))))))
      (Zq (Ze (Z1 (Z0 (i := 11) Yn.nd rfl (Or.inl rfl) (Y0 (Z7 Zu2 (Zvb hu (Zb (mv 2)) (Zcp (Zf4 (Za (Zb (mv 8)) (Za (Zb (mv 9)) (Zn Zm))))) (hs := fun _ _ => rfl))))))
      (Zq (Ze (Zbx (Zb0 (Wt Z4j (Wx Zv1 Zcg (Zf Zcb (Zx Wr J1 (Zf Zb5 (Zx Wo J2 (Yg Zo) (Zb (mv 3)))) (Y0 (Z7 Zcd (Zca (Z2 rfl) Wm (Zb (mv 11)) (Yg Zo) (hs := fun _ _ => rfl)))))) (Yg Zo) (hm := (Y6 _)))) (Zr (Yz (Yy (Yg Zkl)))) (Wg Wc)))
      (Zr (Zbx (Zb0 (Wt Zrn (Wx (Zd5 hu) Zhw (Zf Zsl (Zju (Zlk rfl) Zsg (Zb (mv 5)) (Zb (mv 10)) (hm := (by with_unfolding_all rfl)))) (Zf Zsl (Zju (Zlk rfl) Zsg (Zb (mv 6)) (Zb (mv 10)) (hm := (by with_unfolding_all rfl)))) (hm := (Y6 _)))) (Zr (Z1 (Z0 (i := 7) Yn.nd rfl (Or.inl rfl) (Zf Zar (Zx W0 Yi (Zb (mv 7)) (Zf Zb5 (Zx Wo J2 (Y0 (Z7 Zcd (Zca (Z2 rfl) Wm (Zb (mv 11)) (Yg Zo) (hs := fun _ _ => rfl)))) (Zf Za6 (Zx Wn Za7 (Zf Zb5 (Zx Wo J2 (Yg Zo) (Zb (mv 3)))) (Y0 (Z7 Zcd (Zca (Z2 rfl) Wm (Zb (mv 11)) (Yg Zo) (hs := fun _ _ => rfl))))))))))))) (Wg Wc))))))))))))
      (Zr (Zbx (Zb0 (Wt Zrn (Wx (Zd5 hu) Zhw (Zb (mv 7)) (Zf Zb5 (Zx Wo J2 (Yg Zo) (Y0 (Z7 Zcd (Zca (Z2 rfl) Wm (Y0 (Z7 Zcd (Zca (Z2 rfl) Wm (Zb (mv 0)) (Zb (mv 5)) (hs := fun _ _ => rfl)))) (Zb (mv 6)) (hs := fun _ _ => rfl)))))) (hm := (Y6 _)))) (Zr (Yz (Yy (Yg Zkl)))) (Wg Wc)))))))))))))
      (Zr (Yz (Yy (Yg Zkl))))))))
theorem Zeb : Z8 ["n", "a", "b"] ["n", "a", "b"] (Zi Ju) := ⟨rfl, rfl, rfl, by decide +kernel, rfl, by decide +kernel, by decide +kernel⟩
theorem Zd2 {f : Nat → Addr} {fd : Nat → FuncData} {cls : Nat → Addr} (T : Txt K mg f fd cls) : FnOk P w K mg base CX0 1 (f 10) (fd 10) ["n", "a", "b"] (spD K (sD Jd)) := by
  refine Ws T.F_check_gaps Zeb (S := J9) rfl rfl (fun cdv A outer s H E hr => ?_)
  have hu := hr.units
  exact (Zr (Zbx (Zb0 (Za5 (Zbb (Zj1 (Zjk Zyx Zfc Zfc (Yg Zo) (Zb (mv 1)) (Zb (mv 2)) (Zb (mv 0)))))) (Zr Zfi) (Wg Wc))))
theorem Zdj {f : Nat → Addr} {fd : Nat → FuncData} {cls : Nat → Addr} (T : Txt K mg f fd cls) : FnOk P w K mg base (CX1 P w) 1 (f 10) (fd 10) ["n", "a", "b"] (spX K (sX K Jd)) := by
  refine Zjg T.F_check_gaps Zeb (S := J9) rfl rfl (fun cdv A outer s H E hr => ?_)
  have hu := hr.units
  exact (Zeq (Zwm (Zwd (Za5 (Zbb (Zj1 (Zjk Zyx Zfc Zfc (Yg Zo) (Zb (mv 1)) (Zb (mv 2)) (Zb (mv 0)))))) (Zeq (Zh3 T.ca_NoOrder (Zhy rfl hr.hd (by rfl) T.mC_NoOrder T.r_NoOrder))) (Zhf _))))
theorem Zj9 : Z8 ["thing"] ["thing"] (Zi Zaz) := ⟨rfl, rfl, rfl, by decide +kernel, rfl, by decide +kernel, by decide +kernel⟩
theorem Zdk {f : Nat → Addr} {fd : Nat → FuncData} {cls : Nat → Addr} (T : Txt K mg f fd cls) : FnOk P w K mg base CX0 1 (f 11) (fd 11) ["thing"] (spD K (sD Wh)) := by
  refine Ws T.F_is_whole Zj9 (S := Zcn) rfl rfl (fun cdv A outer s H E hr => ?_)
  have hu := hr.units
  exact (Zr (Yz (Yy (Zqs (Z0q (Zi7 (Zqd (by decide) (by rfl) T.z_isinstance L2.B.boot_isinstance (by rfl) T.z_int L2.B.boot_int (Zb (mv 0)))) (Zzx (Zwk (Z19 (Zi7 (Zqd (by decide) (by rfl) T.z_isinstance L2.B.boot_isinstance (by rfl) T.z_bool L2.B.boot_bool (Zb (mv 0))))))))))))
theorem Zg0 : Z8 ["n", "ring", "point"] ["n", "ring"] (Zi Zbp) := ⟨rfl, rfl, rfl, by decide +kernel, rfl, by decide +kernel, by decide +kernel⟩
theorem Zg1 {f : Nat → Addr} {fd : Nat → FuncData} {cls : Nat → Addr} (T : Txt K mg f fd cls) : FnOk P w K mg base CX0 2 (f 12) (fd 12) ["n", "ring"] (spD K (sD Zbn)) := by
  have G_is_whole := Zdk (P := P) (w := w) (base := base) T
  refine Ws T.F_is_ring Zg0 (S := Zdh) rfl rfl (fun cdv A outer s H E hr => ?_)
  have hu := hr.units
  exact (Zq (Ze (Zbt (Zbr PassesOwn.never rfl (Zaa (J8 (Zb (mv 1)))) (Ye (Yd (i := 2) Zg0.nd))
      (Zr (Zbx (Zb0 (Za5 (Zbb (Zby (Zbu (Zu (Z3 G_is_whole (hr.mono (by decide)) (by rfl) T.m_is_whole T.F_is_whole.kp T.b_is_whole Yp (Za (Zb (mv 2)) (Zn Zm)))) (fun _ => rfl))))) (Zr (Yz (Yy (Yg Zkl)))) (Wg Wc))))))
      (Zq (Ze (Zbx (Zb0 (MW.mt (Zd1 (Zeh (Wt Zs5 (Wx Zfc Zcg (Zb (mv 0)) (Yg Zo) (hm := (Y6 _)))) (Ze2 (Wt Zrn (Wx (Zd5 hu) Zhw (Z38 Zwo (Z63 Zr0 (Zmm rfl) (by rfl) T.z_sorted L2.B.boot_sorted (Za (Zb (mv 1)) (Zn Zm)))) (Zt5 (Zjn (by rfl) (by rfl) T.z_list L2.B.boot_list (by rfl) T.z_range L2.B.boot_range (Za (Zb (mv 0)) (Zn Zm)))) (hm := (Y6 _)))))))) (Zr (Yz (Yy (Yg Zkl)))) (Wg Wc)))
      (Zr (Yz (Yy (Zqs (Z0q (Zf Zze (Zju (Zjf hu) Zpy (Y0 (Z7 Zcd (Zca (Z2 rfl) Wm (Zb (mv 1)) (Yg Zo) (hs := fun _ _ => rfl)))) (Yg Zo) (hm := (Y6 _)))) (Zzx (Zf Zs5 (Zju Zfc Zcg (Y0 (Z7 Zcd (Zca (Z2 rfl) Wm (Zb (mv 1)) (Yg Zo) (hs := fun _ _ => rfl)))) (Y0 (Z7 Zcd (Zca (Z2 rfl) Wm (Zb (mv 1)) (Zlo (Zsm (Yg Zo))) (hs := fun _ _ => rfl)))) (hm := (Y6 _))))))))))))))
theorem Zef : Z8 ["n", "ring"] ["n", "ring"] (Zi Jt) := ⟨rfl, rfl, rfl, by decide +kernel, rfl, by decide +kernel, by decide +kernel⟩
theorem Zd7 {f : Nat → Addr} {fd : Nat → FuncData} {cls : Nat → Addr} (T : Txt K mg f fd cls) : FnOk P w K mg base CX0 3 (f 13) (fd 13) ["n", "ring"] (spD K (sD Jc)) := by
  have G_is_ring := Zg1 (P := P) (w := w) (base := base) T
  refine Ws T.F_check_ring Zef (S := Zac) rfl rfl (fun cdv A outer s H E hr => ?_)
  have hu := hr.units
  exact (Zr (Zbx (Zb0 (Za5 (Zbb (Zby (Zbu (Zu (Z3 G_is_ring (hr.mono (by decide)) (by rfl) T.m_is_ring T.F_is_ring.kp T.b_is_ring Yp (Za (Zb (mv 0)) (Za (Zb (mv 1)) (Zn Zm))))) (fun _ => rfl))))) (Zr Zfi) (Wg Wc))))
theorem Zdc {f : Nat → Addr} {fd : Nat → FuncData} {cls : Nat → Addr} (T : Txt K mg f fd cls) : FnOk P w K mg base (CX1 P w) 3 (f 13) (fd 13) ["n", "ring"] (spX K (sX K Jc)) := by
  have G_is_ring := Zg1 (P := P) (w := w) (base := base) T
  refine Zjg T.F_check_ring Zef (S := Zac) rfl rfl (fun cdv A outer s H E hr => ?_)
  have hu := hr.units
  exact (Zeq (Zwm (Zwd (Za5 (Zbb (Zby (Zbu (Zu (Z3 G_is_ring (hr.mono (by decide)) (by rfl) T.m_is_ring T.F_is_ring.kp T.b_is_ring Yp (Za (Zb (mv 0)) (Za (Zb (mv 1)) (Zn Zm))))) (fun _ => rfl))))) (Zeq (Zh3 T.ca_NoOrder (Zhy rfl hr.hd (by rfl) T.mC_NoOrder T.r_NoOrder))) (Zhf _))))
theorem Yl : Z8 ["a", "b", "left"] ["a", "b"] (Zi Yq) := ⟨rfl, rfl, rfl, by decide +kernel, rfl, by decide +kernel, by decide +kernel⟩
theorem Zbg {f : Nat → Addr} {fd : Nat → FuncData} {cls : Nat → Addr} (T : Txt K mg f fd cls) : FnOk P w K mg base CX0 1 (f 14) (fd 14) ["a", "b"] (spD K (sD Yj)) := by
  refine Ws T.F_greatest_divisor Yl (S := J6) rfl rfl (fun cdv A outer s H E hr => ?_)
  have hu := hr.units
  exact (Zq (Ze (Z1 (Z0 (i := 0) Yl.nd rfl (Or.inl rfl) (W6 Zt6 (Zbh Zps Zih (by rfl) T.z_abs L2.B.boot_abs (Za (Zb (mv 0)) (Zn Zm))))))
      (Zq (Ze (Z1 (Z0 (i := 1) Yl.nd rfl (Or.inl rfl) (W6 Zt6 (Zbh Zps Zih (by rfl) T.z_abs L2.B.boot_abs (Za (Zb (mv 1)) (Zn Zm))))))
      (Zq (Ze (Zlr (Zlf PassesOwn.never (Wt Zrn (Wx (Zd5 hu) Zhw (Zb (mv 1)) (Yg Zo) (hm := (Y6 _)))) (Zq (Ze (Z1 (Z0 (i := 2) Yl.nd rfl (Or.inl rfl) (Zf Zcb (Zx Wr J1 (Zb (mv 0)) (Zb (mv 1))))))
      (Zq (Ze (Z1 (Z0 (i := 0) Yl.nd rfl (Or.inl rfl) (Zb (mv 1))))
      (Zr (Z1 (Z0 (i := 1) Yl.nd rfl (Or.inl rfl) (Zb (mv 2)))))))))))
      (Zr (Yz (Yy (Zb (mv 0)))))))))))
theorem Zdu : Z8 ["top", "bottom", "shared"] ["top", "bottom"] (Zi Zas) := ⟨rfl, rfl, rfl, by decide +kernel, rfl, by decide +kernel, by decide +kernel⟩
theorem Zfu {f : Nat → Addr} {fd : Nat → FuncData} {cls : Nat → Addr} (T : Txt K mg f fd cls) : FnOk P w K mg base CX0 2 (f 15) (fd 15) ["top", "bottom"] (spD K (sD Za8)) := by
  have G_greatest_divisor := Zbg (P := P) (w := w) (base := base) T
  refine Ws T.F_in_least Zdu (S := Zcr) rfl rfl (fun cdv A outer s H E hr => ?_)
  have hu := hr.units
  exact (Zq (Ze (Z1 (Z0 (i := 2) Zdu.nd rfl (Or.inl rfl) (Zu (Z3 G_greatest_divisor (hr.mono (by decide)) (by rfl) T.m_greatest_divisor T.F_greatest_divisor.kp T.b_greatest_divisor Yp (Za (Zb (mv 0)) (Za (Zb (mv 1)) (Zn Zm)))))))
      (Zq (Ze (Zbx (Zb0 (Wt Zs5 (Wx Zfc Zcg (Zb (mv 1)) (Yg Zo) (hm := (Y6 _)))) (Zr (Z1 (Z0 (i := 2) Zdu.nd rfl (Or.inl rfl) (Zlo (Zsm (Zb (mv 2))))))) (Wg Wc)))
      (Zr (Yz (Yy (Zcp (Zf4 (Za (Zf Za6 (Zx Wn Za7 (Zb (mv 0)) (Zb (mv 2)))) (Za (Zf Za6 (Zx Wn Za7 (Zb (mv 1)) (Zb (mv 2)))) (Zn Zm))))))))))))
theorem Zfx : Z8 ["top", "bottom"] ["top", "bottom"] (Zi Zau) := ⟨rfl, rfl, rfl, by decide +kernel, rfl, by decide +kernel, by decide +kernel⟩
theorem Zf5 {f : Nat → Addr} {fd : Nat → FuncData} {cls : Nat → Addr} (T : Txt K mg f fd cls) : FnOk P w K mg base CX0 3 (f 16) (fd 16) ["top", "bottom"] (spD K (sD Jy)) := by
  have G_in_least := Zfu (P := P) (w := w) (base := base) T
  have G_is_whole := Zdk (P := P) (w := w) (base := base) T
  refine Ws T.F_fraction Zfx (S := Zbf) rfl rfl (fun cdv A outer s H E hr => ?_)
  have hu := hr.units
  exact (Zq (Ze (Zbx (Zb0 (MW.mt (Zd1 (Zeh (Za5 (Zbb (Zby (Zbu (Zu (Z3 G_is_whole (hr.mono (by decide)) (by rfl) T.m_is_whole T.F_is_whole.kp T.b_is_whole Yp (Za (Zb (mv 0)) (Zn Zm)))) (fun _ => rfl))))) (Zd1 (Zeh (Za5 (Zbb (Zby (Zbu (Zu (Z3 G_is_whole (hr.mono (by decide)) (by rfl) T.m_is_whole T.F_is_whole.kp T.b_is_whole Yp (Za (Zb (mv 1)) (Zn Zm)))) (fun _ => rfl))))) (Ze2 (Wt Zze (Wx (Zjf hu) Zpy (Zb (mv 1)) (Yg Zo) (hm := (Y6 _)))))))))) (Zr Zfi) (Wg Wc)))
      (Zr (Yz (Yy (Zu (Z3 G_in_least (hr.mono (by decide)) (by rfl) T.m_in_least T.F_in_least.kp T.b_in_least Yp (Za (Zb (mv 0)) (Za (Zb (mv 1)) (Zn Zm))))))))))
theorem Zey {f : Nat → Addr} {fd : Nat → FuncData} {cls : Nat → Addr} (T : Txt K mg f fd cls) : FnOk P w K mg base (CX1 P w) 3 (f 16) (fd 16) ["top", "bottom"] (spX K (sX K Jy)) := by
  have G_in_least := Zfu (P := P) (w := w) (base := base) T
  have G_is_whole := Zdk (P := P) (w := w) (base := base) T
  refine Zjg T.F_fraction Zfx (S := Zbf) rfl rfl (fun cdv A outer s H E hr => ?_)
  have hu := hr.units
  exact (Zfr (Zwm (Zwd (MW.mt (Zd1 (Zeh (Za5 (Zbb (Zby (Zbu (Zu (Z3 G_is_whole (hr.mono (by decide)) (by rfl) T.m_is_whole T.F_is_whole.kp T.b_is_whole Yp (Za (Zb (mv 0)) (Zn Zm)))) (fun _ => rfl))))) (Zd1 (Zeh (Za5 (Zbb (Zby (Zbu (Zu (Z3 G_is_whole (hr.mono (by decide)) (by rfl) T.m_is_whole T.F_is_whole.kp T.b_is_whole Yp (Za (Zb (mv 1)) (Zn Zm)))) (fun _ => rfl))))) (Ze2 (Wt Zze (Wx (Zjf hu) Zpy (Zb (mv 1)) (Yg Zo) (hm := (Y6 _)))))))))) (Zeq (Zh3 T.ca_NoNumber (Zhy rfl hr.hd (by rfl) T.mC_NoNumber T.r_NoNumber))) (Zhf _))) (Zbx (Zb0 (MW.mt (Zd1 (Zeh (Za5 (Zbb (Zby (Zbu (Zu (Z3 G_is_whole (hr.mono (by decide)) (by rfl) T.m_is_whole T.F_is_whole.kp T.b_is_whole Yp (Za (Zb (mv 0)) (Zn Zm)))) (fun _ => rfl))))) (Zd1 (Zeh (Za5 (Zbb (Zby (Zbu (Zu (Z3 G_is_whole (hr.mono (by decide)) (by rfl) T.m_is_whole T.F_is_whole.kp T.b_is_whole Yp (Za (Zb (mv 1)) (Zn Zm)))) (fun _ => rfl))))) (Ze2 (Wt Zze (Wx (Zjf hu) Zpy (Zb (mv 1)) (Yg Zo) (hm := (Y6 _)))))))))) (Zr Zfi) (Wg Wc))) (Zhf _))
theorem Jm : Z8 ["numbers", "bottom", "q"] ["numbers"] (Zi Wf) := ⟨rfl, rfl, rfl, by decide +kernel, rfl, by decide +kernel, by decide +kernel⟩
theorem Zfb {f : Nat → Addr} {fd : Nat → FuncData} {cls : Nat → Addr} (T : Txt K mg f fd cls) : FnOk P w K mg base CX0 2 (f 17) (fd 17) ["numbers"] (spD K (sD Wb)) := by
  have G_greatest_divisor := Zbg (P := P) (w := w) (base := base) T
  refine Ws T.F_shared_bottom Jm (S := Zaq) rfl rfl (fun cdv A outer s H E hr => ?_)
  have hu := hr.units
  exact (Zq (Ze (Z1 (Z0 (i := 1) Jm.nd rfl (Or.inl rfl) (Yg Zo)))
      (Zq (Ze (Zbt (Zbr PassesOwn.never rfl (Zaa (J8 (Zb (mv 0)))) (Ye (Yd (i := 2) Jm.nd))
      (Zr (Z1 (Z0 (i := 1) Jm.nd rfl (Or.inl rfl) (Zf Zb5 (Zx Wo J2 (Zf Za6 (Zx Wn Za7 (Zb (mv 1)) (Zu (Z3 G_greatest_divisor (hr.mono (by decide)) (by rfl) T.m_greatest_divisor T.F_greatest_divisor.kp T.b_greatest_divisor Yp (Za (Zb (mv 1)) (Za (Y0 (Z7 Zcd (Zca (Z2 rfl) Wm (Zb (mv 2)) (Yg Zo) (hs := fun _ _ => rfl)))) (Zn Zm))))))) (Y0 (Z7 Zcd (Zca (Z2 rfl) Wm (Zb (mv 2)) (Yg Zo) (hs := fun _ _ => rfl)))))))))))
      (Zr (Yz (Yy (Zb (mv 1)))))))))
theorem Jw : Z8 ["table", "bottom", "row"] ["table"] (Zi Wy) := ⟨rfl, rfl, rfl, by decide +kernel, rfl, by decide +kernel, by decide +kernel⟩
theorem Zcw {f : Nat → Addr} {fd : Nat → FuncData} {cls : Nat → Addr} (T : Txt K mg f fd cls) : FnOk P w K mg base CX0 3 (f 18) (fd 18) ["table"] (spD K (sD Wk)) := by
  have G_shared_bottom := Zfb (P := P) (w := w) (base := base) T
  refine Ws T.F_table_bottom Jw (S := Za2) rfl rfl (fun cdv A outer s H E hr => ?_)
  have hu := hr.units
  exact (Zq (Ze (Z1 (Z0 (i := 1) Jw.nd rfl (Or.inl rfl) (Yg Zo)))
      (Zq (Ze (Zbt (Zbr PassesOwn.never rfl (Zaa (J8 (Zb (mv 0)))) (Ye (Yd (i := 2) Jw.nd))
      (Zr (Z1 (Z0 (i := 1) Jw.nd rfl (Or.inl rfl) (Zu (Z3 G_shared_bottom (hr.mono (by decide)) (by rfl) T.m_shared_bottom T.F_shared_bottom.kp T.b_shared_bottom Yp (Za (Y0 (Z7 Zuq (Z20 (Zki rfl) Zog (Zg7 (Zmv (Za (Zcp (Zf4 (Za (Yg Zo) (Za (Zb (mv 1)) (Zn Zm))))) (Zn Zm)))) (Zb (mv 2))))) (Zn Zm)))))))))
      (Zr (Yz (Yy (Zb (mv 1)))))))))
theorem Ziv : Z8 ["bottom", "numbers"] ["bottom", "numbers"] (Zi Zae) := ⟨rfl, rfl, rfl, by decide +kernel, rfl, by decide +kernel, by decide +kernel⟩
theorem Zjc {f : Nat → Addr} {fd : Nat → FuncData} {cls : Nat → Addr} (T : Txt K mg f fd cls) : FnOk P w K mg base CX0 1 (f 19) (fd 19) ["bottom", "numbers"] (spD K (sD Zan)) := by
  refine Ws T.F_tops_over Ziv (S := Zch) rfl rfl (fun cdv A outer s H E hr => ?_)
  have hu := hr.units
  exact (Zr (Yz (Yy (Zdv (Zfz (own := ["q"]) (caps := [0]) (N' := ["q", "bottom"]) (by exact ⟨rfl, by decide +kernel, rfl, by decide +kernel, rfl, rfl⟩) (by rfl) (by decide) (Zaa (J8 (Zb (mv 1)))) (fun _ _ _ _ _ => (Ye (Yd (i := 0) (by show List.Nodup (["q", "bottom"] : List Str); decide +kernel)))) (fun _ _ _ _ _ => (Zbo Zbm)) (fun _ _ _ _ _ => (Zf Zb5 (Zx Wo J2 (Y0 (Z7 Zcd (Zca (Z2 rfl) Wm (Zb (mv 0)) (Yg Zo) (hs := fun _ _ => rfl)))) (Zf Za6 (Zx Wn Za7 (Zb (mv 1)) (Y0 (Z7 Zcd (Zca (Z2 rfl) Wm (Zb (mv 0)) (Yg Zo) (hs := fun _ _ => rfl))))))))))))))
theorem Zhm : Z8 ["bottom", "table"] ["bottom", "table"] (Zi Jv) := ⟨rfl, rfl, rfl, by decide +kernel, rfl, by decide +kernel, by decide +kernel⟩
theorem Zd6 {f : Nat → Addr} {fd : Nat → FuncData} {cls : Nat → Addr} (T : Txt K mg f fd cls) : FnOk P w K mg base CX0 2 (f 20) (fd 20) ["bottom", "table"] (spD K (sD Ja)) := by
  have G_tops_over := Zjc (P := P) (w := w) (base := base) T
  refine Ws T.F_table_over Zhm (S := Zbz) rfl rfl (fun cdv A outer s H E hr => ?_)
  have hu := hr.units
  exact (Zr (Yz (Yy (Zdv (Zfz (own := ["row"]) (caps := [0]) (N' := ["row", "bottom"]) (by exact ⟨rfl, by decide +kernel, rfl, by decide +kernel, rfl, rfl⟩) (by rfl) (by decide) (Zaa (J8 (Zb (mv 1)))) (fun _ _ _ _ _ => (Ye (Yd (i := 0) (by show List.Nodup (["row", "bottom"] : List Str); decide +kernel)))) (fun _ _ _ _ _ => (Zbo Zbm)) (fun _ _ _ _ _ => (Zu (Z3 G_tops_over (hr.mono (by decide)) (by rfl) T.m_tops_over T.F_tops_over.kp T.b_tops_over Yp (Za (Zb (mv 1)) (Za (Zb (mv 0)) (Zn Zm)))))))))))
theorem W9 : Z8 ["rows", "ring", "a", "b", "x", "p", "y", "q"] ["rows", "ring", "a", "b"] (Zi Wz) := ⟨rfl, rfl, rfl, by decide +kernel, rfl, by decide +kernel, by decide +kernel⟩
theorem Zcv {f : Nat → Addr} {fd : Nat → FuncData} {cls : Nat → Addr} (T : Txt K mg f fd cls) : FnOk P w K mg base CX0 1 (f 21) (fd 21) ["rows", "ring", "a", "b"] (spD K (sD Jq)) := by
  refine Ws T.F_twice_weight W9 (S := Za3) rfl rfl (fun cdv A outer s H E hr => ?_)
  have hu := hr.units
  exact (Zq (Ze (Z1 (Z0 (i := 4) W9.nd rfl (Or.inl rfl) (Y0 (Z7 Zcd (Zca (Z2 rfl) Wm (Zb (mv 1)) (Zb (mv 2)) (hs := fun _ _ => rfl))))))
      (Zq (Ze (Z1 (Z0 (i := 5) W9.nd rfl (Or.inl rfl) (Y0 (Z7 Zcd (Zca (Z2 rfl) Wm (Zb (mv 1)) (Zf Zar (Zx W0 Yi (Zb (mv 2)) (Yg Zo))) (hs := fun _ _ => rfl))))))
      (Zq (Ze (Z1 (Z0 (i := 6) W9.nd rfl (Or.inl rfl) (Y0 (Z7 Zcd (Zca (Z2 rfl) Wm (Zb (mv 1)) (Zb (mv 3)) (hs := fun _ _ => rfl))))))
      (Zq (Ze (Z1 (Z0 (i := 7) W9.nd rfl (Or.inl rfl) (Y0 (Z7 Zcd (Zca (Z2 rfl) Wm (Zb (mv 1)) (Zf Zcb (Zx Wr J1 (Zf Zar (Zx W0 Yi (Zb (mv 3)) (Yg Zo))) (W6 Zb9 (Zbh J3 (Yh rfl) (by rfl) T.z_len L2.B.boot_len (Za (Zb (mv 0)) (Zn Zm)))))) (hs := fun _ _ => rfl))))))
      (Zr (Yz (Yy (Zf Zo0 (Zx Zjv Yi (Zf Zo0 (Zx Zjv Yi (Zf Zar (Zx W0 Yi (Y0 (Z7 Zcd (Zca (Z2 rfl) Wm (Y0 (Z7 Zcd (Zca (Z2 rfl) Wm (Zb (mv 0)) (Zb (mv 4)) (hs := fun _ _ => rfl)))) (Zb (mv 6)) (hs := fun _ _ => rfl)))) (Y0 (Z7 Zcd (Zca (Z2 rfl) Wm (Y0 (Z7 Zcd (Zca (Z2 rfl) Wm (Zb (mv 0)) (Zb (mv 5)) (hs := fun _ _ => rfl)))) (Zb (mv 7)) (hs := fun _ _ => rfl)))))) (Y0 (Z7 Zcd (Zca (Z2 rfl) Wm (Y0 (Z7 Zcd (Zca (Z2 rfl) Wm (Zb (mv 0)) (Zb (mv 4)) (hs := fun _ _ => rfl)))) (Zb (mv 7)) (hs := fun _ _ => rfl)))))) (Y0 (Z7 Zcd (Zca (Z2 rfl) Wm (Y0 (Z7 Zcd (Zca (Z2 rfl) Wm (Zb (mv 0)) (Zb (mv 5)) (hs := fun _ _ => rfl)))) (Zb (mv 6)) (hs := fun _ _ => rfl)))))))))))))))))
theorem Zag : Z8 ["table", "ring", "a", "b", "bottom"] ["table", "ring", "a", "b"] (Zi Jb) := ⟨rfl, rfl, rfl, by decide +kernel, rfl, by decide +kernel, by decide +kernel⟩
theorem Zdg {f : Nat → Addr} {fd : Nat → FuncData} {cls : Nat → Addr} (T : Txt K mg f fd cls) : FnOk P w K mg base CX0 4 (f 22) (fd 22) ["table", "ring", "a", "b"] (spD K (sD Ys)) := by
  have G_check_gaps := Zd2 (P := P) (w := w) (base := base) T
  have GX_check_gaps := Zdj (P := P) (w := w) (base := base) T
  have G_check_ring := Zd7 (P := P) (w := w) (base := base) T
  have GX_check_ring := Zdc (P := P) (w := w) (base := base) T
  have G_fraction := Zf5 (P := P) (w := w) (base := base) T
  have GX_fraction := Zey (P := P) (w := w) (base := base) T
  have G_table_bottom := Zcw (P := P) (w := w) (base := base) T
  have G_table_over := Zd6 (P := P) (w := w) (base := base) T
  have G_twice_weight := Zcv (P := P) (w := w) (base := base) T
  refine Ws T.F_ring_weight Zag (S := Jz) rfl rfl (fun cdv A outer s H E hr => ?_)
  have hu := hr.units
  exact (Zq (Ze (Zpc (Zhj (Zij (Zu (Z3 G_check_ring (hr.mono (by decide)) (by rfl) T.m_check_ring T.F_check_ring.kp T.b_check_ring Yp (Za (W6 Zb9 (Zbh J3 (Yh rfl) (by rfl) T.z_len L2.B.boot_len (Za (Zb (mv 0)) (Zn Zm)))) (Za (Zb (mv 1)) (Zn Zm))))))))
      (Zq (Ze (Zpc (Zhj (Zij (Zu (Z3 G_check_gaps (hr.mono (by decide)) (by rfl) T.m_check_gaps T.F_check_gaps.kp T.b_check_gaps Yp (Za (W6 Zb9 (Zbh J3 (Yh rfl) (by rfl) T.z_len L2.B.boot_len (Za (Zb (mv 0)) (Zn Zm)))) (Za (Zb (mv 2)) (Za (Zb (mv 3)) (Zn Zm)))))))))
      (Zq (Ze (Z1 (Z0 (i := 4) Zag.nd rfl (Or.inl rfl) (Zu (Z3 G_table_bottom (hr.mono (by decide)) (by rfl) T.m_table_bottom T.F_table_bottom.kp T.b_table_bottom Yp (Za (Zb (mv 0)) (Zn Zm))))))
      (Zr (Zpc (Yz (Yy (Zu (Z3 G_fraction (hr.mono (by decide)) (by rfl) T.m_fraction T.F_fraction.kp T.b_fraction Yp (Za (Zu (Z3 G_twice_weight (hr.mono (by decide)) (by rfl) T.m_twice_weight T.F_twice_weight.kp T.b_twice_weight Yp (Za (Zu (Z3 G_table_over (hr.mono (by decide)) (by rfl) T.m_table_over T.F_table_over.kp T.b_table_over Yp (Za (Zb (mv 4)) (Za (Zb (mv 0)) (Zn Zm))))) (Za (Zb (mv 1)) (Za (Zb (mv 2)) (Za (Zb (mv 3)) (Zn Zm))))))) (Za (Zf Zb5 (Zx Wo J2 (Yg Zo) (Zb (mv 4)))) (Zn Zm)))))))))))))))
theorem Zcm {f : Nat → Addr} {fd : Nat → FuncData} {cls : Nat → Addr} (T : Txt K mg f fd cls) : FnOk P w K mg base (CX1 P w) 4 (f 22) (fd 22) ["table", "ring", "a", "b"] (spX K (sX K Ys)) := by
  have G_check_gaps := Zd2 (P := P) (w := w) (base := base) T
  have GX_check_gaps := Zdj (P := P) (w := w) (base := base) T
  have G_check_ring := Zd7 (P := P) (w := w) (base := base) T
  have GX_check_ring := Zdc (P := P) (w := w) (base := base) T
  have G_fraction := Zf5 (P := P) (w := w) (base := base) T
  have GX_fraction := Zey (P := P) (w := w) (base := base) T
  have G_table_bottom := Zcw (P := P) (w := w) (base := base) T
  have G_table_over := Zd6 (P := P) (w := w) (base := base) T
  have G_twice_weight := Zcv (P := P) (w := w) (base := base) T
  refine Zjg T.F_ring_weight Zag (S := Jz) rfl rfl (fun cdv A outer s H E hr => ?_)
  have hu := hr.units
  exact (Zfr (Zng (Zhq (Zip GX_check_ring (hr.mono (by decide)) (by rfl) T.m_check_ring T.F_check_ring.kp T.b_check_ring (Za (W6 Zb9 (Zbh J3 (Yh rfl) (by rfl) T.z_len L2.B.boot_len (Za (Zb (mv 0)) (Zn Zm)))) (Za (Zb (mv 1)) (Zn Zm)))))) (Zpc (Zhj (Zij (Zu (Z3 G_check_ring (hr.mono (by decide)) (by rfl) T.m_check_ring T.F_check_ring.kp T.b_check_ring Yp (Za (W6 Zb9 (Zbh J3 (Yh rfl) (by rfl) T.z_len L2.B.boot_len (Za (Zb (mv 0)) (Zn Zm)))) (Za (Zb (mv 1)) (Zn Zm)))))))) (Zfr (Zng (Zhq (Zip GX_check_gaps (hr.mono (by decide)) (by rfl) T.m_check_gaps T.F_check_gaps.kp T.b_check_gaps (Za (W6 Zb9 (Zbh J3 (Yh rfl) (by rfl) T.z_len L2.B.boot_len (Za (Zb (mv 0)) (Zn Zm)))) (Za (Zb (mv 2)) (Za (Zb (mv 3)) (Zn Zm))))))) (Zpc (Zhj (Zij (Zu (Z3 G_check_gaps (hr.mono (by decide)) (by rfl) T.m_check_gaps T.F_check_gaps.kp T.b_check_gaps Yp (Za (W6 Zb9 (Zbh J3 (Yh rfl) (by rfl) T.z_len L2.B.boot_len (Za (Zb (mv 0)) (Zn Zm)))) (Za (Zb (mv 2)) (Za (Zb (mv 3)) (Zn Zm))))))))) (Zfr (Zxv _) (Z1 (Z0 (i := 4) Zag.nd rfl (Or.inl rfl) (Zu (Z3 G_table_bottom (hr.mono (by decide)) (by rfl) T.m_table_bottom T.F_table_bottom.kp T.b_table_bottom Yp (Za (Zb (mv 0)) (Zn Zm)))))) (Zeq (Zzq (Zhq (Zip GX_fraction (hr.mono (by decide)) (by rfl) T.m_fraction T.F_fraction.kp T.b_fraction (Za (Zu (Z3 G_twice_weight (hr.mono (by decide)) (by rfl) T.m_twice_weight T.F_twice_weight.kp T.b_twice_weight Yp (Za (Zu (Z3 G_table_over (hr.mono (by decide)) (by rfl) T.m_table_over T.F_table_over.kp T.b_table_over Yp (Za (Zb (mv 4)) (Za (Zb (mv 0)) (Zn Zm))))) (Za (Zb (mv 1)) (Za (Zb (mv 2)) (Za (Zb (mv 3)) (Zn Zm))))))) (Za (Zf Zb5 (Zx Wo J2 (Yg Zo) (Zb (mv 4)))) (Zn Zm))))))))))
theorem Zy : Z8 ["table", "ring", "found", "a", "b", "weight"] ["table", "ring"] (Zi Jg) := ⟨rfl, rfl, rfl, by decide +kernel, rfl, by decide +kernel, by decide +kernel⟩
theorem Zgl {f : Nat → Addr} {fd : Nat → FuncData} {cls : Nat → Addr} (T : Txt K mg f fd cls) : FnOk P w K mg base CX0 5 (f 23) (fd 23) ["table", "ring"] (spD K (sD Yr)) := by
  have G_law_gaps := Zcc (P := P) (w := w) (base := base) T
  have G_ring_weight := Zdg (P := P) (w := w) (base := base) T
  have GX_ring_weight := Zcm (P := P) (w := w) (base := base) T
  refine Ws T.F_law_weights Zy (S := W4) rfl rfl (fun cdv A outer s H E hr => ?_)
  have hu := hr.units
  exact (Zq (Ze (Zdp (Zdt (i := 2) Zy.nd rfl (Or.inl rfl) (Zpq Zo3)))
      (Zq (Ze (Zbt (Zbr PassesOwn.never rfl (Zaa (J8 (Zu (Z3 G_law_gaps (hr.mono (by decide)) (by rfl) T.m_law_gaps T.F_law_gaps.kp T.b_law_gaps Yp (Za (W6 Zb9 (Zbh J3 (Yh rfl) (by rfl) T.z_len L2.B.boot_len (Za (Zb (mv 1)) (Zn Zm)))) (Zn Zm)))))) (Zjs (Zi2 (n := 2) (by rfl) (Zai (Zah (Ye (Yd (i := 3) Zy.nd)) (Zai (Zah (Ye (Yd (i := 4) Zy.nd)) (Zf8 Zfy)))))))
      (Zq (Ze (Zpc (Z1 (Z0 (i := 5) Zy.nd rfl (Or.inl rfl) (Zu (Z3 G_ring_weight (hr.mono (by decide)) (by rfl) T.m_ring_weight T.F_ring_weight.kp T.b_ring_weight Yp (Za (Zb (mv 0)) (Za (Zb (mv 1)) (Za (Zb (mv 3)) (Za (Zb (mv 4)) (Zn Zm))))))))))
      (Zq (Ze (Zbx (Zb0 (MW.mt (Zd1 (Zeh (Za5 (Zbb (Zby (Zbu (Zi7 (Zqd (by decide) (by rfl) T.z_isinstance L2.B.boot_isinstance (by rfl) T.z_tuple L2.B.boot_tuple (Zb (mv 5)))) (fun _ => rfl))))) (Zd1 (Zeh (Wt Zrn (Wx (Zd5 hu) Zhw (W6 Zb9 (Zbh J3 (Yh rfl) (by rfl) T.z_len L2.B.boot_len (Za (Zb (mv 5)) (Zn Zm)))) (Yg Zo) (hm := (Y6 _)))) (Ze2 (Wt Zs5 (Wx Zfc Zcg (Y0 (Z7 Zcd (Zca (Z2 rfl) Wm (Zb (mv 5)) (Yg Zo) (hs := fun _ _ => rfl)))) (Yg Zo) (hm := (Y6 _)))))))))) (Zr (Yz (Yy (Yg Zjh)))) (Wg Wc)))
      (Zr (Zig (Zhg 2 hu (Zb (mv 5)) (Zcp (Zf4 (Za (Zb (mv 3)) (Za (Zb (mv 4)) (Zn Zm))))))))))))))
      (Zr (Zia (Zhi 2)))))))
theorem Zf3 {f : Nat → Addr} {fd : Nat → FuncData} {cls : Nat → Addr} (T : Txt K mg f fd cls) : FnOk P w K mg base (CX1 P w) 5 (f 23) (fd 23) ["table", "ring"] (spX K (sX K Yr)) := by
  have G_law_gaps := Zcc (P := P) (w := w) (base := base) T
  have G_ring_weight := Zdg (P := P) (w := w) (base := base) T
  have GX_ring_weight := Zcm (P := P) (w := w) (base := base) T
  refine Zjg T.F_law_weights Zy (S := W4) rfl rfl (fun cdv A outer s H E hr => ?_)
  have hu := hr.units
  exact (Zfr (Zxv _) (Zdp (Zdt (i := 2) Zy.nd rfl (Or.inl rfl) (Zpq Zo3))) (Zfr (Zyh (Z0p rfl (Zaa (J8 (Zu (Z3 G_law_gaps (hr.mono (by decide)) (by rfl) T.m_law_gaps T.F_law_gaps.kp T.b_law_gaps Yp (Za (W6 Zb9 (Zbh J3 (Yh rfl) (by rfl) T.z_len L2.B.boot_len (Za (Zb (mv 1)) (Zn Zm)))) (Zn Zm)))))) (Zjs (Zi2 (n := 2) (by rfl) (Zai (Zah (Ye (Yd (i := 3) Zy.nd)) (Zai (Zah (Ye (Yd (i := 4) Zy.nd)) (Zf8 Zfy)))))))
      (Zq (Ze (Zpc (Z1 (Z0 (i := 5) Zy.nd rfl (Or.inl rfl) (Zu (Z3 G_ring_weight (hr.mono (by decide)) (by rfl) T.m_ring_weight T.F_ring_weight.kp T.b_ring_weight Yp (Za (Zb (mv 0)) (Za (Zb (mv 1)) (Za (Zb (mv 3)) (Za (Zb (mv 4)) (Zn Zm))))))))))
      (Zq (Ze (Zbx (Zb0 (MW.mt (Zd1 (Zeh (Za5 (Zbb (Zby (Zbu (Zi7 (Zqd (by decide) (by rfl) T.z_isinstance L2.B.boot_isinstance (by rfl) T.z_tuple L2.B.boot_tuple (Zb (mv 5)))) (fun _ => rfl))))) (Zd1 (Zeh (Wt Zrn (Wx (Zd5 hu) Zhw (W6 Zb9 (Zbh J3 (Yh rfl) (by rfl) T.z_len L2.B.boot_len (Za (Zb (mv 5)) (Zn Zm)))) (Yg Zo) (hm := (Y6 _)))) (Ze2 (Wt Zs5 (Wx Zfc Zcg (Y0 (Z7 Zcd (Zca (Z2 rfl) Wm (Zb (mv 5)) (Yg Zo) (hs := fun _ _ => rfl)))) (Yg Zo) (hm := (Y6 _)))))))))) (Zr (Yz (Yy (Yg Zjh)))) (Wg Wc)))
      (Zr (Zig (Zhg 2 hu (Zb (mv 5)) (Zcp (Zf4 (Za (Zb (mv 3)) (Za (Zb (mv 4)) (Zn Zm))))))))))))
      (Zfr (Z0c (Zhq (Zip GX_ring_weight (hr.mono (by decide)) (by rfl) T.m_ring_weight T.F_ring_weight.kp T.b_ring_weight (Za (Zb (mv 0)) (Za (Zb (mv 1)) (Za (Zb (mv 3)) (Za (Zb (mv 4)) (Zn Zm)))))))) (Zpc (Z1 (Z0 (i := 5) Zy.nd rfl (Or.inl rfl) (Zu (Z3 G_ring_weight (hr.mono (by decide)) (by rfl) T.m_ring_weight T.F_ring_weight.kp T.b_ring_weight Yp (Za (Zb (mv 0)) (Za (Zb (mv 1)) (Za (Zb (mv 3)) (Za (Zb (mv 4)) (Zn Zm)))))))))) (Zhf _)))) (Zbt (Zbr PassesOwn.never rfl (Zaa (J8 (Zu (Z3 G_law_gaps (hr.mono (by decide)) (by rfl) T.m_law_gaps T.F_law_gaps.kp T.b_law_gaps Yp (Za (W6 Zb9 (Zbh J3 (Yh rfl) (by rfl) T.z_len L2.B.boot_len (Za (Zb (mv 1)) (Zn Zm)))) (Zn Zm)))))) (Zjs (Zi2 (n := 2) (by rfl) (Zai (Zah (Ye (Yd (i := 3) Zy.nd)) (Zai (Zah (Ye (Yd (i := 4) Zy.nd)) (Zf8 Zfy)))))))
      (Zq (Ze (Zpc (Z1 (Z0 (i := 5) Zy.nd rfl (Or.inl rfl) (Zu (Z3 G_ring_weight (hr.mono (by decide)) (by rfl) T.m_ring_weight T.F_ring_weight.kp T.b_ring_weight Yp (Za (Zb (mv 0)) (Za (Zb (mv 1)) (Za (Zb (mv 3)) (Za (Zb (mv 4)) (Zn Zm))))))))))
      (Zq (Ze (Zbx (Zb0 (MW.mt (Zd1 (Zeh (Za5 (Zbb (Zby (Zbu (Zi7 (Zqd (by decide) (by rfl) T.z_isinstance L2.B.boot_isinstance (by rfl) T.z_tuple L2.B.boot_tuple (Zb (mv 5)))) (fun _ => rfl))))) (Zd1 (Zeh (Wt Zrn (Wx (Zd5 hu) Zhw (W6 Zb9 (Zbh J3 (Yh rfl) (by rfl) T.z_len L2.B.boot_len (Za (Zb (mv 5)) (Zn Zm)))) (Yg Zo) (hm := (Y6 _)))) (Ze2 (Wt Zs5 (Wx Zfc Zcg (Y0 (Z7 Zcd (Zca (Z2 rfl) Wm (Zb (mv 5)) (Yg Zo) (hs := fun _ _ => rfl)))) (Yg Zo) (hm := (Y6 _)))))))))) (Zr (Yz (Yy (Yg Zjh)))) (Wg Wc)))
      (Zr (Zig (Zhg 2 hu (Zb (mv 5)) (Zcp (Zf4 (Za (Zb (mv 3)) (Za (Zb (mv 4)) (Zn Zm)))))))))))))) (Zhf _)))
theorem Za4 : Z8 ["script", "n", "cell", "rows", "bottom", "table", "ring", "weights", "gaps", "a", "b", "by", "side", "more", "others"] ["script"] (Zi Zff) := ⟨rfl, rfl, rfl, by decide +kernel, rfl, by decide +kernel, by decide +kernel⟩
theorem Z0e {f : Nat → Addr} {fd : Nat → FuncData} {cls : Nat → Addr} (T : Txt K mg f fd cls) : FnOk P w K mg base CX0 6 (f 24) (fd 24) ["script"] (spD K (sD Zem)) := by
  have G_law_cell_at := Zgj (P := P) (w := w) (base := base) T
  have G_law_drawn := Zjj (P := P) (w := w) (base := base) T
  have G_law_gaps := Zcc (P := P) (w := w) (base := base) T
  have G_law_low := Zml (P := P) (w := w) (base := base) T
  have G_law_ring := Zka (P := P) (w := w) (base := base) T
  have G_law_size := Zkr (P := P) (w := w) (base := base) T
  have G_law_stir := Zdz (P := P) (w := w) (base := base) T
  have G_law_summed := Zhh (P := P) (w := w) (base := base) T
  have G_law_weights := Zgl (P := P) (w := w) (base := base) T
  have GX_law_weights := Zf3 (P := P) (w := w) (base := base) T
  refine Ws T.F_law Za4 (S := Zgw) rfl rfl (fun cdv A outer s H E hr => ?_)
  have hu := hr.units
  exact (Zq (Ze (Z1 (Z0 (i := 1) Za4.nd rfl (Or.inr rfl) (Zu (Z3 G_law_size (hr.mono (by decide)) (by rfl) T.m_law_size T.F_law_size.kp T.b_law_size Yp (Za (Zu (Z3 G_law_cell_at (hr.mono (by decide)) (by rfl) T.m_law_cell_at T.F_law_cell_at.kp T.b_law_cell_at Yp (Za (Zb (mv 0)) (Za (Yg Zo) (Zn Zm))))) (Za (Yg Zo) (Za (Yg Zo) (Za (Yg Zo) (Zn Zm)))))))))
      (Zq (Ze (Z1 (Z0 (i := 2) Za4.nd rfl (Or.inl rfl) (Zu (Z3 G_law_cell_at (hr.mono (by decide)) (by rfl) T.m_law_cell_at T.F_law_cell_at.kp T.b_law_cell_at Yp (Za (Zb (mv 0)) (Za (Yg Zo) (Zn Zm)))))))
      (Zq (Ze (Z1 (Z0 (i := 3) Za4.nd rfl (Or.inr rfl) (Zu (Z3 G_law_drawn (hr.mono (by decide)) (by rfl) T.m_law_drawn T.F_law_drawn.kp T.b_law_drawn Yp (Za (Zb (mv 0)) (Za (Yg Zo) (Za (Zb (mv 1)) (Za (Y0 (Z7 Zcd (Zca (Z2 rfl) Wm (Zg7 (Zmv (Za (Yg Zo) (Za (Yg Zo) (Za (Yg Zo) (Za (Zf Zud (Zx Zky Zoo (Yg Zo) (Yg Zo))) (Zn Zm))))))) (Zf Zcb (Zx Wr J1 (Zf Za6 (Zx Wn Za7 (Zb (mv 2)) (Yg Zo))) (Yg Zo))) (hs := fun _ _ => rfl)))) (Za (Zb (mv 2)) (Zn Zm))))))))))
      (Zq (Ze (Z1 (Z0 (i := 4) Za4.nd rfl (Or.inr rfl) (Y0 (Z7 Zcd (Zca (Z2 rfl) Wm (Zg7 (Zmv (Za (Yg Zo) (Za (Yg Zo) (Za (Yg Zo) (Za (Zf Zar (Zx W0 Yi (Zf Zud (Zx Zky Zoo (Yg Zo) (Yg Zo))) (Yg Zo))) (Zn Zm))))))) (Zf Zcb (Zx Wr J1 (Zf Za6 (Zx Wn Za7 (Zb (mv 2)) (Yg Zo))) (Yg Zo))) (hs := fun _ _ => rfl))))))
      (Zq (Ze (Znh (Zet (i := 5) (own := ["row"]) (caps := [4]) (N' := ["row", "bottom"])  false Za4.nd rfl (Or.inl rfl) (by exact ⟨rfl, by decide +kernel, rfl, by decide +kernel, rfl, rfl⟩) (by rfl) (by decide) (Zaa (J8 (Zb (mv 3)))) (fun _ _ _ _ _ => (Ye (Yd (i := 0) (by show List.Nodup (["row", "bottom"] : List Str); decide +kernel)))) (fun _ _ _ _ _ => (Zbo Zbm)) (fun _ _ _ _ _ => (Zdv (Zfz (own := ["one"]) (caps := [1]) (N' := ["one", "bottom"]) (by exact ⟨rfl, by decide +kernel, rfl, by decide +kernel, rfl, rfl⟩) (by rfl) (by decide) (Zaa (J8 (Zb (mv 0)))) (fun _ _ _ _ _ => (Ye (Yd (i := 0) (by show List.Nodup (["one", "bottom"] : List Str); decide +kernel)))) (fun _ _ _ _ _ => (Zbo Zbm)) (fun _ _ _ _ _ => (Zu (Z3 G_law_low (hr.mono (by decide)) (by rfl) T.m_law_low T.F_law_low.kp T.b_law_low Yp (Za (Zb (mv 0)) (Za (Zb (mv 1)) (Zn Zm)))))))))))
      (Zq (Ze (Z1 (Z0 (i := 6) Za4.nd rfl (Or.inl rfl) (Zu (Z3 G_law_ring (hr.mono (by decide)) (by rfl) T.m_law_ring T.F_law_ring.kp T.b_law_ring Yp (Za (Zu (Z3 G_law_cell_at (hr.mono (by decide)) (by rfl) T.m_law_cell_at T.F_law_cell_at.kp T.b_law_cell_at Yp (Za (Zb (mv 0)) (Za (Yg Zo) (Zn Zm))))) (Za (Zb (mv 1)) (Zn Zm)))))))
      (Zq (Ze (Zpc (Zdp (Zdt (i := 7) Za4.nd rfl (Or.inl rfl) (Zu (Z3 G_law_weights (hr.mono (by decide)) (by rfl) T.m_law_weights T.F_law_weights.kp T.b_law_weights Yp (Za (Zb (mv 5)) (Za (Zb (mv 6)) (Zn Zm))))))))
      (Zq (Ze (Zbx (Zb0 (MW.mt (Zd1 (Zeh (Wt Z5k (Wx Ztp Zsx (Zgu (mo 7)) (Yg Zjh) (hm := (Y6 _)))) (Ze2 (Za5 (Zbb (Zby (Zbu (Zu (Z3 G_law_summed (hr.mono (by decide)) (by rfl) T.m_law_summed T.F_law_summed.kp T.b_law_summed Yp (Za (Zb (mv 3)) (Za (Zb (mv 6)) (Za (Zgu (mo 7)) (Za (Zb (mv 4)) (Zn Zm))))))) (fun _ => rfl))))))))) (Zr (Yz (Yy (Yg Zkl)))) (Wg Wc)))
      (Zq (Ze (Z1 (Z0 (i := 8) Za4.nd rfl (Or.inl rfl) (Zu (Z3 G_law_gaps (hr.mono (by decide)) (by rfl) T.m_law_gaps T.F_law_gaps.kp T.b_law_gaps Yp (Za (Zb (mv 1)) (Zn Zm))))))
      (Zq (Ze (Zzz (Zx6 (Y0 (Z7 Zcd (Zca (Z2 rfl) Wm (Zb (mv 8)) (Zf Zcb (Zx Wr J1 (Zu (Z3 G_law_stir (hr.mono (by decide)) (by rfl) T.m_law_stir T.F_law_stir.kp T.b_law_stir Yp (Za (Zb (mv 2)) (Za (Yg Zo) (Zn Zm))))) (W6 Zb9 (Zbh J3 (Yh rfl) (by rfl) T.z_len L2.B.boot_len (Za (Zb (mv 8)) (Zn Zm)))))) (hs := fun _ _ => rfl)))) (Zjs (Zi2 (n := 2) (by rfl) (Zai (Zah (Ye (Yd (i := 9) Za4.nd)) (Zai (Zah (Ye (Yd (i := 10) Za4.nd)) (Zf8 Zfy)))))))))
      (Zq (Ze (Z1 (Z0 (i := 11) Za4.nd rfl (Or.inr rfl) (Zf Zar (Zx W0 Yi (Yg Zo) (Zf Zcb (Zx Wr J1 (Zu (Z3 G_law_stir (hr.mono (by decide)) (by rfl) T.m_law_stir T.F_law_stir.kp T.b_law_stir Yp (Za (Zb (mv 2)) (Za (Yg Zo) (Zn Zm))))) (Yg Zo)))))))
      (Zq (Ze (Z1 (Z0 (i := 12) Za4.nd rfl (Or.inr rfl) (Zou (Zny (Zb (mv 6)) (Zb1 (Zb8 (Zf Zar (Zx W0 Yi (Zb (mv 9)) (Yg Zo))))) (Zb1 (Zb8 (Zf Zar (Zx W0 Yi (Zb (mv 10)) (Yg Zo)))))))))
      (Zq (Ze (Znh (Zet (i := 13) (own := ["i"]) (caps := [1, 3, 11, 12]) (N' := ["i", "n", "rows", "by", "side"])  false Za4.nd rfl (Or.inl rfl) (by exact ⟨rfl, by decide +kernel, rfl, by decide +kernel, rfl, rfl⟩) (by rfl) (by decide) (Zgh (Jl (by rfl) T.z_range (Za (Zb (mv 1)) (Zn Zm)))) (fun _ _ _ _ _ => (Ye (Yd (i := 0) (by show List.Nodup (["i", "n", "rows", "by", "side"] : List Str); decide +kernel)))) (fun _ _ _ _ _ => (Zbo Zbm)) (fun _ _ _ _ _ => (Zdv (Zfz (own := ["j"]) (caps := [2, 0, 3, 4]) (N' := ["j", "rows", "i", "by", "side"]) (by exact ⟨rfl, by decide +kernel, rfl, by decide +kernel, rfl, rfl⟩) (by rfl) (by decide) (Zgh (Jl (by rfl) T.z_range (Za (Zb (mv 1)) (Zn Zm)))) (fun _ _ _ _ _ => (Ye (Yd (i := 0) (by show List.Nodup (["j", "rows", "i", "by", "side"] : List Str); decide +kernel)))) (fun _ _ _ _ _ => (Zbo Zbm)) (fun _ _ _ _ _ => (Zf Zar (Zx W0 Yi (Y0 (Z7 Zcd (Zca (Z2 rfl) Wm (Y0 (Z7 Zcd (Zca (Z2 rfl) Wm (Zb (mv 1)) (Zb (mv 2)) (hs := fun _ _ => rfl)))) (Zb (mv 0)) (hs := fun _ _ => rfl)))) (Zf Zb5 (Zx Wo J2 (Zb (mv 3)) (W6 Z4d (Z4c Zxe Zn3 (by rfl) T.z_int L2.B.boot_int (Za (Zf Zrn (Zju (Zd5 hu) Zhw (Zf Zsl (Zju (Zlk rfl) Zsg (Zb (mv 2)) (Zb (mv 4)) (hm := (by with_unfolding_all rfl)))) (Zf Zsl (Zju (Zlk rfl) Zsg (Zb (mv 0)) (Zb (mv 4)) (hm := (by with_unfolding_all rfl)))) (hm := (Y6 _)))) (Zn Zm))))))))))))))
      (Zq (Ze (Zpc (Z1 (Z0 (i := 14) Za4.nd rfl (Or.inl rfl) (Zu (Z3 G_law_weights (hr.mono (by decide)) (by rfl) T.m_law_weights T.F_law_weights.kp T.b_law_weights Yp (Za (Zdv (Zfz (own := ["row"]) (caps := [4]) (N' := ["row", "bottom"]) (by exact ⟨rfl, by decide +kernel, rfl, by decide +kernel, rfl, rfl⟩) (by rfl) (by decide) (Zaa (J8 (Zb (mv 13)))) (fun _ _ _ _ _ => (Ye (Yd (i := 0) (by show List.Nodup (["row", "bottom"] : List Str); decide +kernel)))) (fun _ _ _ _ _ => (Zbo Zbm)) (fun _ _ _ _ _ => (Zdv (Zfz (own := ["one"]) (caps := [1]) (N' := ["one", "bottom"]) (by exact ⟨rfl, by decide +kernel, rfl, by decide +kernel, rfl, rfl⟩) (by rfl) (by decide) (Zaa (J8 (Zb (mv 0)))) (fun _ _ _ _ _ => (Ye (Yd (i := 0) (by show List.Nodup (["one", "bottom"] : List Str); decide +kernel)))) (fun _ _ _ _ _ => (Zbo Zbm)) (fun _ _ _ _ _ => (Zu (Z3 G_law_low (hr.mono (by decide)) (by rfl) T.m_law_low T.F_law_low.kp T.b_law_low Yp (Za (Zb (mv 0)) (Za (Zb (mv 1)) (Zn Zm))))))))))) (Za (Zb (mv 6)) (Zn Zm))))))))
      (Zq (Ze (Zbx (Zb0 (Wt Z5k (Wx Ztp Zsx (Zb (mv 14)) (Yg Zjh) (hm := (Y6 _)))) (Zr (Yz (Yy (Yg Zkl)))) (Wg Wc)))
      (Zq (Ze (Zig (Zhg 7 hu (Zu (Z3 G_law_low (hr.mono (by decide)) (by rfl) T.m_law_low T.F_law_low.kp T.b_law_low Yp (Za (Zf Zar (Zx W0 Yi (Zf Zb5 (Zx Wo J2 (Y0 (Z7 Zcd (Zca (Z2 rfl) Wm (Y0 (Z7 Zu2 (Zvb hu (Zgu (mo 7)) (Zcp (Zf4 (Za (Zb (mv 9)) (Za (Zb (mv 10)) (Zn Zm))))) (hs := fun _ _ => rfl)))) (Yg Zo) (hs := fun _ _ => rfl)))) (Zf Za6 (Zx Wn Za7 (Zf Zb5 (Zx Wo J2 (Yg Zo) (Zb (mv 4)))) (Y0 (Z7 Zcd (Zca (Z2 rfl) Wm (Y0 (Z7 Zu2 (Zvb hu (Zgu (mo 7)) (Zcp (Zf4 (Za (Zb (mv 9)) (Za (Zb (mv 10)) (Zn Zm))))) (hs := fun _ _ => rfl)))) (Yg Zo) (hs := fun _ _ => rfl)))))))) (Zf Zb5 (Zx Wo J2 (Yg Zo) (Zb (mv 11)))))) (Za (Zf Zb5 (Zx Wo J2 (Yg Zo) (Zb (mv 4)))) (Zn Zm))))) (Zcp (Zf4 (Za (Zb (mv 9)) (Za (Zb (mv 10)) (Zn Zm)))))))
      (Zr (Yz (Yy (Zf Zyw (Zju (Zvv (hu2 hr)) Zuw (Zb (mv 14)) (Zgu (mo 7)) (hm := (Y6 _)))))))))))))))))))))))))))))))))))))))
theorem Zw1 {f : Nat → Addr} {fd : Nat → FuncData} {cls : Nat → Addr} (T : Txt K mg f fd cls) : FnOk P w K mg base CX0 6 (f 24) (fd 24) ["script"] (spD K Z06) := (Z0e T).imp fun vs H Q E q => by
  obtain ⟨L, ds, k, h1, ⟨ns, e, hl, hk⟩, h3⟩ := q
  exact ⟨L, ds, k, h1, ⟨_, by rw [e]; exact Zrk ns hl, hk⟩, h3⟩
end
theorem Zz6 {l : PySem.W.OpenLaw} {w : World} {K : PySem.W.Frag} {h : Heap} {mg : Str → Option Value} {fa : Addr} {C_NoNumber : Addr} {C_NoOrder : Addr} (X : K.In h) (G : h.Ns mainGlobals mg) (hfa : mg "law" = some (.ref fa))
    {f1 : Addr} {od1 an1 : Option Addr} {sl1 : Array (Option Value)} {oc1 kV1 dc1 pm1 cd1 ct1 : Value}
    {f2 : Addr} {od2 an2 : Option Addr} {sl2 : Array (Option Value)} {oc2 kV2 dc2 pm2 cd2 ct2 : Value}
    {f3 : Addr} {od3 an3 : Option Addr} {sl3 : Array (Option Value)} {oc3 kV3 dc3 pm3 cd3 ct3 : Value}
    {f4 : Addr} {od4 an4 : Option Addr} {sl4 : Array (Option Value)} {oc4 kV4 dc4 pm4 cd4 ct4 : Value}
    {f5 : Addr} {od5 an5 : Option Addr} {sl5 : Array (Option Value)} {oc5 kV5 dc5 pm5 cd5 ct5 : Value}
    {f6 : Addr} {od6 an6 : Option Addr} {sl6 : Array (Option Value)} {oc6 kV6 dc6 pm6 cd6 ct6 : Value}
    {f7 : Addr} {od7 an7 : Option Addr} {sl7 : Array (Option Value)} {oc7 kV7 dc7 pm7 cd7 ct7 : Value}
    {f8 : Addr} {od8 an8 : Option Addr} {sl8 : Array (Option Value)} {oc8 kV8 dc8 pm8 cd8 ct8 : Value}
    {f9 : Addr} {od9 an9 : Option Addr} {sl9 : Array (Option Value)} {oc9 kV9 dc9 pm9 cd9 ct9 : Value}
    {f10 : Addr} {od10 an10 : Option Addr} {sl10 : Array (Option Value)} {oc10 kV10 dc10 pm10 cd10 ct10 : Value}
    {f11 : Addr} {od11 an11 : Option Addr} {sl11 : Array (Option Value)} {oc11 kV11 dc11 pm11 cd11 ct11 : Value}
    {f12 : Addr} {od12 an12 : Option Addr} {sl12 : Array (Option Value)} {oc12 kV12 dc12 pm12 cd12 ct12 : Value}
    {f13 : Addr} {od13 an13 : Option Addr} {sl13 : Array (Option Value)} {oc13 kV13 dc13 pm13 cd13 ct13 : Value}
    {f14 : Addr} {od14 an14 : Option Addr} {sl14 : Array (Option Value)} {oc14 kV14 dc14 pm14 cd14 ct14 : Value}
    {f15 : Addr} {od15 an15 : Option Addr} {sl15 : Array (Option Value)} {oc15 kV15 dc15 pm15 cd15 ct15 : Value}
    {f16 : Addr} {od16 an16 : Option Addr} {sl16 : Array (Option Value)} {oc16 kV16 dc16 pm16 cd16 ct16 : Value}
    {f17 : Addr} {od17 an17 : Option Addr} {sl17 : Array (Option Value)} {oc17 kV17 dc17 pm17 cd17 ct17 : Value}
    {f18 : Addr} {od18 an18 : Option Addr} {sl18 : Array (Option Value)} {oc18 kV18 dc18 pm18 cd18 ct18 : Value}
    {f19 : Addr} {od19 an19 : Option Addr} {sl19 : Array (Option Value)} {oc19 kV19 dc19 pm19 cd19 ct19 : Value}
    {f20 : Addr} {od20 an20 : Option Addr} {sl20 : Array (Option Value)} {oc20 kV20 dc20 pm20 cd20 ct20 : Value}
    {f21 : Addr} {od21 an21 : Option Addr} {sl21 : Array (Option Value)} {oc21 kV21 dc21 pm21 cd21 ct21 : Value}
    {f22 : Addr} {od22 an22 : Option Addr} {sl22 : Array (Option Value)} {oc22 kV22 dc22 pm22 cd22 ct22 : Value}
    {f23 : Addr} {od23 an23 : Option Addr} {sl23 : Array (Option Value)} {oc23 kV23 dc23 pm23 cd23 ct23 : Value}
    {f24 : Addr} {od24 an24 : Option Addr} {sl24 : Array (Option Value)} {oc24 kV24 dc24 pm24 cd24 ct24 : Value}
    {f25 : Addr} {od25 an25 : Option Addr} {sl25 : Array (Option Value)} {oc25 kV25 dc25 pm25 cd25 ct25 : Value}
    (a1 : PySem.W.nsIn K mainGlobals "_law_cell_at" = some (some (.ref f1))) (l1 : K.lookup f1 = some ⟨oc1, od1, .func (PySem.W.fnOf "_law_cell_at" "_law_cell_at" (Yb Jf) (Z6 Jf) (Zi Jf) .none kV1 dc1 pm1 an1 cd1 ct1), sl1⟩) (c1 : PySem.W.codeIn K cd1 "_law_cell_at" = true) (k1 : PySem.W.keepIn K (.ref f1) = true)
    (a2 : PySem.W.nsIn K mainGlobals "_law_stir" = some (some (.ref f2))) (l2 : K.lookup f2 = some ⟨oc2, od2, .func (PySem.W.fnOf "_law_stir" "_law_stir" (Yb Zat) (Z6 Zat) (Zi Zat) .none kV2 dc2 pm2 an2 cd2 ct2), sl2⟩) (c2 : PySem.W.codeIn K cd2 "_law_stir" = true) (k2 : PySem.W.keepIn K (.ref f2) = true)
    (a3 : PySem.W.nsIn K mainGlobals "_law_drawn" = some (some (.ref f3))) (l3 : K.lookup f3 = some ⟨oc3, od3, .func (PySem.W.fnOf "_law_drawn" "_law_drawn" (Yb Zaf) (Z6 Zaf) (Zi Zaf) .none kV3 dc3 pm3 an3 cd3 ct3), sl3⟩) (c3 : PySem.W.codeIn K cd3 "_law_drawn" = true) (k3 : PySem.W.keepIn K (.ref f3) = true)
    (a4 : PySem.W.nsIn K mainGlobals "_law_gaps" = some (some (.ref f4))) (l4 : K.lookup f4 = some ⟨oc4, od4, .func (PySem.W.fnOf "_law_gaps" "_law_gaps" (Yb Za1) (Z6 Za1) (Zi Za1) .none kV4 dc4 pm4 an4 cd4 ct4), sl4⟩) (c4 : PySem.W.codeIn K cd4 "_law_gaps" = true) (k4 : PySem.W.keepIn K (.ref f4) = true)
    (a5 : PySem.W.nsIn K mainGlobals "_law_low" = some (some (.ref f5))) (l5 : K.lookup f5 = some ⟨oc5, od5, .func (PySem.W.fnOf "_law_low" "_law_low" (Yb Zbv) (Z6 Zbv) (Zi Zbv) .none kV5 dc5 pm5 an5 cd5 ct5), sl5⟩) (c5 : PySem.W.codeIn K cd5 "_law_low" = true) (k5 : PySem.W.keepIn K (.ref f5) = true)
    (a6 : PySem.W.nsIn K mainGlobals "_law_numbers" = some (some (.ref f6))) (l6 : K.lookup f6 = some ⟨oc6, od6, .func (PySem.W.fnOf "_law_numbers" "_law_numbers" (Yb Je) (Z6 Je) (Zi Je) .none kV6 dc6 pm6 an6 cd6 ct6), sl6⟩) (c6 : PySem.W.codeIn K cd6 "_law_numbers" = true) (k6 : PySem.W.keepIn K (.ref f6) = true)
    (a7 : PySem.W.nsIn K mainGlobals "_law_put_right" = some (some (.ref f7))) (l7 : K.lookup f7 = some ⟨oc7, od7, .func (PySem.W.fnOf "_law_put_right" "_law_put_right" (Yb Wi) (Z6 Wi) (Zi Wi) .none kV7 dc7 pm7 an7 cd7 ct7), sl7⟩) (c7 : PySem.W.codeIn K cd7 "_law_put_right" = true) (k7 : PySem.W.keepIn K (.ref f7) = true)
    (a8 : PySem.W.nsIn K mainGlobals "_law_ring" = some (some (.ref f8))) (l8 : K.lookup f8 = some ⟨oc8, od8, .func (PySem.W.fnOf "_law_ring" "_law_ring" (Yb Zax) (Z6 Zax) (Zi Zax) .none kV8 dc8 pm8 an8 cd8 ct8), sl8⟩) (c8 : PySem.W.codeIn K cd8 "_law_ring" = true) (k8 : PySem.W.keepIn K (.ref f8) = true)
    (a9 : PySem.W.nsIn K mainGlobals "_law_size" = some (some (.ref f9))) (l9 : K.lookup f9 = some ⟨oc9, od9, .func (PySem.W.fnOf "_law_size" "_law_size" (Yb Zaw) (Z6 Zaw) (Zi Zaw) .none kV9 dc9 pm9 an9 cd9 ct9), sl9⟩) (c9 : PySem.W.codeIn K cd9 "_law_size" = true) (k9 : PySem.W.keepIn K (.ref f9) = true)
    (a10 : PySem.W.nsIn K mainGlobals "_law_summed" = some (some (.ref f10))) (l10 : K.lookup f10 = some ⟨oc10, od10, .func (PySem.W.fnOf "_law_summed" "_law_summed" (Yb Js) (Z6 Js) (Zi Js) .none kV10 dc10 pm10 an10 cd10 ct10), sl10⟩) (c10 : PySem.W.codeIn K cd10 "_law_summed" = true) (k10 : PySem.W.keepIn K (.ref f10) = true)
    (a11 : PySem.W.nsIn K mainGlobals "check_gaps" = some (some (.ref f11))) (l11 : K.lookup f11 = some ⟨oc11, od11, .func (PySem.W.fnOf "check_gaps" "check_gaps" (Yb Ju) (Z6 Ju) (Zi Ju) .none kV11 dc11 pm11 an11 cd11 ct11), sl11⟩) (c11 : PySem.W.codeIn K cd11 "check_gaps" = true) (k11 : PySem.W.keepIn K (.ref f11) = true)
    (a12 : PySem.W.nsIn K mainGlobals "is_whole" = some (some (.ref f12))) (l12 : K.lookup f12 = some ⟨oc12, od12, .func (PySem.W.fnOf "is_whole" "is_whole" (Yb Zaz) (Z6 Zaz) (Zi Zaz) .none kV12 dc12 pm12 an12 cd12 ct12), sl12⟩) (c12 : PySem.W.codeIn K cd12 "is_whole" = true) (k12 : PySem.W.keepIn K (.ref f12) = true)
    (a13 : PySem.W.nsIn K mainGlobals "is_ring" = some (some (.ref f13))) (l13 : K.lookup f13 = some ⟨oc13, od13, .func (PySem.W.fnOf "is_ring" "is_ring" (Yb Zbp) (Z6 Zbp) (Zi Zbp) .none kV13 dc13 pm13 an13 cd13 ct13), sl13⟩) (c13 : PySem.W.codeIn K cd13 "is_ring" = true) (k13 : PySem.W.keepIn K (.ref f13) = true)
    (a14 : PySem.W.nsIn K mainGlobals "check_ring" = some (some (.ref f14))) (l14 : K.lookup f14 = some ⟨oc14, od14, .func (PySem.W.fnOf "check_ring" "check_ring" (Yb Jt) (Z6 Jt) (Zi Jt) .none kV14 dc14 pm14 an14 cd14 ct14), sl14⟩) (c14 : PySem.W.codeIn K cd14 "check_ring" = true) (k14 : PySem.W.keepIn K (.ref f14) = true)
    (a15 : PySem.W.nsIn K mainGlobals "greatest_divisor" = some (some (.ref f15))) (l15 : K.lookup f15 = some ⟨oc15, od15, .func (PySem.W.fnOf "greatest_divisor" "greatest_divisor" (Yb Yq) (Z6 Yq) (Zi Yq) .none kV15 dc15 pm15 an15 cd15 ct15), sl15⟩) (c15 : PySem.W.codeIn K cd15 "greatest_divisor" = true) (k15 : PySem.W.keepIn K (.ref f15) = true)
    (a16 : PySem.W.nsIn K mainGlobals "in_least" = some (some (.ref f16))) (l16 : K.lookup f16 = some ⟨oc16, od16, .func (PySem.W.fnOf "in_least" "in_least" (Yb Zas) (Z6 Zas) (Zi Zas) .none kV16 dc16 pm16 an16 cd16 ct16), sl16⟩) (c16 : PySem.W.codeIn K cd16 "in_least" = true) (k16 : PySem.W.keepIn K (.ref f16) = true)
    (a17 : PySem.W.nsIn K mainGlobals "fraction" = some (some (.ref f17))) (l17 : K.lookup f17 = some ⟨oc17, od17, .func (PySem.W.fnOf "fraction" "fraction" (Yb Zau) (Z6 Zau) (Zi Zau) .none kV17 dc17 pm17 an17 cd17 ct17), sl17⟩) (c17 : PySem.W.codeIn K cd17 "fraction" = true) (k17 : PySem.W.keepIn K (.ref f17) = true)
    (a18 : PySem.W.nsIn K mainGlobals "shared_bottom" = some (some (.ref f18))) (l18 : K.lookup f18 = some ⟨oc18, od18, .func (PySem.W.fnOf "shared_bottom" "shared_bottom" (Yb Wf) (Z6 Wf) (Zi Wf) .none kV18 dc18 pm18 an18 cd18 ct18), sl18⟩) (c18 : PySem.W.codeIn K cd18 "shared_bottom" = true) (k18 : PySem.W.keepIn K (.ref f18) = true)
    (a19 : PySem.W.nsIn K mainGlobals "table_bottom" = some (some (.ref f19))) (l19 : K.lookup f19 = some ⟨oc19, od19, .func (PySem.W.fnOf "table_bottom" "table_bottom" (Yb Wy) (Z6 Wy) (Zi Wy) .none kV19 dc19 pm19 an19 cd19 ct19), sl19⟩) (c19 : PySem.W.codeIn K cd19 "table_bottom" = true) (k19 : PySem.W.keepIn K (.ref f19) = true)
    (a20 : PySem.W.nsIn K mainGlobals "tops_over" = some (some (.ref f20))) (l20 : K.lookup f20 = some ⟨oc20, od20, .func (PySem.W.fnOf "tops_over" "tops_over" (Yb Zae) (Z6 Zae) (Zi Zae) .none kV20 dc20 pm20 an20 cd20 ct20), sl20⟩) (c20 : PySem.W.codeIn K cd20 "tops_over" = true) (k20 : PySem.W.keepIn K (.ref f20) = true)
    (a21 : PySem.W.nsIn K mainGlobals "table_over" = some (some (.ref f21))) (l21 : K.lookup f21 = some ⟨oc21, od21, .func (PySem.W.fnOf "table_over" "table_over" (Yb Jv) (Z6 Jv) (Zi Jv) .none kV21 dc21 pm21 an21 cd21 ct21), sl21⟩) (c21 : PySem.W.codeIn K cd21 "table_over" = true) (k21 : PySem.W.keepIn K (.ref f21) = true)
    (a22 : PySem.W.nsIn K mainGlobals "twice_weight" = some (some (.ref f22))) (l22 : K.lookup f22 = some ⟨oc22, od22, .func (PySem.W.fnOf "twice_weight" "twice_weight" (Yb Wz) (Z6 Wz) (Zi Wz) .none kV22 dc22 pm22 an22 cd22 ct22), sl22⟩) (c22 : PySem.W.codeIn K cd22 "twice_weight" = true) (k22 : PySem.W.keepIn K (.ref f22) = true)
    (a23 : PySem.W.nsIn K mainGlobals "ring_weight" = some (some (.ref f23))) (l23 : K.lookup f23 = some ⟨oc23, od23, .func (PySem.W.fnOf "ring_weight" "ring_weight" (Yb Jb) (Z6 Jb) (Zi Jb) .none kV23 dc23 pm23 an23 cd23 ct23), sl23⟩) (c23 : PySem.W.codeIn K cd23 "ring_weight" = true) (k23 : PySem.W.keepIn K (.ref f23) = true)
    (a24 : PySem.W.nsIn K mainGlobals "_law_weights" = some (some (.ref f24))) (l24 : K.lookup f24 = some ⟨oc24, od24, .func (PySem.W.fnOf "_law_weights" "_law_weights" (Yb Jg) (Z6 Jg) (Zi Jg) .none kV24 dc24 pm24 an24 cd24 ct24), sl24⟩) (c24 : PySem.W.codeIn K cd24 "_law_weights" = true) (k24 : PySem.W.keepIn K (.ref f24) = true)
    (a25 : PySem.W.nsIn K mainGlobals "law" = some (some (.ref f25))) (l25 : K.lookup f25 = some ⟨oc25, od25, .func (PySem.W.fnOf "law" "law" (Yb Zff) (Z6 Zff) (Zi Zff) .none kV25 dc25 pm25 an25 cd25 ct25), sl25⟩) (c25 : PySem.W.codeIn K cd25 "law" = true) (k25 : PySem.W.keepIn K (.ref f25) = true)
    (z_abs : PySem.W.nsIn K mainGlobals "abs" = some none)
    (z_bool : PySem.W.nsIn K mainGlobals "bool" = some none)
    (z_int : PySem.W.nsIn K mainGlobals "int" = some none)
    (z_isinstance : PySem.W.nsIn K mainGlobals "isinstance" = some none)
    (z_len : PySem.W.nsIn K mainGlobals "len" = some none)
    (z_list : PySem.W.nsIn K mainGlobals "list" = some none)
    (z_range : PySem.W.nsIn K mainGlobals "range" = some none)
    (z_sorted : PySem.W.nsIn K mainGlobals "sorted" = some none)
    (z_tuple : PySem.W.nsIn K mainGlobals "tuple" = some none)
    (cc_NoNumber : PySem.W.nsIn K mainGlobals "NoNumber" = some (some (.ref C_NoNumber)))
    (cc_NoOrder : PySem.W.nsIn K mainGlobals "NoOrder" = some (some (.ref C_NoOrder)))
    (r_NoNumber : Zpe K C_NoNumber)
    (r_NoOrder : Zpe K C_NoOrder)
    (x_NoNumber_ga : PySem.W.findIn K (.ref C_NoNumber) "__getattribute__" = some (some (.builtin "BaseException.__getattribute__")))
    (x_NoNumber_gt : PySem.W.findIn K (.ref C_NoNumber) "__getattr__" = some none)
    (x_NoNumber_cl : PySem.W.findIn K (.ref C_NoNumber) "__class__" = some (some (.builtin "object.__class__")))
    (x_NoNumber_isB : PySem.W.subIn K (.ref C_NoNumber) (.type "BaseException") = some true)
    (x_NoNumber_isO : PySem.W.subIn K (.ref C_NoNumber) (.type "object") = some true)
    (x_NoNumber_isC : PySem.W.isClsIn K C_NoNumber = true)
    (x_NoNumber_k1 : PySem.W.kitOne K (.ref C_NoNumber) (.type "int") = some false)
    (x_NoNumber_k2 : PySem.W.kitOne K (.ref C_NoNumber) (.type "bool") = some false)
    (x_NoNumber_k3 : PySem.W.kitOne K (.ref C_NoNumber) (.type "str") = some false)
    (x_NoNumber_k4 : PySem.W.kitOne K (.ref C_NoNumber) (.type "list") = some false)
    (x_NoNumber_k5 : PySem.W.kitOne K (.ref C_NoNumber) (.type "tuple") = some false)
    (x_NoOrder_ga : PySem.W.findIn K (.ref C_NoOrder) "__getattribute__" = some (some (.builtin "BaseException.__getattribute__")))
    (x_NoOrder_gt : PySem.W.findIn K (.ref C_NoOrder) "__getattr__" = some none)
    (x_NoOrder_cl : PySem.W.findIn K (.ref C_NoOrder) "__class__" = some (some (.builtin "object.__class__")))
    (x_NoOrder_isB : PySem.W.subIn K (.ref C_NoOrder) (.type "BaseException") = some true)
    (x_NoOrder_isO : PySem.W.subIn K (.ref C_NoOrder) (.type "object") = some true)
    (x_NoOrder_isC : PySem.W.isClsIn K C_NoOrder = true)
    (x_NoOrder_k1 : PySem.W.kitOne K (.ref C_NoOrder) (.type "int") = some false)
    (x_NoOrder_k2 : PySem.W.kitOne K (.ref C_NoOrder) (.type "bool") = some false)
    (x_NoOrder_k3 : PySem.W.kitOne K (.ref C_NoOrder) (.type "str") = some false)
    (x_NoOrder_k4 : PySem.W.kitOne K (.ref C_NoOrder) (.type "list") = some false)
    (x_NoOrder_k5 : PySem.W.kitOne K (.ref C_NoOrder) (.type "tuple") = some false)
    : ∃ fd : FuncData, (∀ (s : Shared) (v : Value), BindsTo s fd ⟨[v], []⟩ [("script", v)]) ∧ ∀ base : Heap, K.In base → base.Ns mainGlobals mg → FnOk l.prog w K mg base CX0 6 fa fd ["script"] (spD K Z06) := by
  have e := hfa.symm.trans (PySem.W.mg_of X G a25)
  cases e
  have F1 := Wv (st := Jf) l1 c1 k1
  have b1 := F1.binds (ps := ["script", "k"]) fun _ _ _ _ _ _ us hl => Zmq (P := fun us => PySem.bindArgs _ { pos := us } = pure (List.zip _ us)) (fun _ _ => rfl) us hl
  have F2 := Wv (st := Zat) l2 c2 k2
  have b2 := F2.binds (ps := ["cell", "k"]) fun _ _ _ _ _ _ us hl => Zmq (P := fun us => PySem.bindArgs _ { pos := us } = pure (List.zip _ us)) (fun _ _ => rfl) us hl
  have F3 := Wv (st := Zaf) l3 c3 k3
  have b3 := F3.binds (ps := ["script", "start", "n", "base", "cell"]) fun _ _ _ _ _ _ us hl => Z71 (P := fun us => PySem.bindArgs _ { pos := us } = pure (List.zip _ us)) (fun _ _ _ _ _ => rfl) us hl
  have F4 := Wv (st := Za1) l4 c4 k4
  have b4 := F4.binds (ps := ["n"]) fun _ _ _ _ _ _ us hl => Zw4 (P := fun us => PySem.bindArgs _ { pos := us } = pure (List.zip _ us)) (fun _ => rfl) us hl
  have F5 := Wv (st := Zbv) l5 c5 k5
  have b5 := F5.binds (ps := ["top", "bottom"]) fun _ _ _ _ _ _ us hl => Zmq (P := fun us => PySem.bindArgs _ { pos := us } = pure (List.zip _ us)) (fun _ _ => rfl) us hl
  have F6 := Wv (st := Je) l6 c6 k6
  have b6 := F6.binds (ps := ["cell", "many"]) fun _ _ _ _ _ _ us hl => Zmq (P := fun us => PySem.bindArgs _ { pos := us } = pure (List.zip _ us)) (fun _ _ => rfl) us hl
  have F7 := Wv (st := Wi) l7 c7 k7
  have b7 := F7.binds (ps := ["ring"]) fun _ _ _ _ _ _ us hl => Zw4 (P := fun us => PySem.bindArgs _ { pos := us } = pure (List.zip _ us)) (fun _ => rfl) us hl
  have F8 := Wv (st := Zax) l8 c8 k8
  have b8 := F8.binds (ps := ["cell", "n"]) fun _ _ _ _ _ _ us hl => Zmq (P := fun us => PySem.bindArgs _ { pos := us } = pure (List.zip _ us)) (fun _ _ => rfl) us hl
  have F9 := Wv (st := Zaw) l9 c9 k9
  have b9 := F9.binds (ps := ["cell", "least", "most", "great"]) fun _ _ _ _ _ _ us hl => Z1r (P := fun us => PySem.bindArgs _ { pos := us } = pure (List.zip _ us)) (fun _ _ _ _ => rfl) us hl
  have F10 := Wv (st := Js) l10 c10 k10
  have b10 := F10.binds (ps := ["rows", "ring", "weights", "bottom"]) fun _ _ _ _ _ _ us hl => Z1r (P := fun us => PySem.bindArgs _ { pos := us } = pure (List.zip _ us)) (fun _ _ _ _ => rfl) us hl
  have F11 := Wv (st := Ju) l11 c11 k11
  have b11 := F11.binds (ps := ["n", "a", "b"]) fun _ _ _ _ _ _ us hl => Z6x (P := fun us => PySem.bindArgs _ { pos := us } = pure (List.zip _ us)) (fun _ _ _ => rfl) us hl
  have F12 := Wv (st := Zaz) l12 c12 k12
  have b12 := F12.binds (ps := ["thing"]) fun _ _ _ _ _ _ us hl => Zw4 (P := fun us => PySem.bindArgs _ { pos := us } = pure (List.zip _ us)) (fun _ => rfl) us hl
  have F13 := Wv (st := Zbp) l13 c13 k13
  have b13 := F13.binds (ps := ["n", "ring"]) fun _ _ _ _ _ _ us hl => Zmq (P := fun us => PySem.bindArgs _ { pos := us } = pure (List.zip _ us)) (fun _ _ => rfl) us hl
  have F14 := Wv (st := Jt) l14 c14 k14
  have b14 := F14.binds (ps := ["n", "ring"]) fun _ _ _ _ _ _ us hl => Zmq (P := fun us => PySem.bindArgs _ { pos := us } = pure (List.zip _ us)) (fun _ _ => rfl) us hl
  have F15 := Wv (st := Yq) l15 c15 k15
  have b15 := F15.binds (ps := ["a", "b"]) fun _ _ _ _ _ _ us hl => Zmq (P := fun us => PySem.bindArgs _ { pos := us } = pure (List.zip _ us)) (fun _ _ => rfl) us hl
  have F16 := Wv (st := Zas) l16 c16 k16
  have b16 := F16.binds (ps := ["top", "bottom"]) fun _ _ _ _ _ _ us hl => Zmq (P := fun us => PySem.bindArgs _ { pos := us } = pure (List.zip _ us)) (fun _ _ => rfl) us hl
  have F17 := Wv (st := Zau) l17 c17 k17
  have b17 := F17.binds (ps := ["top", "bottom"]) fun _ _ _ _ _ _ us hl => Zmq (P := fun us => PySem.bindArgs _ { pos := us } = pure (List.zip _ us)) (fun _ _ => rfl) us hl
  have F18 := Wv (st := Wf) l18 c18 k18
  have b18 := F18.binds (ps := ["numbers"]) fun _ _ _ _ _ _ us hl => Zw4 (P := fun us => PySem.bindArgs _ { pos := us } = pure (List.zip _ us)) (fun _ => rfl) us hl
  have F19 := Wv (st := Wy) l19 c19 k19
  have b19 := F19.binds (ps := ["table"]) fun _ _ _ _ _ _ us hl => Zw4 (P := fun us => PySem.bindArgs _ { pos := us } = pure (List.zip _ us)) (fun _ => rfl) us hl
  have F20 := Wv (st := Zae) l20 c20 k20
  have b20 := F20.binds (ps := ["bottom", "numbers"]) fun _ _ _ _ _ _ us hl => Zmq (P := fun us => PySem.bindArgs _ { pos := us } = pure (List.zip _ us)) (fun _ _ => rfl) us hl
  have F21 := Wv (st := Jv) l21 c21 k21
  have b21 := F21.binds (ps := ["bottom", "table"]) fun _ _ _ _ _ _ us hl => Zmq (P := fun us => PySem.bindArgs _ { pos := us } = pure (List.zip _ us)) (fun _ _ => rfl) us hl
  have F22 := Wv (st := Wz) l22 c22 k22
  have b22 := F22.binds (ps := ["rows", "ring", "a", "b"]) fun _ _ _ _ _ _ us hl => Z1r (P := fun us => PySem.bindArgs _ { pos := us } = pure (List.zip _ us)) (fun _ _ _ _ => rfl) us hl
  have F23 := Wv (st := Jb) l23 c23 k23
  have b23 := F23.binds (ps := ["table", "ring", "a", "b"]) fun _ _ _ _ _ _ us hl => Z1r (P := fun us => PySem.bindArgs _ { pos := us } = pure (List.zip _ us)) (fun _ _ _ _ => rfl) us hl
  have F24 := Wv (st := Jg) l24 c24 k24
  have b24 := F24.binds (ps := ["table", "ring"]) fun _ _ _ _ _ _ us hl => Zmq (P := fun us => PySem.bindArgs _ { pos := us } = pure (List.zip _ us)) (fun _ _ => rfl) us hl
  have F25 := Wv (st := Zff) l25 c25 k25
  have b25 := F25.binds (ps := ["script"]) fun _ _ _ _ _ _ us hl => Zw4 (P := fun us => PySem.bindArgs _ { pos := us } = pure (List.zip _ us)) (fun _ => rfl) us hl
  have T : Txt K mg (fun k => [_, _, _, _, _, _, _, _, _, _, _, _, _, _, _, _, _, _, _, _, _, _, _, _, _].getD k 0) (fun k => [_, _, _, _, _, _, _, _, _, _, _, _, _, _, _, _, _, _, _, _, _, _, _, _, _].getD k (PySem.W.fnOf "law" "law" (Yb Zff) (Z6 Zff) (Zi Zff) .none kV25 dc25 pm25 an25 cd25 ct25)) (fun k => [C_NoNumber, C_NoOrder].getD k 0) := { F_law_cell_at := F1, b_law_cell_at := b1, m_law_cell_at := PySem.W.mg_of X G a1, F_law_stir := F2, b_law_stir := b2, m_law_stir := PySem.W.mg_of X G a2, F_law_drawn := F3, b_law_drawn := b3, m_law_drawn := PySem.W.mg_of X G a3, F_law_gaps := F4, b_law_gaps := b4, m_law_gaps := PySem.W.mg_of X G a4, F_law_low := F5, b_law_low := b5, m_law_low := PySem.W.mg_of X G a5, F_law_numbers := F6, b_law_numbers := b6, m_law_numbers := PySem.W.mg_of X G a6, F_law_put_right := F7, b_law_put_right := b7, m_law_put_right := PySem.W.mg_of X G a7, F_law_ring := F8, b_law_ring := b8, m_law_ring := PySem.W.mg_of X G a8, F_law_size := F9, b_law_size := b9, m_law_size := PySem.W.mg_of X G a9, F_law_summed := F10, b_law_summed := b10, m_law_summed := PySem.W.mg_of X G a10, F_check_gaps := F11, b_check_gaps := b11, m_check_gaps := PySem.W.mg_of X G a11, F_is_whole := F12, b_is_whole := b12, m_is_whole := PySem.W.mg_of X G a12, F_is_ring := F13, b_is_ring := b13, m_is_ring := PySem.W.mg_of X G a13, F_check_ring := F14, b_check_ring := b14, m_check_ring := PySem.W.mg_of X G a14, F_greatest_divisor := F15, b_greatest_divisor := b15, m_greatest_divisor := PySem.W.mg_of X G a15, F_in_least := F16, b_in_least := b16, m_in_least := PySem.W.mg_of X G a16, F_fraction := F17, b_fraction := b17, m_fraction := PySem.W.mg_of X G a17, F_shared_bottom := F18, b_shared_bottom := b18, m_shared_bottom := PySem.W.mg_of X G a18, F_table_bottom := F19, b_table_bottom := b19, m_table_bottom := PySem.W.mg_of X G a19, F_tops_over := F20, b_tops_over := b20, m_tops_over := PySem.W.mg_of X G a20, F_table_over := F21, b_table_over := b21, m_table_over := PySem.W.mg_of X G a21, F_twice_weight := F22, b_twice_weight := b22, m_twice_weight := PySem.W.mg_of X G a22, F_ring_weight := F23, b_ring_weight := b23, m_ring_weight := PySem.W.mg_of X G a23, F_law_weights := F24, b_law_weights := b24, m_law_weights := PySem.W.mg_of X G a24, F_law := F25, b_law := b25, m_law := PySem.W.mg_of X G a25, z_abs := PySem.W.mg_none_of X G z_abs, z_bool := PySem.W.mg_none_of X G z_bool, z_int := PySem.W.mg_none_of X G z_int, z_isinstance := PySem.W.mg_none_of X G z_isinstance, z_len := PySem.W.mg_none_of X G z_len, z_list := PySem.W.mg_none_of X G z_list, z_range := PySem.W.mg_none_of X G z_range, z_sorted := PySem.W.mg_none_of X G z_sorted, z_tuple := PySem.W.mg_none_of X G z_tuple, mC_NoNumber := PySem.W.mg_of X G cc_NoNumber, ca_NoNumber := cc_NoNumber, mC_NoOrder := PySem.W.mg_of X G cc_NoOrder, ca_NoOrder := cc_NoOrder, r_NoNumber := r_NoNumber, r_NoOrder := r_NoOrder, x_NoNumber_ga := x_NoNumber_ga, x_NoNumber_gt := x_NoNumber_gt, x_NoNumber_cl := x_NoNumber_cl, x_NoNumber_isB := x_NoNumber_isB, x_NoNumber_isO := x_NoNumber_isO, x_NoNumber_isC := x_NoNumber_isC, x_NoNumber_k1 := x_NoNumber_k1, x_NoNumber_k2 := x_NoNumber_k2, x_NoNumber_k3 := x_NoNumber_k3, x_NoNumber_k4 := x_NoNumber_k4, x_NoNumber_k5 := x_NoNumber_k5, x_NoOrder_ga := x_NoOrder_ga, x_NoOrder_gt := x_NoOrder_gt, x_NoOrder_cl := x_NoOrder_cl, x_NoOrder_isB := x_NoOrder_isB, x_NoOrder_isO := x_NoOrder_isO, x_NoOrder_isC := x_NoOrder_isC, x_NoOrder_k1 := x_NoOrder_k1, x_NoOrder_k2 := x_NoOrder_k2, x_NoOrder_k3 := x_NoOrder_k3, x_NoOrder_k4 := x_NoOrder_k4, x_NoOrder_k5 := x_NoOrder_k5 }
  exact ⟨PySem.W.fnOf "law" "law" (Yb Zff) (Z6 Zff) (Zi Zff) .none kV25 dc25 pm25 an25 cd25 ct25, fun s v => .of_eq rfl, fun base _ _ => Zw1 (P := l.prog) (w := w) (base := base) T⟩
theorem walk {l : PySem.W.OpenLaw} {q : Program} {loose : List Str} {XP : (Str → Option Value) → Heap → Prop} {YP : World → Heap → Prop} {d : DefRec} {K : Params → PySem.W.Frag} (hn : l.most = some 63) (hdf : d.params.defaults = [])
    (hY : ∀ (w : World) (h : Heap), YP w h → (K w.params).In h)
    (F : ∀ (w : World) (mg : Str → Option Value) (fa : Addr) (h : Heap), (K w.params).In h → h.Ns mainGlobals mg → mg d.name = some (.ref fa) →
      ∃ fd : FuncData, (∀ (s : Shared) (u : Value), BindsTo s fd ⟨[u], []⟩ [("script", u)]) ∧ ∀ base : Heap, (K w.params).In base → base.Ns mainGlobals mg → FnOk l.prog w (K w.params) mg base CX0 6 fa fd ["script"] (spD (K w.params) Z06)) :
    PySem.W.WalkO q loose XP YP l.row.toRowW d [] (fun f vs => PySem.call f vs) :=
  L2.Zui (n := 63) (k := 6) (x := "script") (CX := fun _ => CX0) (sp := fun w => spD (K w.params) Z06) hn (by decide) hdf ⟨rfl, by decide, by decide⟩ hY F (fun _ _ a ns hl _ hS => Zzv hl hS) fun _ _ _ _ _ z => z
end My
open PySem PySem.W PyProof.Rows
set_option maxRecDepth 100000 in
set_option maxHeartbeats 0 in
theorem PySem.Challenge.cw_farcuts_k27_ring_sums_holds : PySem.Challenge.rw_farcuts_k27_ring_sums.Holds := by
  w_on; o_law; k_head; (case hw => w_witness2)
  k_fill
  refine My.walk (l := PySem.Challenge.rw_farcuts_k27_ring_sums) rfl rfl (fun w h Y => PySem.W.kIn_of Y) ?F
  case F =>
    intro w mg fa h KX G hmg
    refine' My.Zz6 KX G hmg ?a1 ?l1 ?c1 ?k1 ?a2 ?l2 ?c2 ?k2 ?a3 ?l3 ?c3 ?k3 ?a4 ?l4 ?c4 ?k4 ?a5 ?l5 ?c5 ?k5 ?a6 ?l6 ?c6 ?k6 ?a7 ?l7 ?c7 ?k7 ?a8 ?l8 ?c8 ?k8 ?a9 ?l9 ?c9 ?k9 ?a10 ?l10 ?c10 ?k10 ?a11 ?l11 ?c11 ?k11 ?a12 ?l12 ?c12 ?k12 ?a13 ?l13 ?c13 ?k13 ?a14 ?l14 ?c14 ?k14 ?a15 ?l15 ?c15 ?k15 ?a16 ?l16 ?c16 ?k16 ?a17 ?l17 ?c17 ?k17 ?a18 ?l18 ?c18 ?k18 ?a19 ?l19 ?c19 ?k19 ?a20 ?l20 ?c20 ?k20 ?a21 ?l21 ?c21 ?k21 ?a22 ?l22 ?c22 ?k22 ?a23 ?l23 ?c23 ?k23 ?a24 ?l24 ?c24 ?k24 ?a25 ?l25 ?c25 ?k25 ?z_abs ?z_bool ?z_int ?z_isinstance ?z_len ?z_list ?z_range ?z_sorted ?z_tuple ?cc_NoNumber ?cc_NoOrder ?r_NoNumber ?r_NoOrder ?x_NoNumber_ga ?x_NoNumber_gt ?x_NoNumber_cl ?x_NoNumber_isB ?x_NoNumber_isO ?x_NoNumber_isC ?x_NoNumber_k1 ?x_NoNumber_k2 ?x_NoNumber_k3 ?x_NoNumber_k4 ?x_NoNumber_k5 ?x_NoOrder_ga ?x_NoOrder_gt ?x_NoOrder_cl ?x_NoOrder_isB ?x_NoOrder_isO ?x_NoOrder_isC ?x_NoOrder_k1 ?x_NoOrder_k2 ?x_NoOrder_k3 ?x_NoOrder_k4 ?x_NoOrder_k5
    (case a1 => k_is)
    (case l1 => k_is)
    (case c1 => k_is)
    (case k1 => k_is)
    (case a2 => k_is)
    (case l2 => k_is)
    (case c2 => k_is)
    (case k2 => k_is)
    (case a3 => k_is)
    (case l3 => k_is)
    (case c3 => k_is)
    (case k3 => k_is)
    (case a4 => k_is)
    (case l4 => k_is)
    (case c4 => k_is)
    (case k4 => k_is)
    (case a5 => k_is)
    (case l5 => k_is)
    (case c5 => k_is)
    (case k5 => k_is)
    (case a6 => k_is)
    (case l6 => k_is)
    (case c6 => k_is)
    (case k6 => k_is)
    (case a7 => k_is)
    (case l7 => k_is)
    (case c7 => k_is)
    (case k7 => k_is)
    (case a8 => k_is)
    (case l8 => k_is)
    (case c8 => k_is)
    (case k8 => k_is)
    (case a9 => k_is)
    (case l9 => k_is)
    (case c9 => k_is)
    (case k9 => k_is)
    (case a10 => k_is)
    (case l10 => k_is)
    (case c10 => k_is)
    (case k10 => k_is)
    (case a11 => k_is)
    (case l11 => k_is)
    (case c11 => k_is)
    (case k11 => k_is)
    (case a12 => k_is)
    (case l12 => k_is)
    (case c12 => k_is)
    (case k12 => k_is)
    (case a13 => k_is)
    (case l13 => k_is)
    (case c13 => k_is)
    (case k13 => k_is)
    (case a14 => k_is)
    (case l14 => k_is)
    (case c14 => k_is)
    (case k14 => k_is)
    (case a15 => k_is)
    (case l15 => k_is)
    (case c15 => k_is)
    (case k15 => k_is)
    (case a16 => k_is)
    (case l16 => k_is)
    (case c16 => k_is)
    (case k16 => k_is)
    (case a17 => k_is)
    (case l17 => k_is)
    (case c17 => k_is)
    (case k17 => k_is)
    (case a18 => k_is)
    (case l18 => k_is)
    (case c18 => k_is)
    (case k18 => k_is)
    (case a19 => k_is)
    (case l19 => k_is)
    (case c19 => k_is)
    (case k19 => k_is)
    (case a20 => k_is)
    (case l20 => k_is)
    (case c20 => k_is)
    (case k20 => k_is)
    (case a21 => k_is)
    (case l21 => k_is)
    (case c21 => k_is)
    (case k21 => k_is)
    (case a22 => k_is)
    (case l22 => k_is)
    (case c22 => k_is)
    (case k22 => k_is)
    (case a23 => k_is)
    (case l23 => k_is)
    (case c23 => k_is)
    (case k23 => k_is)
    (case a24 => k_is)
    (case l24 => k_is)
    (case c24 => k_is)
    (case k24 => k_is)
    (case a25 => k_is)
    (case l25 => k_is)
    (case c25 => k_is)
    (case k25 => k_is)
    (case z_abs => k_is)
    (case z_bool => k_is)
    (case z_int => k_is)
    (case z_isinstance => k_is)
    (case z_len => k_is)
    (case z_list => k_is)
    (case z_range => k_is)
    (case z_sorted => k_is)
    (case z_tuple => k_is)
    (case cc_NoNumber => k_is)
    (case cc_NoOrder => k_is)
    (case r_NoNumber => show PySem.W.excIn _ _ _ _ = true; k_exc)
    (case r_NoOrder => show PySem.W.excIn _ _ _ _ = true; k_exc)
    (case x_NoNumber_ga => k_is)
    (case x_NoNumber_gt => k_is)
    (case x_NoNumber_cl => k_is)
    (case x_NoNumber_isB => k_is)
    (case x_NoNumber_isO => k_is)
    (case x_NoNumber_isC => k_is)
    (case x_NoNumber_k1 => kit_is)
    (case x_NoNumber_k2 => kit_is)
    (case x_NoNumber_k3 => kit_is)
    (case x_NoNumber_k4 => kit_is)
    (case x_NoNumber_k5 => kit_is)
    (case x_NoOrder_ga => k_is)
    (case x_NoOrder_gt => k_is)
    (case x_NoOrder_cl => k_is)
    (case x_NoOrder_isB => k_is)
    (case x_NoOrder_isO => k_is)
    (case x_NoOrder_isC => k_is)
    (case x_NoOrder_k1 => kit_is)
    (case x_NoOrder_k2 => kit_is)
    (case x_NoOrder_k3 => kit_is)
    (case x_NoOrder_k4 => kit_is)
    (case x_NoOrder_k5 => kit_is)
#print axioms PySem.Challenge.cw_farcuts_k27_ring_sums_holds
