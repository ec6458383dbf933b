import PyProof.Rows.All
import Wide.All
import OpenK.AllK
import Wide.FinOn
import PyProof.EqAt
import PyProof.EqKinds
import PyProof.TupleCall
import PyProof.P3In
import PyProof.ZipIter
import PyProof.ListRange
import PyProof.SetRoads
import PyProof.Rows.SetFrom
import PyProof.Rows.SeqMore2
import KE.RegKIsAll
import PySem.Challenge.RW_farcuts_k04_fractions_shown
set_option Elab.async false
set_option linter.all false
set_option maxRecDepth 100000
/-! THE HAND LAYER, for ints, bools, texts, own classes, LISTS and tuples (index, slices, in, append, pop ..), calls, loops. Paste it whole ahead of your own text; what your proof does not reach may be deleted. -/
namespace L2
open PySem PySem.Spec PyProof.Rows
noncomputable abbrev Key := Sum Int Str
noncomputable def keyIs : Key → Value → Bool
  | .inl k, v => Value.isInt k v
  | .inr x, v => Value.isStrOf x v
noncomputable def keyH (w : World) : Key → Int
  | .inl k => hashInt k
  | .inr x => hashStr w x
theorem keyIs_shape : ∀ {k : Key} {v : Value}, keyIs k v = true → (∃ i t, k = Sum.inl i ∧ v = Value.int i t) ∨ (∃ x t, k = Sum.inr x ∧ v = Value.str x t)
  | .inl i, v, h => by
    obtain ⟨t, e⟩ := Value.isInt_shape (k := i) (v := v) h
    exact .inl ⟨i, t, rfl, e⟩
  | .inr x, v, h => by
    obtain ⟨t, e⟩ := Value.isStrOf_shape (x := x) (v := v) h
    exact .inr ⟨x, t, rfl, e⟩
theorem keyIs_int (i : Int) (t : Tok) : keyIs (.inl i) (.int i t) = true := by simp [keyIs, Value.isInt]
theorem keyIs_str (x : Str) (t : Tok) : keyIs (.inr x) (.str x t) = true := by simp [keyIs, Value.isStrOf]
theorem key_ll (a b : Int) : decide ((Sum.inl a : Key) = Sum.inl b) = (a == b) := by
  by_cases e : a = b
  · subst e; simp
  · have h : ¬ (Sum.inl a : Key) = Sum.inl b := fun q => e (Sum.inl.inj q)
    rw [decide_eq_false h]
    exact (beq_eq_false_iff_ne.mpr e).symm
theorem key_rr (a b : Str) : decide ((Sum.inr a : Key) = Sum.inr b) = decide (a = b) := by
  by_cases e : a = b
  · subst e; simp
  · have h : ¬ (Sum.inr a : Key) = Sum.inr b := fun q => e (Sum.inr.inj q)
    rw [decide_eq_false h, decide_eq_false e]
theorem key_lr (a : Int) (b : Str) : decide ((Sum.inl a : Key) = Sum.inr b) = false := decide_eq_false (fun q => nomatch q)
theorem key_rl (a : Str) (b : Int) : decide ((Sum.inr a : Key) = Sum.inl b) = false := decide_eq_false (fun q => nomatch q)
noncomputable def mixKind (prog : Program) (w : World) : PySem.KeyKind prog w Key where
  is := keyIs
  hash := keyH w
  inj := fun v a b ha hb => by
    rcases keyIs_shape ha with ⟨i, t, rfl, rfl⟩ | ⟨x, t, rfl, rfl⟩
    · rcases keyIs_shape hb with ⟨j, u, rfl, e⟩ | ⟨y, u, rfl, e⟩
      · injection e with e1 _; rw [e1]
      · exact nomatch e
    · rcases keyIs_shape hb with ⟨j, u, rfl, e⟩ | ⟨y, u, rfl, e⟩
      · exact nomatch e
      · injection e with e1 _; rw [e1]
  byValue := fun k v h => by
    rcases keyIs_shape h with ⟨i, t, rfl, rfl⟩ | ⟨x, t, rfl, rfl⟩ <;> rfl
  pyHash := fun hv h => by
    rcases keyIs_shape hv with ⟨i, t, rfl, rfl⟩ | ⟨x, t, rfl, rfl⟩
    · exact wpAny_pyHash_int h
    · exact wpAny_pyHash_str h
  eqBool := fun hu hv h => by
    rcases keyIs_shape hu with ⟨i, t, rfl, rfl⟩ | ⟨x, t, rfl, rfl⟩
    · rcases keyIs_shape hv with ⟨j, u, rfl, rfl⟩ | ⟨y, u, rfl, rfl⟩
      · rw [key_ll] at h; exact wpAny_eqBool_int h
      · rw [key_lr] at h; exact SeqAt.EqAt.int_str i t y u _ _ _ _ h
    · rcases keyIs_shape hv with ⟨j, u, rfl, rfl⟩ | ⟨y, u, rfl, rfl⟩
      · rw [key_rl] at h; exact SeqAt.EqAt.str_int x t j u _ _ _ _ h
      · rw [key_rr] at h; exact wpAny_eqBool_str h
  «strs» := fun k x t v h => by
    rcases keyIs_shape h with ⟨i, u, rfl, e⟩ | ⟨y, u, rfl, e⟩
    · exact nomatch e
    · injection e with e1 _
      subst e1
      cases v <;> rfl
theorem mixKind_int (prog : Program) (w : World) (i : Int) (t : Tok) : (mixKind prog w).is (.inl i) (.int i t) = true := keyIs_int i t
theorem mixKind_str (prog : Program) (w : World) (x : Str) (t : Tok) : (mixKind prog w).is (.inr x) (.str x t) = true := keyIs_str x t
end L2
namespace L2
open PySem PySem.Spec PyProof.Rows
inductive V where
  | non | bl (b : Bool) | int (i : Int) | str (x : Str) | byt (b : Array UInt8) | flt (b : UInt64) | ref (a : Addr) | ty (n : String)
noncomputable def RelV : V → Value → Prop
  | .non, u => u = Value.none
  | .bl b, u => u = Value.bool b
  | .int i, u => ∃ t, u = Value.int i t
  | .str x, u => ∃ t, u = Value.str x t
  | .byt b, u => ∃ t, u = Value.bytes b t
  | .flt b, u => ∃ t, u = Value.float b t
  | .ref a, u => u = Value.ref a
  | .ty n, u => u = Value.type n
noncomputable abbrev Vals : List V → List Value → Prop := Paired RelV
theorem Vals.length {xs : List V} {us : List Value} (r : Vals xs us) : xs.length = us.length := Paired.length r
theorem Vals.get {xs : List V} {us : List Value} {i : Nat} {x : V} (h : Vals xs us) (e : xs[i]? = some x) : ∃ u, us[i]? = some u ∧ RelV x u := by
  induction h generalizing i with
  | nil => exact (Option.some_ne_none _ (e.symm.trans List.getElem?_nil)).elim
  | cons r t ih =>
    cases i with
    | zero => exact ⟨_, rfl, Option.some.inj e ▸ r⟩
    | succ i => exact ih e
theorem Vals.set {x : V} {u : Value} (r : RelV x u) {xs : List V} {us : List Value} (i : Nat) (h : Vals xs us) : Vals (xs.set i x) (us.set i u) := by
  induction h generalizing i with
  | nil => exact .nil
  | cons q t ih =>
    cases i with
    | zero => exact .cons r t
    | succ i => exact .cons q (ih i)
theorem Vals.append {xs ys : List V} {us ws : List Value} (h : Vals xs us) (s : Vals ys ws) : Vals (xs ++ ys) (us ++ ws) := by
  induction h with
  | nil => exact s
  | cons r t ih => exact .cons r ih
noncomputable def RelO : Option V → Option Value → Prop
  | some v, some u => RelV v u
  | none, none => True
  | _, _ => False
noncomputable def KV {κ : Type} : List (κ × V) → List (κ × Value) → Prop := Paired fun (p : κ × V) (q : κ × Value) => p.1 = q.1 ∧ RelV p.2 q.2
noncomputable def kV : Key → V
  | .inl i => .int i
  | .inr x => .str x
inductive HO where
    | lst (xs : List V)
    | tup (xs : List V)
    | dK (kvs : List (Key × V)) | dT (kvs : List (List Key × V))
    | set (S : Int → Bool) (n : Nat)
    | ins (C dx : Addr) (fs : List (Str × V))
    | own (x : Addr)
    | xd (fs : List (Str × V))
    | met (f x : Addr)
    | rng (lo hi : Int)
    | frz (o : Obj) (u : HO)
    | tbl (ps : Array Value)
    | ext (φ : Heap → Prop)
noncomputable abbrev Hp := Addr → Option HO
noncomputable def upd (H : Hp) (a : Addr) (o : HO) : Hp := fun b => if b = a then some o else H b
theorem upd_same {H : Hp} {a : Addr} {o : HO} : upd H a o a = some o := by unfold upd; rw [if_pos rfl]
theorem upd_ne {H : Hp} {a b : Addr} {o : HO} (h : b ≠ a) : upd H a o b = H b := by unfold upd; rw [if_neg h]
theorem ne_of {H : Hp} {a b : Addr} {o u : HO} (h : H a = some o) (h' : H b = some u) (d : o ≠ u) : a ≠ b := by
  intro e; subst e; rw [h] at h'; exact d (Option.some.inj h')
theorem ne_of_none {H : Hp} {a b : Addr} {o : HO} (h : H a = some o) (h' : H b = none) : a ≠ b := by
  intro e; subst e; rw [h] at h'; cases h'
section
variable (P : Program) (w : World)
noncomputable def ObjOk (H : Hp) (h : Heap) (a : Addr) : HO → Prop
  | .lst xs => xs.length ≤ sizeLine ∧ ∃ (its : List Value) (n : Nat), Vals xs its ∧ h.get? a = some { cls := .type "list", data := .seq its.toArray n }
  | .tup xs => xs.length ≤ sizeLine ∧ ∃ its : List Value, Vals xs its ∧ IsTup h a its.toArray
  | .dK kvs => kvs.length ≤ sizeLine ∧ (a == sysModules) = false ∧ ∃ vs, KV kvs vs ∧ h.DictOf (mixKind P w) a vs
  | .dT kvs => kvs.length ≤ sizeLine ∧ (a == sysModules) = false ∧ ∃ xs : List (List Key × Addr × Value),
      Paired (fun (p : List Key × V) (q : List Key × Addr × Value) => p.1 = q.1 ∧ H q.2.1 = some (.tup (p.1.map kV)) ∧ RelV p.2 q.2.2) kvs xs ∧
      ∃ o es ep, h.get? a = some o ∧ o.ExactDict ∧ o.data = .dict es ep ∧ es.toList = xs.map (entryOfKey (tupleKind (mixKind P w))) ∧ (xs.map (·.1)).Nodup
  | .set S n => h.SetOf (intKind P w) a S n
  | .ins C dx fs => H dx = some (.own a) ∧ fs.length ≤ 1000 ∧ dx ≠ a ∧ h.get? a = some (PySem.W.instObj C dx) ∧
      ∃ mA, h.Ns1 dx mA ∧ (∀ f, RelO (fs.lookup f) (mA f)) ∧ PySem.Within mA (fs.map (·.1))
  | .own _ => ∃ o, h.get? a = some o
  | .xd fs => ∃ mA, h.Ns1 a mA ∧ ∀ f, RelO (fs.lookup f) (mA f)
  | .rng lo hi => ∃ t u v, h.get? a = some { cls := .type "range", data := .fields #[.int lo t, .int hi u, .int 1 v] }
  | .frz o u => h.get? a = some o ∧ ObjOk H h a u
  | .tbl ps => h.get? a = some { cls := .none, data := .fields ps }
  | .met f x => h.get? a = some (PySem.W.methodObj (.ref f) (.ref x))
  | .ext φ => φ h ∧ (∃ o, h.get? a = some o) ∧ ∀ h1 h2 : Heap, φ h1 → (∀ o, h1.get? a = some o → h2.get? a = some o) → φ h2
noncomputable def HOk (H : Hp) (h : Heap) : Prop := ∀ a o, H a = some o → ObjOk P w H h a o
end
section
variable {P : Program} {w : World} {H H' : Hp} {h h' : Heap} {a : Addr} {o : HO}
theorem ObjOk.lt (x : ObjOk P w H h a o) : a < h.objs.size := by
  cases o with
  | lst xs => obtain ⟨_, _, _, _, e⟩ := x; exact Heap.lt_size e
  | tup xs => obtain ⟨_, _, _, p⟩ := x; exact p.lt
  | dK kvs => obtain ⟨_, _, _, _, o, _, _, e, _⟩ := x; exact Heap.lt_size e
  | dT kvs => obtain ⟨_, _, _, _, o, _, _, e, _⟩ := x; exact Heap.lt_size e
  | set S n => obtain ⟨o, _, _, _, e, _⟩ := x; exact Heap.lt_size e
  | ins C dx fs => obtain ⟨_, _, _, e, _⟩ := x; exact Heap.lt_size e
  | own y => obtain ⟨_, e⟩ := x; exact Heap.lt_size e
  | xd fs => obtain ⟨_, ⟨_, _, _, e, _⟩, _⟩ := x; exact Heap.lt_size e
  | rng lo hi => obtain ⟨_, _, _, e⟩ := x; exact Heap.lt_size e
  | frz ob u => obtain ⟨e, _⟩ := x; exact Heap.lt_size e
  | tbl ps => exact Heap.lt_size (show h.get? a = some _ from x)
  | met f y => exact Heap.lt_size (show h.get? a = some _ from x)
  | ext φ => obtain ⟨_, ⟨_, e⟩, _⟩ := x; exact Heap.lt_size e
theorem Paired.mapP {α β : Type} {F G : α → β → Prop} {l₁ : List α} {l₂ : List β} (h : Paired F l₁ l₂) (f : ∀ a b, F a b → G a b) : Paired G l₁ l₂ := by
  induction h with
  | nil => exact .nil
  | cons r t ih => exact .cons (f _ _ r) ih
theorem ObjOk.stay (x : ObjOk P w H h a o) (k : ∀ b u, (b = a ∨ H b = some (.own a)) → h.get? b = some u → h'.get? b = some u)
    (ho : ∀ b, H b = some (.own a) → H' b = some (.own a)) (ht : ∀ b xs, H b = some (.tup xs) → H' b = some (.tup xs)) : ObjOk P w H' h' a o := by
  induction o with
  | lst xs => obtain ⟨z, its, n, r, e⟩ := x; exact ⟨z, its, n, r, k _ _ (.inl rfl) e⟩
  | tup xs => obtain ⟨z, its, r, ob, e, c⟩ := x; exact ⟨z, its, r, ob, k _ _ (.inl rfl) e, c⟩
  | dK kvs => obtain ⟨z, y, vs, r, ob, es, ep, e, c⟩ := x; exact ⟨z, y, vs, r, ob, es, ep, k _ _ (.inl rfl) e, c⟩
  | dT kvs =>
    obtain ⟨z, y, xs, r, ob, es, ep, e, c⟩ := x
    exact ⟨z, y, xs, Paired.mapP r fun p q z => ⟨z.1, ht _ _ z.2.1, z.2.2⟩, ob, es, ep, k _ _ (.inl rfl) e, c⟩
  | set S n => obtain ⟨ob, es, ep, t, e, c⟩ := x; exact ⟨ob, es, ep, t, k _ _ (.inl rfl) e, c⟩
  | ins C dx fs =>
    obtain ⟨d, z, ne, e, mA, ⟨od, es, ep, e2, c⟩, r⟩ := x
    exact ⟨ho _ d, z, ne, k _ _ (.inl rfl) e, mA, ⟨od, es, ep, k _ _ (.inr d) e2, c⟩, r⟩
  | own y => obtain ⟨ob, e⟩ := x; exact ⟨ob, k _ _ (.inl rfl) e⟩
  | xd fs => obtain ⟨mA, ⟨od, es, ep, e, c⟩, r⟩ := x; exact ⟨mA, ⟨od, es, ep, k _ _ (.inl rfl) e, c⟩, r⟩
  | rng lo hi => obtain ⟨t, u, v, e⟩ := x; exact ⟨t, u, v, k _ _ (.inl rfl) e⟩
  | frz ob u ih => obtain ⟨e, q⟩ := x; exact ⟨k _ _ (.inl rfl) e, ih q⟩
  | tbl ps =>
    have e : h.get? a = some { cls := .none, data := .fields ps } := x
    show h'.get? a = some { cls := .none, data := .fields ps }
    exact k a _ (.inl rfl) e
  | met f y =>
    have e : h.get? a = some (PySem.W.methodObj (.ref f) (.ref y)) := x
    show h'.get? a = some (PySem.W.methodObj (.ref f) (.ref y))
    exact k a _ (.inl rfl) e
  | ext φ => obtain ⟨p, ⟨o, e⟩, st⟩ := x; exact ⟨st _ _ p fun o q => k _ _ (.inl rfl) q, ⟨o, k _ _ (.inl rfl) e⟩, st⟩
theorem HOk.lt (x : HOk P w H h) (e : H a = some o) : a < h.objs.size := (x a o e).lt
theorem HOk.fresh (x : HOk P w H h) (e : h.objs.size ≤ a) : H a = none := by
  cases q : H a with
  | none => rfl
  | some u => exact absurd (Nat.lt_of_lt_of_le (x.lt q) e) (Nat.lt_irrefl _)
theorem HOk.kept (x : HOk P w H h) (k : ∀ b u, h.get? b = some u → h'.get? b = some u) : HOk P w H h' := fun a o e =>
  (x a o e).stay (fun b u _ q => k b u q) (fun _ q => q) fun _ _ q => q
theorem HOk.laid (x : HOk P w H h) (k : ∀ b u, h.get? b = some u → h'.get? b = some u) (hp : h.objs.size ≤ a) (new : ObjOk P w (upd H a o) h' a o) : HOk P w (upd H a o) h' := fun b u e => by
  have hn := x.fresh hp
  by_cases hb : b = a
  · subst hb; rw [upd_same] at e; cases e; exact new
  · rw [upd_ne hb] at e
    exact (x b u e).stay (fun c v _ q => k c v q) (fun c q => by rw [upd_ne (ne_of_none q hn)]; exact q) fun c xs q => by rw [upd_ne (ne_of_none q hn)]; exact q
end
noncomputable def Rd (H : Hp) (a : Addr) (u : HO) : Prop := H a = some u ∨ ∃ o, H a = some (.frz o u)
theorem Rd.ok {P : Program} {w : World} {H : Hp} {h : Heap} {a : Addr} {u : HO} (r : Rd H a u) (x : HOk P w H h) : ObjOk P w H h a u := by
  rcases r with r | ⟨o, r⟩
  · exact x a u r
  · obtain ⟨_, q⟩ := x a _ r
    exact q
noncomputable def Mut : Option HO → Prop
  | some (.lst _) => True
  | some (.dK _) => True
  | some (.dT _) => True
  | some (.set _ _) => True
  | some (.ins _ _ _) => True
  | some (.ext _) => True
  | _ => False
section
variable {P : Program} {w : World} {H : Hp} {h h' : Heap} {x e : Addr} {o' : HO}
theorem HOk.write (ok : HOk P w H h) (mu : Mut (H x)) (he : e = x ∨ H e = some (.own x)) (k : ∀ b u, b ≠ e → h.get? b = some u → h'.get? b = some u) (heo : ∃ u, h'.get? e = some u)
    (new : ObjOk P w (upd H x o') h' x o') : HOk P w (upd H x o') h' := fun b u q => by
  have nown : ∀ c y, H c = some (.own y) → c ≠ x := fun c y r z => by subst z; rw [r] at mu; exact mu
  have ntup : ∀ c xs, H c = some (.tup xs) → c ≠ x := fun c xs r z => by subst z; rw [r] at mu; exact mu
  by_cases hb : b = x
  · subst hb; rw [upd_same] at q; cases q; exact new
  · rw [upd_ne hb] at q
    by_cases hbe : b = e
    · have q' : H b = some (.own x) := by
        rcases he with z | z
        · exact absurd (hbe.trans z) hb
        · rw [hbe]; exact z
      rw [q] at q'; cases q'
      obtain ⟨v, hv⟩ := heo
      exact ⟨v, by rw [hbe]; exact hv⟩
    · refine (ok b u q).stay (fun c v hc r => k c v ?_ r) (fun c r => by rw [upd_ne (nown c b r)]; exact r) fun c xs r => by rw [upd_ne (ntup c xs r)]; exact r
      rcases hc with rfl | hc
      · exact hbe
      · rintro rfl
        rcases he with z | z
        · exact nown c b hc z
        · rw [hc] at z; cases z; exact hb rfl
end
structure Un (fs ex : List Addr) (H H' : Hp) (h h' : Heap) : Prop where
  keep : ∀ b o, h.get? b = some o → H b = none → b ∉ fs → b ∉ ex → h'.get? b = some o
  slot : ∀ b o, h.get? b = some o → H b = none → b ∈ fs → b ∉ ex → ∃ sl, h'.get? b = some { o with slots := sl }
  free : ∀ b o, h.get? b = some o → H b = none → b ∉ ex → H' b = none
  there : ∀ b o, h.get? b = some o → b ∉ ex → ∃ o', h'.get? b = some o'
  tups : ∀ b xs, H b = some (.tup xs) → H' b = some (.tup xs)
  frzs : ∀ b o u, H b = some (.frz o u) → H' b = some (.frz o u)
  tbls : ∀ b ps, H b = some (.tbl ps) → ∃ more, H' b = some (.tbl (ps ++ more))
section
variable {fs fs' ex ex' : List Addr} {H H1 H2 : Hp} {h h1 h2 h' : Heap} {a x e : Addr} {o : HO}
theorem Un.any (u : Un fs ex H H1 h h1) {b : Addr} {ob : Obj} (q : h.get? b = some ob) (n : H b = none) (hx : b ∉ ex) : ∃ sl, h1.get? b = some { ob with slots := sl } := by
  by_cases hb : b ∈ fs
  · exact u.slot b ob q n hb hx
  · exact ⟨ob.slots, u.keep b ob q n hb hx⟩
theorem Un.kept (k : ∀ b u, h.get? b = some u → h'.get? b = some u) : Un fs ex H H h h' :=
  ⟨fun b ob q _ _ _ => k b ob q, fun b ob q _ _ _ => ⟨ob.slots, k b ob q⟩, fun _ _ _ n _ => n, fun b ob q _ => ⟨ob, k b ob q⟩, fun _ _ q => q, fun _ _ _ q => q, fun _ ps q => ⟨#[], by rw [q]; simp⟩⟩
theorem Un.refl : Un fs ex H H h h := Un.kept fun _ _ q => q
theorem Un.laid (k : ∀ b u, h.get? b = some u → h'.get? b = some u) (hp : h.objs.size ≤ a) (hn : H a = none) : Un fs ex H (upd H a o) h h' where
  keep := fun b u q _ _ _ => k b u q
  slot := fun b u q _ _ _ => ⟨u.slots, k b u q⟩
  free := fun b u q n _ => by rw [upd_ne (Nat.ne_of_lt (Nat.lt_of_lt_of_le (Heap.lt_size q) hp))]; exact n
  there := fun b u q _ => ⟨u, k b u q⟩
  tups := fun b xs q => by rw [upd_ne (ne_of_none q hn)]; exact q
  frzs := fun b u xs q => by rw [upd_ne (ne_of_none q hn)]; exact q
  tbls := fun b ps q => ⟨#[], by rw [upd_ne (ne_of_none q hn), q]; simp⟩
theorem Un.write (mu : Mut (H x)) (he : e = x ∨ H e = some (.own x)) (k : ∀ b u, b ≠ e → h.get? b = some u → h'.get? b = some u) (heo : ∃ u, h'.get? e = some u) : Un fs ex H (upd H x o) h h' := by
  have hx : ∀ b, H b = none → b ≠ x := fun b n z => by subst z; rw [n] at mu; exact mu
  have hb : ∀ b, H b = none → b ≠ e := fun b n z => by
    subst z
    rcases he with r | r
    · exact hx b n r
    · rw [n] at r; cases r
  have hm : ∀ b u, H b = some u → ¬ Mut (some u) → b ≠ x := fun b u q nm z => by subst z; rw [q] at mu; exact nm mu
  refine ⟨fun b u q n _ _ => k b u (hb b n) q, fun b u q n _ _ => ⟨u.slots, k b u (hb b n) q⟩, fun b u q n _ => by rw [upd_ne (hx b n)]; exact n, fun b u q _ => ?_,
    fun b xs q => by rw [upd_ne (hm b _ q fun z => z)]; exact q, fun b u xs q => by rw [upd_ne (hm b _ q fun z => z)]; exact q, fun b ps q => ⟨#[], by rw [upd_ne (hm b _ q fun z => z), q]; simp⟩⟩
  by_cases hbe : b = e
  · subst hbe; exact heo
  · exact ⟨u, k b u hbe q⟩
end
noncomputable def trk (h : Heap) (H : Hp) : List Addr := (List.range h.objs.size).filter fun a => (H a).isSome
noncomputable def hidT (h : Heap) (H : Hp) : Heap := PySem.W.hideAll h (trk h H)
theorem hidT_size (h : Heap) (H : Hp) : (hidT h H).objs.size = h.objs.size := PySem.W.hideAll_size _ _
theorem hidT_get {h : Heap} {H : Hp} {b : Addr} {o : Obj} (e : h.get? b = some o) (n : H b = none) : (hidT h H).get? b = some o :=
  PySem.W.hideAll_get _ e fun hm => by
    have q : (H b).isSome = true := (List.mem_filter.mp hm).2
    rw [n] at q; simp at q
theorem of_hidT {h : Heap} {H : Hp} {b : Addr} {o : Obj} (e : (hidT h H).get? b = some o) : h.get? b = some o ∧ H b = none := by
  have e' : h.get? b = some o := PySem.W.of_hideAll (trk h H) e
  refine ⟨e', ?_⟩
  cases q : H b with
  | none => rfl
  | some x =>
    have hm : b ∈ trk h H := List.mem_filter.mpr ⟨List.mem_range.mpr (Heap.lt_size e'), by simp [q]⟩
    have z : (hidT h H).get? b = none := PySem.W.hideAll_none (trk h H) hm
    rw [z] at e; cases e
noncomputable def allNews (g h : Heap) (L : Addr) : List (Addr × Obj) := (List.range h.objs.size).filterMap fun a => if a = L ∨ (g.get? a).isSome = true then none else (h.get? a).map fun o => (a, o)
noncomputable def rest (g h : Heap) (L d : Addr) : List (Addr × Obj) := (allNews g h L).filter fun p => decide (p.1 ≠ d)
end L2
namespace L2
open PySem PySem.Spec PyProof.Rows
structure Mod (K : PySem.W.Frag) (mg : Str → Option Value) (base : Heap) : Prop where
  kin : K.In base
  glob : base.Ns mainGlobals mg
  blt : ∃ mb, base.Ns builtinsNs mb ∧ ∀ x : Str, x ≠ "__name__" → mb x = bootBuiltins x
  nolimit : base.NoLimit
set_option genInjectivity false in
structure Cx where
  prog : Program
  w : World
  K : PySem.W.Frag
  mg : Str → Option Value
  base : Heap
  A : Around
  N : List Str
  s₀ : Shared
  H₀ : Hp
  env : Env
  outer : List Env
  stack : List Env
  ex : List Addr
  fn : Str → Bool
  calm : Bool
  pn : List (Addr × Obj)
  xe : Value → Shared → Prop
noncomputable def frs (l : List Env) : List Addr := l.filterMap (·.frame)
noncomputable abbrev Cx.fs (X : Cx) : List Addr := frs X.outer
noncomputable def Vis (sc : Scope) (x : Str) : Prop := sc.names.lookup x = some .local ∨ sc.names.lookup x = some .cell ∨ sc.names.lookup x = some .free
noncomputable def Loc (sc : Scope) (x : Str) : Prop := sc.names.lookup x = some .local ∨ sc.names.lookup x = some .cell
noncomputable def Look (env : Env) (h : Heap) (m : Str → Option Value) (x : Str) (u : Value) : Prop :=
  (env.kindOf x = some .local ∧ m x = some u) ∨ ((env.kindOf x = some .cell ∨ env.kindOf x = some .free) ∧ ∃ c, env.cells.lookup x = some c ∧ h.IsCell c (some u))
structure Cx.Ok (X : Cx) : Prop where
  mod : Mod X.K X.mg X.base
  kind : X.env.scope.kind = .function
  glob : X.env.globals = mainGlobals
  blt : X.env.builtins = builtinsNs
  above : X.s₀.heap.objs.size ≤ X.env.locals
  inj : ∀ x y c, X.env.cells.lookup x = some c → X.env.cells.lookup y = some c → x = y
  has : ∀ x, (X.env.kindOf x = some .cell ∨ X.env.kindOf x = some .free) → ∃ c, X.env.cells.lookup x = some c
  cab : ∀ x c, X.fn x = true → X.env.cells.lookup x = some c → X.s₀.heap.objs.size ≤ c
  hd : X.calm = true → X.A.handled = none
  frames : X.A.frames = some X.stack
  stk : X.stack = X.outer ∨ (X.stack = X.env :: X.outer ∧ X.env.frame = some X.env.locals)
  exf : ∀ b ∈ X.ex, b ≠ X.env.locals ∧ ∀ x c, X.env.cells.lookup x = some c → c ≠ b
  bs : ∀ b o, X.base.get? b = some o → X.s₀.heap.get? b = some o ∧ X.H₀ b = none
  bsz : X.base.objs.size ≤ X.s₀.heap.objs.size
  noex : ∀ b o, X.base.get? b = some o → b ∉ X.ex
  exfs : ∀ b ∈ X.ex, b ∉ X.fs
  funs : X.s₀.heap.FunFrames X.base X.outer
  frf : ∀ b ∈ X.fs, X.H₀ b = none
structure Inv (X : Cx) (pins : List (Addr × Obj)) (σ : List (Option V)) (H : Hp) (s : Shared) : Prop where
  ok : X.Ok
  os : s.os = X.s₀.os
  bare : AllBare s.gens
  base : Un X.fs X.ex X.H₀ H X.s₀.heap s.heap
  loc : ∃ m, s.heap.Ns X.env.locals m ∧ ∀ (i : Nat) (x : Str) (v : V), X.N[i]? = some x → σ[i]? = some (some v) → Vis X.env.scope x → ∃ u, RelV v u ∧ Look X.env s.heap m x u
  cell : ∀ x c, X.env.cells.lookup x = some c → ∃ v, s.heap.IsCell c v
  free : H X.env.locals = none
  freeC : ∀ x c, X.env.cells.lookup x = some c → H c = none
  pin : ∀ p ∈ X.pn ++ pins, s.heap.get? p.1 = some p.2 ∧ H p.1 = none ∧ p.1 ≠ X.env.locals ∧ p.1 ∉ X.fs ∧ ∀ v, p.2.data ≠ .cell v
  hok : HOk X.prog X.w H s.heap
  len : σ.length = X.N.length
section
variable {X : Cx} {pins : List (Addr × Obj)} {σ : List (Option V)} {H H' : Hp} {s : Shared} {h' : Heap}
theorem Cx.Ok.nofr (ok : X.Ok) {b : Addr} {o : Obj} (e : X.base.get? b = some o) : b ∉ X.fs := fun hb => by
  have := (ok.funs.mem hb).1
  rw [e] at this; cases this
theorem Inv.bs (I : Inv X pins σ H s) : ∀ b o, X.base.get? b = some o → s.heap.get? b = some o ∧ H b = none := fun b o e =>
  ⟨I.base.keep b o (I.ok.bs b o e).1 (I.ok.bs b o e).2 (I.ok.nofr e) (I.ok.noex b o e), I.base.free b o (I.ok.bs b o e).1 (I.ok.bs b o e).2 (I.ok.noex b o e)⟩
theorem Inv.bk (I : Inv X pins σ H s) : ∀ b o, X.base.get? b = some o → s.heap.get? b = some o := fun b o e => (I.bs b o e).1
theorem Inv.mod (I : Inv X pins σ H s) : Mod X.K X.mg X.base := I.ok.mod
theorem Inv.kIn (I : Inv X pins σ H s) : X.K.In s.heap := I.ok.mod.kin.keeps I.bk
theorem Inv.lt (I : Inv X pins σ H s) : X.env.locals < s.heap.objs.size := let ⟨_, hn, _⟩ := I.loc; hn.lt
theorem Inv.sz (I : Inv X pins σ H s) : X.s₀.heap.objs.size ≤ s.heap.objs.size := Nat.le_trans I.ok.above (Nat.le_of_lt I.lt)
theorem Inv.nofs (I : Inv X pins σ H s) {a : Addr} (h : s.heap.objs.size ≤ a) : a ∉ X.fs := fun hb => by
  obtain ⟨_, o, ho, _⟩ := I.ok.funs.mem hb
  exact absurd (Nat.lt_of_lt_of_le (Heap.lt_size ho) (Nat.le_trans I.sz h)) (Nat.lt_irrefl _)
theorem Inv.cne (I : Inv X pins σ H s) : ∀ x c, X.env.cells.lookup x = some c → c ≠ X.env.locals := fun x c e z => by
  obtain ⟨v, o, ho, hd⟩ := I.cell x c e
  obtain ⟨m, ⟨o', es, ep, ho', hd', _⟩, _⟩ := I.loc
  rw [z, ho'] at ho; cases ho; rw [hd'] at hd; cases hd
theorem Inv.funs (I : Inv X pins σ H s) : s.heap.FunFrames X.base X.outer := by
  have all : ∀ (l : List Env), (∀ b ∈ frs l, b ∈ X.fs) → X.s₀.heap.FunFrames X.base l → s.heap.FunFrames X.base l := by
    intro l
    induction l with
    | nil => intro _ _; trivial
    | cons env r ih =>
      intro hs hl
      obtain ⟨hk, ⟨L, o, hf, hn, ho, hd⟩, hr⟩ := hl
      have hL : L ∈ X.fs := hs L (by unfold frs; rw [List.filterMap_cons, hf]; exact List.mem_cons_self)
      obtain ⟨sl, e⟩ := I.base.slot L o ho (I.ok.frf L hL) hL fun z => I.ok.exfs L z hL
      exact ⟨hk, ⟨L, _, hf, hn, e, hd⟩, ih (fun b hb => hs b (by unfold frs; rw [List.filterMap_cons, hf]; exact List.mem_cons_of_mem _ hb)) hr⟩
  exact all X.outer (fun _ hb => hb) I.ok.funs
theorem Inv.stack (I : Inv X pins σ H s) : s.heap.FunFrames X.base X.stack := by
  rcases I.ok.stk with e | ⟨e, hf⟩
  · rw [e]; exact I.funs
  · rw [e]
    obtain ⟨m, hn, _⟩ := I.loc
    refine .cons (by rw [I.ok.kind]; decide) hf hn ?_ I.funs
    exact Heap.get?_none_of_le (Nat.le_trans I.ok.bsz I.ok.above)
theorem Inv.stkSub (I : Inv X pins σ H s) : ∀ b ∈ frs X.stack, b ∈ X.env.locals :: X.fs := fun b hb => by
  rcases I.ok.stk with e | ⟨e, hf⟩
  · rw [e] at hb; exact List.mem_cons_of_mem _ hb
  · rw [e] at hb
    unfold frs at hb
    rw [List.filterMap_cons, hf] at hb
    exact hb
theorem Inv.stkFree (I : Inv X pins σ H s) : ∀ b ∈ frs X.stack, H b = none := fun b hb => by
  rcases List.mem_cons.mp (I.stkSub b hb) with e | hb
  · rw [e]; exact I.free
  · obtain ⟨_, o, ho, _⟩ := I.ok.funs.mem hb
    exact I.base.free b o ho (I.ok.frf b hb) fun z => I.ok.exfs b z hb
theorem Inv.step {g' : Array GenState} {t' : Nat} {d' : Drawn} {ch : List Addr} (I : Inv X pins σ H s)
    (hch : ∀ b ∈ ch, (b ∈ X.ex ∨ X.s₀.heap.objs.size ≤ b) ∧ b ≠ X.env.locals ∧ (∀ x c, X.env.cells.lookup x = some c → c ≠ b) ∧ ∀ p ∈ X.pn ++ pins, p.1 ≠ b)
    (keep : ∀ b o, b ≠ X.env.locals → b ∉ X.fs → b ∉ ch → s.heap.get? b = some o → H b = none → h'.get? b = some o)
    (slot : ∀ b o, b ≠ X.env.locals → b ∈ X.fs → b ∉ ch → s.heap.get? b = some o → H b = none → ∃ sl, h'.get? b = some { o with slots := sl }) (free : ∀ b o, b ∉ ch → s.heap.get? b = some o → H b = none → H' b = none)
    (there : ∀ b o, b ∉ ch → s.heap.get? b = some o → ∃ o', h'.get? b = some o')
    (tups : ∀ b xs, H b = some (.tup xs) → H' b = some (.tup xs)) (frzs : ∀ b o u, H b = some (.frz o u) → H' b = some (.frz o u)) (tbls : ∀ b ps, H b = some (.tbl ps) → ∃ more, H' b = some (.tbl (ps ++ more)))
    (ns : ∀ m, s.heap.Ns X.env.locals m → h'.Ns X.env.locals m) (hok : HOk X.prog X.w H' h') (hg : AllBare g') :
    Inv X pins σ H' { s with heap := h', gens := g', drawn := d', toks := t' } := by
  have neL : ∀ b o, X.s₀.heap.get? b = some o → b ≠ X.env.locals := fun b o e => Nat.ne_of_lt (Nat.lt_of_lt_of_le (Heap.lt_size e) I.ok.above)
  have neC : ∀ b o, X.s₀.heap.get? b = some o → b ∉ X.ex → b ∉ ch := fun b o e hx hb => by
    rcases (hch b hb).1 with z | z
    · exact hx z
    · exact absurd (Nat.lt_of_lt_of_le (Heap.lt_size e) z) (Nat.lt_irrefl _)
  have cellK : ∀ x c, X.env.cells.lookup x = some c → ∀ v, s.heap.IsCell c v → h'.IsCell c v := fun x c e v ⟨o, ho, hd⟩ => by
    have nch : c ∉ ch := fun z => (hch c z).2.2.1 x c e rfl
    by_cases hc : c ∈ X.fs
    · obtain ⟨sl, q⟩ := slot c o (I.cne x c e) hc nch ho (I.freeC x c e)
      exact ⟨_, q, hd⟩
    · exact ⟨o, keep c o (I.cne x c e) hc nch ho (I.freeC x c e), hd⟩
  refine ⟨I.ok, I.os, hg, ⟨fun b o e n hb hx => ?_, fun b o e n hb hx => ?_, fun b o e n hx => ?_, fun b o e hx => ?_, fun b xs e => tups b xs (I.base.tups b xs e), fun b o xs e => frzs b o xs (I.base.frzs b o xs e), fun b ps e => ?_⟩, ?_, fun x c e => ?_, ?_, fun x c e => ?_, fun p hp => ?_, hok, I.len⟩
  · exact keep b o (neL b o e) hb (neC b o e hx) (I.base.keep b o e n hb hx) (I.base.free b o e n hx)
  · obtain ⟨sl, e1⟩ := I.base.slot b o e n hb hx
    obtain ⟨sl', e2⟩ := slot b _ (neL b o e) hb (neC b o e hx) e1 (I.base.free b o e n hx)
    exact ⟨sl', e2⟩
  · obtain ⟨o', e1⟩ := I.base.there b o e hx
    exact free b o' (neC b o e hx) e1 (I.base.free b o e n hx)
  · obtain ⟨o', e1⟩ := I.base.there b o e hx
    exact there b o' (neC b o e hx) e1
  · obtain ⟨m1, e1⟩ := I.base.tbls b ps e
    obtain ⟨m2, e2⟩ := tbls b _ e1
    exact ⟨m1 ++ m2, by rw [e2, Array.append_assoc]⟩
  · obtain ⟨m, hn, hl⟩ := I.loc
    refine ⟨m, ns m hn, fun i x v e1 e2 e3 => ?_⟩
    obtain ⟨u, r, l⟩ := hl i x v e1 e2 e3
    refine ⟨u, r, ?_⟩
    rcases l with l | ⟨k, c, e, z⟩
    · exact .inl l
    · exact .inr ⟨k, c, e, cellK x c e _ z⟩
  · obtain ⟨v, z⟩ := I.cell x c e
    exact ⟨v, cellK x c e v z⟩
  · obtain ⟨m, ⟨o, _, _, ho, _⟩, _⟩ := I.loc
    exact free _ o (fun z => (hch _ z).2.1 rfl) ho I.free
  · obtain ⟨v, o, ho, hd⟩ := I.cell x c e
    exact free c o (fun z => (hch c z).2.2.1 x c e rfl) ho (I.freeC x c e)
  · obtain ⟨e, n, ne, nf, d⟩ := I.pin p hp
    have nch : p.1 ∉ ch := fun z => (hch p.1 z).2.2.2 p hp rfl
    exact ⟨keep p.1 p.2 ne nf nch e n, free p.1 p.2 nch e n, ne, nf, d⟩
theorem Inv.un {t' : Nat} (I : Inv X pins σ H s) (u : Un X.fs [] H H' s.heap h') (hok : HOk X.prog X.w H' h') : Inv X pins σ H' { s with heap := h', toks := t' } := by
  obtain ⟨m, ⟨o, es, ep, ho, r⟩, _⟩ := id I.loc
  obtain ⟨sl, hL⟩ := u.any ho I.free (by simp)
  exact I.step (g' := s.gens) (d' := s.drawn) (ch := []) (fun _ z => nomatch z) (fun b o _ hb _ e n => u.keep b o e n hb (by simp)) (fun b o _ hb _ e n => u.slot b o e n hb (by simp)) (fun b o _ e n => u.free b o e n (by simp)) (fun b o _ e => u.there b o e (by simp)) u.tups u.frzs u.tbls (fun m' hm => by
    obtain ⟨o', es', ep', ho', r'⟩ := hm
    rw [ho] at ho'; cases ho'
    exact ⟨_, es', ep', hL, r'⟩) hok I.bare
theorem Inv.call {g' : Array GenState} {t' : Nat} {d' : Drawn} {ch : List Addr} (I : Inv X pins σ H s) (u : Un (frs X.stack) ch H H' s.heap h') (hok : HOk X.prog X.w H' h') (hg : AllBare g')
    (hch : ∀ b ∈ ch, (b ∈ X.ex ∨ X.s₀.heap.objs.size ≤ b) ∧ b ≠ X.env.locals ∧ (∀ x c, X.env.cells.lookup x = some c → c ≠ b) ∧ ∀ p ∈ X.pn ++ pins, p.1 ≠ b) :
    Inv X pins σ H' { s with heap := h', gens := g', drawn := d', toks := t' } := by
  obtain ⟨m, ⟨o, es, ep, ho, r⟩, _⟩ := id I.loc
  obtain ⟨sl, hL⟩ := u.any ho I.free fun z => (hch _ z).2.1 rfl
  exact I.step (ch := ch) hch (fun b o hL hb hc e n => u.keep b o e n (fun z => (List.mem_cons.mp (I.stkSub b z)).elim hL hb) hc) (fun b o _ _ hc e n => u.any e n hc) (fun b o hc e n => u.free b o e n hc) (fun b o hc e => u.there b o e hc) u.tups u.frzs u.tbls (fun m' hm => by
    obtain ⟨o', es', ep', ho', r'⟩ := hm
    rw [ho] at ho'; cases ho'
    exact ⟨_, es', ep', hL, r'⟩) hok hg
theorem Inv.turned {t' : Nat} {it : Addr} (I : Inv X pins σ H s) (k : ∀ b o, b ≠ it → s.heap.get? b = some o → h'.get? b = some o) (hn : H it = none) (hL : it ≠ X.env.locals)
    (h1 : it ∈ X.ex ∨ X.s₀.heap.objs.size ≤ it) (h2 : ∀ x c, X.env.cells.lookup x = some c → c ≠ it) (h3 : ∀ p ∈ X.pn ++ pins, p.1 ≠ it) : Inv X pins σ H { s with heap := h', toks := t' } := by
  have nit : ∀ b u, H b = some u → b ≠ it := fun b u e z => by rw [z, hn] at e; cases e
  refine I.step (g' := s.gens) (d' := s.drawn) (ch := [it]) (fun b hb => ?_) (fun b o _ _ hc e _ => k b o (fun z => hc (by simp [z])) e) (fun b o _ _ hc e _ => ⟨o.slots, k b o (fun z => hc (by simp [z])) e⟩) (fun _ _ _ _ n => n)
    (fun b o hc e => ⟨o, k b o (fun z => hc (by simp [z])) e⟩) (fun _ _ e => e) (fun _ _ _ e => e) (fun b ps e => ⟨#[], by rw [e]; simp⟩) (fun m hm => ?_) (fun b u e => ?_) I.bare
  · have e : b = it := by simpa using hb
    subst e
    exact ⟨h1, hL, h2, h3⟩
  · obtain ⟨o, es, ep, ho, r⟩ := hm
    exact ⟨o, es, ep, k _ o (Ne.symm hL) ho, r⟩
  · refine (I.hok b u e).stay (fun c v hc q => k c v ?_ q) (fun _ q => q) fun _ _ q => q
    rcases hc with z | z
    · rw [z]; exact nit b u e
    · exact nit c _ z
theorem Inv.tok (I : Inv X pins σ H s) (t : Nat) : Inv X pins σ H { s with toks := t } := I.un (h' := s.heap) (t' := t) Un.refl I.hok
theorem Inv.kept {t' : Nat} (I : Inv X pins σ H s) (k : ∀ b u, s.heap.get? b = some u → h'.get? b = some u) : Inv X pins σ H { s with heap := h', toks := t' } := I.un (Un.kept k) (I.hok.kept k)
theorem Inv.laid {a : Addr} {o : HO} {t' : Nat} (I : Inv X pins σ H s) (k : ∀ b u, s.heap.get? b = some u → h'.get? b = some u) (hp : s.heap.objs.size ≤ a) (new : ObjOk X.prog X.w (upd H a o) h' a o) :
    Inv X pins σ (upd H a o) { s with heap := h', toks := t' } := I.un (Un.laid k hp (I.hok.fresh hp)) (I.hok.laid k hp new)
theorem Inv.write {x e : Addr} {o : HO} {t' : Nat} (I : Inv X pins σ H s) (mu : Mut (H x)) (he : e = x ∨ H e = some (.own x)) (k : ∀ b u, b ≠ e → s.heap.get? b = some u → h'.get? b = some u) (heo : ∃ u, h'.get? e = some u)
    (new : ObjOk X.prog X.w (upd H x o) h' x o) : Inv X pins σ (upd H x o) { s with heap := h', toks := t' } := I.un (Un.write mu he k heo) (I.hok.write mu he k heo new)
theorem Inv.pins_of {pins' : List (Addr × Obj)} (I : Inv X pins σ H s) (h : ∀ p ∈ pins', s.heap.get? p.1 = some p.2 ∧ H p.1 = none ∧ p.1 ≠ X.env.locals ∧ p.1 ∉ X.fs ∧ ∀ v, p.2.data ≠ .cell v) : Inv X pins' σ H s :=
  ⟨I.ok, I.os, I.bare, I.base, I.loc, I.cell, I.free, I.freeC, fun p hp => (List.mem_append.mp hp).elim (fun z => I.pin p (List.mem_append_left _ z)) (h p), I.hok, I.len⟩
theorem nodup_ix {N : List Str} (hN : N.Nodup) {i j : Nat} {x : Str} (a : N[i]? = some x) (b : N[j]? = some x) : i = j := by
  obtain ⟨h1, e1⟩ := List.getElem?_eq_some_iff.mp a
  obtain ⟨h2, e2⟩ := List.getElem?_eq_some_iff.mp b
  exact (List.getElem_inj hN).mp (e1.trans e2.symm)
theorem store_ok2 {M : Model} {A : Around} {E : Value → Shared → Prop} {i : Nat} {x : Str} {v : V} {u : Value} {Q : Unit → Shared → Prop} (I : Inv X pins σ H s) (hN : X.N.Nodup) (hi : X.N[i]? = some x) (hx : Loc X.env.scope x) (r : RelV v u)
    (h : ∀ s', Inv X pins (σ.set i (some v)) H s' → (∃ a, Heap.SameBut a s.heap s'.heap ∧ (a = X.env.locals ∨ X.env.cells.lookup x = some a)) → Q () s') (hf : X.fn x = true ∨ X.env.scope.names.lookup x = some .local := by first | exact .inl rfl | exact .inr rfl | assumption) : wpAny M A (storeName X.env x u) Q E s := by
  obtain ⟨m, hn, hl⟩ := id I.loc
  have hcls : (X.env.scope.kind == .class || (X.env.scope.kind == .module && X.env.locals != X.env.globals)) = false := by rw [I.ok.kind]; rfl
  have hiσ : i < σ.length := by rw [I.len]; exact (List.getElem?_eq_some_iff.mp hi).1
  have cne := I.cne
  have tracked : ∀ {a : Addr} {h' : Heap}, (∃ o, s.heap.get? a = some o ∧ H a = none) → Heap.SameBut a s.heap h' → HOk X.prog X.w H h' := fun {a h'} ha hs b ob e => by
    obtain ⟨_, _, hfree⟩ := ha
    refine (I.hok b ob e).stay (fun c w' hc q => (hs.2 c ?_).trans q) (fun _ q => q) fun _ _ q => q
    rintro rfl
    rcases hc with rfl | hc
    · rw [hfree] at e; cases e
    · rw [hfree] at hc; cases hc
  rcases hx with hk | hk
  · refine wpAny_storeName_local hk hn (fun h' hn' hs => ?_) hcls
    obtain ⟨oL, _, _, hoL, _⟩ := id hn
    refine h _ ⟨I.ok, I.os, I.bare, ⟨fun b o e n hb hx => ?_, fun b o e n hb hx => ?_, I.base.free, fun b o e hx => ?_, I.base.tups, I.base.frzs, I.base.tbls⟩, ⟨_, hn', fun j y v' e1 e2 e3 => ?_⟩, fun y c e => ?_, I.free, I.freeC, fun p hp => ?_, tracked ⟨oL, hoL, I.free⟩ hs, by simpa using I.len⟩ ⟨_, hs, .inl rfl⟩
    · exact (hs.2 b (Nat.ne_of_lt (Nat.lt_of_lt_of_le (Heap.lt_size e) I.ok.above))).trans (I.base.keep b o e n hb hx)
    · obtain ⟨sl, e1⟩ := I.base.slot b o e n hb hx
      exact ⟨sl, (hs.2 b (Nat.ne_of_lt (Nat.lt_of_lt_of_le (Heap.lt_size e) I.ok.above))).trans e1⟩
    · obtain ⟨o', e1⟩ := I.base.there b o e hx
      exact ⟨o', (hs.2 b (Nat.ne_of_lt (Nat.lt_of_lt_of_le (Heap.lt_size e) I.ok.above))).trans e1⟩
    · by_cases hj : j = i
      · subst hj
        rw [hi] at e1; cases e1
        rw [List.getElem?_set_self hiσ] at e2
        cases e2
        exact ⟨u, r, .inl ⟨hk, by simp⟩⟩
      · rw [List.getElem?_set_ne (Ne.symm hj)] at e2
        obtain ⟨u', r', q⟩ := hl j y v' e1 e2 e3
        refine ⟨u', r', ?_⟩
        rcases q with ⟨k, e⟩ | ⟨k, c, e, z⟩
        · refine .inl ⟨k, ?_⟩
          have : y ≠ x := fun e => hj (nodup_ix hN e1 (e ▸ hi))
          simp [this, e]
        · exact .inr ⟨k, c, e, z.sameBut hs (cne y c e)⟩
    · obtain ⟨w', z⟩ := I.cell y c e
      exact ⟨w', z.sameBut hs (cne y c e)⟩
    · obtain ⟨e, n, ne, nf, d⟩ := I.pin p hp
      exact ⟨(hs.2 p.1 ne).trans e, n, ne, nf, d⟩
  · have hfn : X.fn x = true := by
      rcases hf with z | z
      · exact z
      · rw [z] at hk; cases hk
    obtain ⟨c, hc⟩ := I.ok.has x (.inl hk)
    obtain ⟨w', z⟩ := I.cell x c hc
    refine wpAny_storeName_cell I.ok.kind hk hc z (fun h' hc' hs => ?_)
    obtain ⟨oc, hoc, hocd⟩ := id z
    refine h { s with heap := h' } ⟨I.ok, I.os, I.bare, ⟨fun b o e n hb hx => ?_, fun b o e n hb hx => ?_, I.base.free, fun b o e hx => ?_, I.base.tups, I.base.frzs, I.base.tbls⟩, ⟨m, hn.sameBut hs (Ne.symm (cne x c hc)), fun j y v' e1 e2 e3 => ?_⟩, fun y c' e => ?_, I.free, I.freeC, fun p hp => ?_, tracked ⟨oc, hoc, I.freeC x c hc⟩ hs, by simpa using I.len⟩ ⟨c, hs, .inr hc⟩
    · exact (hs.2 b (Nat.ne_of_lt (Nat.lt_of_lt_of_le (Heap.lt_size e) (I.ok.cab x c hfn hc)))).trans (I.base.keep b o e n hb hx)
    · obtain ⟨sl, e1⟩ := I.base.slot b o e n hb hx
      exact ⟨sl, (hs.2 b (Nat.ne_of_lt (Nat.lt_of_lt_of_le (Heap.lt_size e) (I.ok.cab x c hfn hc)))).trans e1⟩
    · obtain ⟨o', e1⟩ := I.base.there b o e hx
      exact ⟨o', (hs.2 b (Nat.ne_of_lt (Nat.lt_of_lt_of_le (Heap.lt_size e) (I.ok.cab x c hfn hc)))).trans e1⟩
    · by_cases hj : j = i
      · subst hj
        rw [hi] at e1; cases e1
        rw [List.getElem?_set_self hiσ] at e2
        cases e2
        exact ⟨u, r, .inr ⟨.inl hk, c, hc, hc'⟩⟩
      · rw [List.getElem?_set_ne (Ne.symm hj)] at e2
        obtain ⟨u', r', q⟩ := hl j y v' e1 e2 e3
        refine ⟨u', r', ?_⟩
        rcases q with q | ⟨k, c', e, z'⟩
        · exact .inl q
        · refine .inr ⟨k, c', e, z'.sameBut hs ?_⟩
          rintro rfl
          exact hj (nodup_ix hN e1 (I.ok.inj _ _ _ e hc ▸ hi))
    · by_cases hcc : c' = c
      · subst hcc; exact ⟨_, hc'⟩
      · obtain ⟨w2, z2⟩ := I.cell y c' e
        exact ⟨w2, z2.sameBut hs hcc⟩
    · obtain ⟨e, n, ne, nf, d⟩ := I.pin p hp
      refine ⟨(hs.2 p.1 ?_).trans e, n, ne, nf, d⟩
      intro q
      rw [q, hoc] at e
      have q' : oc = p.2 := Option.some.inj e
      exact d w' (by rw [← q']; exact hocd)
theorem store_ok {M : Model} {A : Around} {E : Value → Shared → Prop} {i : Nat} {x : Str} {v : V} {u : Value} {Q : Unit → Shared → Prop} (I : Inv X pins σ H s) (hN : X.N.Nodup) (hi : X.N[i]? = some x) (hx : Loc X.env.scope x) (r : RelV v u)
    (h : ∀ s', Inv X pins (σ.set i (some v)) H s' → Q () s') (hf : X.fn x = true ∨ X.env.scope.names.lookup x = some .local := by first | exact .inl rfl | exact .inr rfl | assumption) : wpAny M A (storeName X.env x u) Q E s :=
  store_ok2 I hN hi hx r (fun s' I' _ => h s' I') hf
end
noncomputable abbrev XK := Value → Option Addr → Hp → Prop
noncomputable abbrev St := List (Option V)
noncomputable abbrev VK := V → Hp → Prop
noncomputable abbrev TE := St → Hp → VK → Prop
noncomputable abbrev TT := St → Hp → (Bool → Hp → Prop) → Prop
noncomputable abbrev TA := St → Hp → (List V → Hp → Prop) → Prop
set_option genInjectivity false in
structure Ends where
  nx : St → Hp → Prop
  rt : VK
  bk : St → Hp → Prop := fun _ _ => False
  ct : St → Hp → Prop := fun _ _ => False
noncomputable abbrev TS := Ends → St → Hp → Prop
noncomputable def EP (X : Cx) (pins : List (Addr × Obj)) (σ : St) (Q : VK) (u : Value) (s' : Shared) : Prop := ∃ v H', Inv X pins σ H' s' ∧ RelV v u ∧ Q v H'
noncomputable def TP (X : Cx) (pins : List (Addr × Obj)) (σ : St) (Q : Bool → Hp → Prop) (b : Bool) (s' : Shared) : Prop := ∃ H', Inv X pins σ H' s' ∧ Q b H'
noncomputable def AP (X : Cx) (pins : List (Addr × Obj)) (σ : St) (Q : List V → Hp → Prop) (us : List Value) (s' : Shared) : Prop := ∃ vs H', Inv X pins σ H' s' ∧ Vals vs us ∧ Q vs H'
noncomputable def SP (X : Cx) (pins : List (Addr × Obj)) (D : Ends) (f : Flow) (s' : Shared) : Prop :=
  match f with
  | .next => ∃ σ' H', Inv X pins σ' H' s' ∧ D.nx σ' H'
  | .brk => ∃ σ' H', Inv X pins σ' H' s' ∧ D.bk σ' H'
  | .cont => ∃ σ' H', Inv X pins σ' H' s' ∧ D.ct σ' H'
  | .ret u => ∃ v σ' H', Inv X pins σ' H' s' ∧ RelV v u ∧ D.rt v H'
noncomputable def PE (X : Cx) (e : Expr) (t : TE) : Prop :=
  ∀ (pins : List (Addr × Obj)) (s : Shared) (σ : St) (H : Hp) (Q : VK), Inv X pins σ H s → t σ H Q → wpAny (model X.prog X.w) X.A (eval e X.env) (EP X pins σ Q) X.xe s
noncomputable def PT (X : Cx) (e : Expr) (t : TT) : Prop :=
  ∀ (pins : List (Addr × Obj)) (s : Shared) (σ : St) (H : Hp) (Q : Bool → Hp → Prop), Inv X pins σ H s → t σ H Q → wpAny (model X.prog X.w) X.A (isTrue e X.env (eval e X.env)) (TP X pins σ Q) X.xe s
noncomputable def PW (X : Cx) (e : Expr) (t : TT) : Prop :=
  ∀ (whole : Sem Value) (pins : List (Addr × Obj)) (s : Shared) (σ : St) (H : Hp) (Q : Bool → Hp → Prop), Inv X pins σ H s → t σ H Q → wpAny (model X.prog X.w) X.A (isTrue e X.env whole) (TP X pins σ Q) X.xe s
theorem PW.pt {X : Cx} {e : Expr} {t : TT} (h : PW X e t) : PT X e t := h _
noncomputable def PA (X : Cx) (es : List Expr) (t : TA) : Prop :=
  ∀ (pos : Pos) (pins : List (Addr × Obj)) (s : Shared) (σ : St) (H : Hp) (Q : List V → Hp → Prop), Inv X pins σ H s → t σ H Q → wpAny (model X.prog X.w) X.A (spliced (backTo pos (starEach es X.env))) (AP X pins σ Q) X.xe s
noncomputable def PS (X : Cx) (st : Stmt) (t : TS) : Prop :=
  ∀ (pins : List (Addr × Obj)) (s : Shared) (σ : St) (H : Hp) (D : Ends), Inv X pins σ H s → t D σ H → wpAny (model X.prog X.w) X.A (exec st X.env) (SP X pins D) X.xe s
noncomputable def PSs (X : Cx) (st : List Stmt) (t : TS) : Prop :=
  ∀ (pins : List (Addr × Obj)) (s : Shared) (σ : St) (H : Hp) (D : Ends), Inv X pins σ H s → t D σ H → wpAny (model X.prog X.w) X.A (execs st X.env) (SP X pins D) X.xe s
theorem thn {α : Type} {t : Sem α} {Q Q' : α → Shared → Prop} {M : Model} {A : Around} {E : Value → Shared → Prop} {s : Shared} (h : wpAny M A t Q E s) (hQ : ∀ a s, Q a s → Q' a s) : wpAny M A t Q' E s := wpAny_mono h hQ fun _ _ x => x
end L2
namespace L2
open PySem PySem.Spec PyProof.Rows
section
variable {X : Cx}
noncomputable def tVar (i : Nat) : TE := fun σ H Q => ∃ v, σ[i]? = some (some v) ∧ Q v H
noncomputable def tC (v : V) : TE := fun _ H Q => Q v H
theorem pe_var {i : Nat} {x : Str} {pos : Pos} (hN : X.N[i]? = some x) (hv : Vis X.env.scope x) (hd : (x == ("__debug__" : Str)) = false := by decide) (hcd : (x == ("__classdict__" : Str)) = false := by decide) : PE X (.Name x pos) (tVar i) := by
  intro pins s σ H Q I h
  obtain ⟨v, e, h⟩ := h
  obtain ⟨m, hn, hl⟩ := I.loc
  obtain ⟨u, r, l⟩ := hl i x v hN e hv
  have fin : EP X pins σ Q u s := ⟨v, H, I, r, h⟩
  rcases l with ⟨hk, hm⟩ | ⟨hk, c, hc, hcell⟩
  · exact wpAny_Name (wpAny_loadName_local I.ok.kind hk hn hm fin) hd
  · rcases hk with hk | hk
    · exact wpAny_Name (wpAny_loadName_cell I.ok.kind hk hc hcell fin) hd
    · exact wpAny_Name (wpAny_loadName_free I.ok.kind hk hc hcell fin hcd) hd
theorem pe_int {i j pos} : PE X (.Constant (.int i) j pos) (tC (.int i)) := fun _ _ _ H _ I h => wpAny_Constant_int ⟨.int i, H, I.tok _, ⟨_, rfl⟩, h⟩
theorem pe_bl {b j pos} : PE X (.Constant (.bool b) j pos) (tC (.bl b)) := fun _ _ _ H _ I h => Constant_bool ⟨.bl b, H, I, rfl, h⟩
theorem pe_str {x j pos} : PE X (.Constant (.str x) j pos) (tC (.str x)) := fun _ _ _ H _ I h => Calls.Constant_str ⟨.str x, H, I.tok _, ⟨_, rfl⟩, h⟩
noncomputable def Gl (X : Cx) (x : Str) : Prop := X.env.kindOf x = some .globalImplicit
theorem ld_glob {E : Value → Shared → Prop} {pins : List (Addr × Obj)} {s : Shared} {σ : St} {H : Hp} {x : Str} {u : Value} {pos : Pos} {Q : Value → Shared → Prop} (I : Inv X pins σ H s) (hg : Gl X x) (hm : X.mg x = some u) (h : Q u s)
    (hd : (x == ("__debug__" : Str)) = false := by decide) : wpAny (model X.prog X.w) X.A (eval (.Name x pos) X.env) Q E s :=
  Calls.Name_function_global I.ok.kind hg (Calls.loadGlobal_global (by rw [I.ok.glob]; exact I.mod.glob.keeps I.bk) hm h) hd
theorem ld_blt {E : Value → Shared → Prop} {pins : List (Addr × Obj)} {s : Shared} {σ : St} {H : Hp} {x : Str} {u : Value} {pos : Pos} {Q : Value → Shared → Prop} (I : Inv X pins σ H s) (hg : Gl X x) (hm : X.mg x = none) (hv : bootBuiltins x = some u) (h : Q u s)
    (hn : x ≠ "__name__" := by decide) (hd : (x == ("__debug__" : Str)) = false := by decide) : wpAny (model X.prog X.w) X.A (eval (.Name x pos) X.env) Q E s := by
  obtain ⟨mb, h1, h2⟩ := I.mod.blt
  exact Calls.Name_function_global I.ok.kind hg (Calls.loadGlobal_builtin (by rw [I.ok.glob]; exact I.mod.glob.keeps I.bk) hm (by rw [I.ok.blt]; exact h1.keeps I.bk) ((h2 x hn).trans hv) h) hd
theorem pe_bltn {x : Str} {v : V} {u : Value} {pos : Pos} (hg : Gl X x) (hm : X.mg x = none) (hv : bootBuiltins x = some u) (r : RelV v u) (hn : x ≠ "__name__" := by decide) (hd : (x == ("__debug__" : Str)) = false := by decide) : PE X (.Name x pos) (tC v) :=
  fun _ _ _ H _ I h => ld_blt I hg hm hv ⟨v, H, I, r, h⟩ hn hd
noncomputable def t2I (ta tb : TE) (k : Int → Int → Hp → Prop) : St → Hp → Prop := fun σ H => ta σ H fun x H1 => tb σ H1 fun y H2 => ∃ i j, x = .int i ∧ y = .int j ∧ k i j H2
variable {a b : Expr} {ta tb : TE} {pos : Pos}
noncomputable def tCmp (p : Int → Int → Bool) (ta tb : TE) : TE := fun σ H Q => t2I ta tb (fun i j H2 => Q (.bl (p i j)) H2) σ H
noncomputable abbrev tLt : TE → TE → TE := tCmp fun i j => decide (i < j)
noncomputable abbrev tLe : TE → TE → TE := tCmp fun i j => decide (i ≤ j)
noncomputable abbrev tGt : TE → TE → TE := tCmp fun i j => decide (j < i)
noncomputable abbrev tGe : TE → TE → TE := tCmp fun i j => decide (j ≤ i)
noncomputable abbrev tEqI : TE → TE → TE := tCmp fun i j => decide (i = j)
noncomputable abbrev tNeI : TE → TE → TE := tCmp fun i j => !decide (i = j)
noncomputable def tB (t : TE) : TT := fun σ H Q => t σ H fun x H1 => ∃ c, x = .bl c ∧ Q c H1
variable {tA tB' : TT} {rest : List Expr}
noncomputable def tOr (t u : TT) : TT := fun σ H Q => t σ H fun c H1 => if c = true then Q true H1 else u σ H1 Q
noncomputable def tNot (t : TT) : TT := fun σ H Q => t σ H fun c H1 => Q (!c) H1
theorem pw_or1 (ha : PT X a tA) : PW X (.BoolOp .Or [a] pos) tA := by
  intro wh pins s σ H Q I h
  refine isTrue_or (thn (ha pins s σ H Q I h) fun c s1 e => ?_)
  cases c with
  | false => exact isTrue_or_nil e
  | true => exact e
theorem pw_or (ha : PT X a tA) (hb : PW X (.BoolOp .Or (b :: rest) pos) tB') : PW X (.BoolOp .Or (a :: b :: rest) pos) (tOr tA tB') := by
  intro wh pins s σ H Q I h
  refine isTrue_or (thn (ha pins s σ H _ I h) fun c s1 qz9 => ?_)
  obtain ⟨H1, I1, q1⟩ := qz9
  cases c with
  | true => exact ⟨H1, I1, q1⟩
  | false => exact hb wh pins s1 σ H1 Q I1 q1
theorem pt_not (ha : PT X a tA) : PT X (.UnaryOp .Not a pos) (tNot tA) := by
  intro pins s σ H Q I h
  exact isTrue_not (ha pins s σ H (fun c H1 => Q (!c) H1) I h)
end
end L2
namespace L2
open PySem PySem.Spec PyProof.Rows
noncomputable def SqL (K : PySem.W.Frag) (H : Hp) (a : Addr) (xs : List V) : Prop :=
  Rd H a (.lst xs) ∨
    ∃ (o : Obj) (its : Array Value) (n : Nat), K.lookup a = some o ∧ o.cls = .type "list" ∧ o.dict = none ∧ o.data = .seq its n ∧ its.size ≤ sizeLine ∧ Vals xs its.toList
noncomputable def SqT (K : PySem.W.Frag) (H : Hp) (a : Addr) (xs : List V) : Prop :=
  Rd H a (.tup xs) ∨
    ∃ (o : Obj) (its : Array Value) (n : Nat), K.lookup a = some o ∧ o.cls = .type "tuple" ∧ o.data = .seq its n ∧ its.size ≤ sizeLine ∧ Vals xs its.toList
noncomputable def absV : Value → Option V
  | .none => some .non
  | .bool b => some (.bl b)
  | .int i _ => some (.int i)
  | .str x _ => some (.str x)
  | .bytes b _ => some (.byt b)
  | .float b _ => some (.flt b)
  | .ref a => some (.ref a)
  | .type n => some (.ty n)
  | _ => none
theorem RelV.abs {x : V} {u : Value} (r : RelV x u) : absV u = some x := by
  cases x with
  | non => cases r; rfl
  | bl _ => cases r; rfl
  | int _ => obtain ⟨t, rfl⟩ := r; rfl
  | str _ => obtain ⟨t, rfl⟩ := r; rfl
  | byt _ => obtain ⟨t, rfl⟩ := r; rfl
  | flt _ => obtain ⟨t, rfl⟩ := r; rfl
  | ref _ => cases r; rfl
  | ty _ => cases r; rfl
theorem RelV.inj {x y : V} {u : Value} (r : RelV x u) (q : RelV y u) : x = y := Option.some.inj (r.abs.symm.trans q.abs)
theorem Vals.inj {xs ys : List V} {us : List Value} (h : Vals xs us) (k : Vals ys us) : xs = ys := by
  induction h generalizing ys with
  | nil => cases k; rfl
  | cons r t ih =>
    cases k with
    | cons r' t' => rw [r.inj r', ih t']
section
variable {X : Cx} {pins : List (Addr × Obj)} {σ : St} {H : Hp} {s : Shared} {a : Addr} {xs ys : List V}
theorem Inv.list (I : Inv X pins σ H s) (h : SqL X.K H a xs) : ∃ its : List Value, Vals xs its ∧ PlainL s.heap a its.toArray ∧ xs.length ≤ sizeLine := by
  rcases h with h | ⟨o, its, n, hk, hc, hd, hs, hz, r⟩
  · obtain ⟨z, its, n, r, e⟩ := h.ok I.hok
    exact ⟨its, r, ⟨_, n, e, rfl, rfl, rfl⟩, z⟩
  · refine ⟨its.toList, r, ⟨o, n, I.kIn a o hk, hc, hd, by simpa using hs⟩, ?_⟩
    have e := r.length
    simp only [Array.length_toList] at e
    omega
theorem Inv.tuple (I : Inv X pins σ H s) (h : SqT X.K H a xs) : ∃ its : List Value, Vals xs its ∧ IsTup s.heap a its.toArray ∧ xs.length ≤ sizeLine := by
  rcases h with h | ⟨o, its, n, hk, hc, hs, hz, r⟩
  · obtain ⟨z, its, r, p⟩ := h.ok I.hok
    exact ⟨its, r, p, z⟩
  · refine ⟨its.toList, r, ⟨o, I.kIn a o hk, hc, n, by simpa using hs⟩, ?_⟩
    have e := r.length
    simp only [Array.length_toList] at e
    omega
theorem Inv.list_inj (I : Inv X pins σ H s) (h : SqL X.K H a xs) (h' : SqL X.K H a ys) : xs = ys := by
  obtain ⟨its, r, ⟨o, n, e, _, _, d⟩, _⟩ := I.list h
  obtain ⟨its', r', ⟨o', n', e', _, _, d'⟩, _⟩ := I.list h'
  rw [e] at e'; cases e'
  rw [d] at d'
  injection d' with d1 _
  have : its = its' := by simpa using congrArg Array.toList d1
  subst this
  exact r.inj r'
end
noncomputable abbrev Cx.wish (X : Cx) (E : Value → Shared → Prop) : Cx := { X with xe := E }
noncomputable abbrev Cx.nox (X : Cx) : Cx := X.wish fun _ _ => False
theorem Cx.Ok.wish {X : Cx} (ok : X.Ok) (E : Value → Shared → Prop) : (X.wish E).Ok :=
  ⟨ok.mod, ok.kind, ok.glob, ok.blt, ok.above, ok.inj, ok.has, ok.cab, ok.hd, ok.frames, ok.stk, ok.exf, ok.bs, ok.bsz, ok.noex, ok.exfs, ok.funs, ok.frf⟩
theorem Cx.Ok.unwish {X : Cx} {E : Value → Shared → Prop} (ok : (X.wish E).Ok) : X.Ok :=
  ⟨ok.mod, ok.kind, ok.glob, ok.blt, ok.above, ok.inj, ok.has, ok.cab, ok.hd, ok.frames, ok.stk, ok.exf, ok.bs, ok.bsz, ok.noex, ok.exfs, ok.funs, ok.frf⟩
section
variable {X : Cx} {pins : List (Addr × Obj)} {σ : St} {H : Hp} {s : Shared} {E : Value → Shared → Prop}
theorem Inv.wish (I : Inv X pins σ H s) (E : Value → Shared → Prop) : Inv (X.wish E) pins σ H s := ⟨I.ok.wish E, I.os, I.bare, I.base, I.loc, I.cell, I.free, I.freeC, I.pin, I.hok, I.len⟩
theorem Inv.unwish (I : Inv (X.wish E) pins σ H s) : Inv X pins σ H s := ⟨I.ok.unwish, I.os, I.bare, I.base, I.loc, I.cell, I.free, I.freeC, I.pin, I.hok, I.len⟩
theorem SP.unwish {D : Ends} {f : Flow} {s' : Shared} (h : SP (X.wish E) pins D f s') : SP X pins D f s' := by
  cases f with
  | next => obtain ⟨σ', H', I, q⟩ := h; exact ⟨σ', H', I.unwish, q⟩
  | brk => obtain ⟨σ', H', I, q⟩ := h; exact ⟨σ', H', I.unwish, q⟩
  | cont => obtain ⟨σ', H', I, q⟩ := h; exact ⟨σ', H', I.unwish, q⟩
  | ret u => obtain ⟨v, σ', H', I, r, q⟩ := h; exact ⟨v, σ', H', I.unwish, r, q⟩
theorem PSs.nox {st : List Stmt} {t : TS} (h : PSs X.nox st t) : PSs X st t := fun pins s σ H D I hw =>
  wpAny_mono (h pins s σ H D (I.wish _) hw) (fun _ _ q => q.unwish) fun _ _ z => False.elim z
end
section
variable {X : Cx} {st : Stmt} {rest : List Stmt} {t u : TS} {e : Expr} {te : TE} {pos : Pos}
noncomputable def tNext : TS := fun D σ H => D.nx σ H
noncomputable def tSeq (t u : TS) : TS := fun D σ H => t { D with nx := u D } σ H
theorem pss_nil : PSs X [] tNext := fun _ _ σ H _ I h => wpAny_execs_nil ⟨σ, H, I, h⟩
theorem pss_cons (h1 : PS X st t) (h2 : PSs X rest u) : PSs X (st :: rest) (tSeq t u) := by
  intro pins s σ H D I h
  refine wpAny_execs_cons (thn (h1 pins s σ H { D with nx := u D } I h) fun f s1 q => ?_)
  cases f with
  | next =>
    obtain ⟨σ', H', I', q⟩ := q
    exact h2 pins s1 σ' H' D I' q
  | ret v => exact q
  | brk => exact q
  | cont => exact q
theorem pss_one (h1 : PS X st t) : PSs X [st] t := by
  intro pins s σ H D I h
  refine wpAny_execs_cons (thn (h1 pins s σ H D I h) fun f s1 q => ?_)
  cases f with
  | next => exact wpAny_execs_nil q
  | ret v => exact q
  | brk => exact q
  | cont => exact q
theorem Inv.quiet {pins : List (Addr × Obj)} {σ : St} {H : Hp} {s : Shared} (I : Inv X pins σ H s) : interactive X.env = false := by simp [interactive, I.ok.kind]
noncomputable def tDrop (te : TE) : TS := fun D σ H => te σ H fun _ H1 => D.nx σ H1
theorem ps_expr (he : PE X e te) (hs : swapsWith e none pos.line X.env = pure false := by rfl) : PS X (.Expr e pos) (tDrop te) := by
  intro pins s σ H D I h
  refine wpAny_Expr_any (thn (he pins s σ H _ I h) fun v s1 qz9 => ?_) I.quiet hs
  obtain ⟨x, H1, I1, r1, q1⟩ := qz9
  exact ⟨σ, H1, I1, q1⟩
noncomputable def tRet (te : TE) : TS := fun D σ H => te σ H D.rt
theorem ps_ret (he : PE X e te) : PS X (.Return (some e) pos) (tRet te) := by
  intro pins s σ H D I h
  refine wpAny_Return_some (thn (he pins s σ H _ I h) fun v s1 qz9 => ?_)
  obtain ⟨x, H1, I1, r1, q1⟩ := qz9
  exact ⟨x, σ, H1, I1, r1, q1⟩
noncomputable def tIfS (c : TT) (t u : TS) : TS := fun D σ H => c σ H fun b H1 => if b = true then t D σ H1 else u D σ H1
theorem ps_if {c : Expr} {a b : List Stmt} {tc : TT} (hc : PT X c tc) (ha : PSs X a t) (hb : PSs X b u) : PS X (.If c a b pos) (tIfS tc t u) := by
  intro pins s σ H D I h
  refine wpAny_If (thn (hc pins s σ H _ I h) fun d s1 qz9 => ?_)
  obtain ⟨H1, I1, q1⟩ := qz9
  cases d with
  | true => exact ha pins s1 σ H1 D I1 q1
  | false => exact hb pins s1 σ H1 D I1 q1
end
noncomputable abbrev TG := V → St → Hp → (St → Hp → Prop) → Prop
noncomputable abbrev TGs := List V → St → Hp → (St → Hp → Prop) → Prop
noncomputable def PG (X : Cx) (target : Expr) (t : TG) : Prop :=
  ∀ (pins : List (Addr × Obj)) (s : Shared) (σ : St) (H : Hp) (v : V) (u : Value) (Q : St → Hp → Prop), Inv X pins σ H s → RelV v u → t v σ H Q →
    wpAny (model X.prog X.w) X.A (assign target X.env u) (fun _ s' => ∃ σ' H', Inv X pins σ' H' s' ∧ Q σ' H') X.xe s
noncomputable abbrev TSet := V → V → V → Hp → (Hp → Prop) → Prop
noncomputable def PSet (X : Cx) (t : TSet) : Prop :=
  ∀ (pins : List (Addr × Obj)) (s : Shared) (σ : St) (H : Hp) (o i v : V) (ov iv u : Value) (Q : Hp → Prop), Inv X pins σ H s → RelV o ov → RelV i iv → RelV v u → t o i v H Q →
    wpAny (model X.prog X.w) X.A (setItem ov iv u) (fun _ s' => ∃ H', Inv X pins σ H' s' ∧ Q H') X.xe s
noncomputable abbrev TIp := V → V → Hp → VK → Prop
section
variable {X : Cx} {pos : Pos}
noncomputable def gName (i : Nat) : TG := fun v σ H Q => Q (σ.set i (some v)) H
theorem pg_name {i : Nat} {x : Str} (hN : X.N.Nodup) (hi : X.N[i]? = some x) (hx : Loc X.env.scope x) (hf : X.fn x = true ∨ X.env.scope.names.lookup x = some .local := by first | exact .inl rfl | exact .inr rfl | assumption) : PG X (.Name x pos) (gName i) := by
  intro pins s σ H v u Q I r h
  exact wpAny_assign_Name (store_ok I hN hi hx r (fun s' I' => ⟨_, H, I', h⟩) hf)
noncomputable def gSub (to ti : TE) (t : TSet) : TG := fun v σ H Q => to σ H fun o H1 => ti σ H1 fun i H2 => t o i v H2 fun H3 => Q σ H3
theorem pg_sub {o i : Expr} {to ti : TE} {t : TSet} (ho : PE X o to) (hi : PE X i ti) (hs : PSet X t)
    (ha : ∀ v, assign (.Subscript o i pos) X.env v = (do
      let ov ← holding [v] (eval o X.env)
      let iv ← holding [v, ov] (eval i X.env)
      standAt pos
      holding [v, ov, iv] (setItem ov iv v)
      release [v, ov, iv] []) := by intro _; rfl) : PG X (.Subscript o i pos) (gSub to ti t) := by
  intro pins s σ H v u Q I r h
  rw [ha]
  refine wpAny_bind (wpAny_holding (thn (ho pins s σ H _ I h) fun ov s1 qz9 => ?_))
  obtain ⟨x, H1, I1, r1, q1⟩ := qz9
  refine wpAny_bind (wpAny_holding (thn (hi pins s1 σ H1 _ I1 q1) fun iv s2 qz9 => ?_))
  obtain ⟨y, H2, I2, r2, q2⟩ := qz9
  refine wpAny_bind (wpAny_standAt (wpAny_bind (wpAny_holding (thn (hs pins s2 σ H2 x y v ov iv u _ I2 r1 r2 r q2) fun _ s3 qz9 => ?_))))
  obtain ⟨H3, I3, q3⟩ := qz9
  exact wpAny_release ⟨σ, H3, I3, q3⟩
noncomputable def tAsg (te : TE) (g : TG) : TS := fun D σ H => te σ H fun x H1 => g x σ H1 D.nx
theorem ps_asg {tg e : Expr} {te : TE} {g : TG} (he : PE X e te) (hg : PG X tg g) (hs : swapsWithSole [tg] e pos.line X.env = pure false := by rfl) (hw : swappedStores [tg] e X.env = pure none := by rfl)
    (h1 : (assignEach [tg] X.env).map (·.2) = [assign tg X.env] := by rfl) : PS X (.Assign [tg] e pos) (tAsg te g) := by
  intro pins s σ H D I h
  refine wpAny_Assign_stores (thn (he pins s σ H _ I h) fun v s1 qz9 => ?_) hs hw
  obtain ⟨x, H1, I1, r1, q1⟩ := qz9
  rw [h1]
  exact thn (hg pins s1 σ H1 x v _ I1 r1 q1) fun _ s2 q => q
theorem ps_set {i : Nat} {x : Str} {e : Expr} {te : TE} {pos' : Pos} (hN : X.N.Nodup) (hi : X.N[i]? = some x) (hx : Loc X.env.scope x) (he : PE X e te) (hs : swapsWith e (some (.Name x pos')) pos.line X.env = pure false := by rfl) (hf : X.fn x = true ∨ X.env.scope.names.lookup x = some .local := by first | exact .inl rfl | exact .inr rfl | assumption) :
    PS X (.Assign [.Name x pos'] e pos) (tAsg te (gName i)) := by
  intro pins s σ H D I h
  refine wpAny_Assign_Name (thn (he pins s σ H _ I h) fun v s1 qz9 => ?_) hs
  obtain ⟨y, H1, I1, r1, q1⟩ := qz9
  exact store_ok I1 hN hi hx r1 (fun s2 I2 => ⟨_, H1, I2, q1⟩) hf
noncomputable def tPar (i j : Nat) (ta : TA) : TS := fun D σ H => ta σ H fun vs H1 => ∃ v w, vs = [v, w] ∧ D.nx ((σ.set i (some v)).set j (some w)) H1
theorem ps_par {i j : Nat} {x y : Str} {a b : Expr} {ta : TA} {px py pt : Pos} {kt k2 pt2} (hc : X.calm = true) (hN : X.N.Nodup) (hi : X.N[i]? = some x) (hj : X.N[j]? = some y) (hij : i ≠ j)
    (hx : X.env.scope.names.lookup x = some .local) (hy : X.env.scope.names.lookup y = some .local) (ha : PA X [a, b] ta)
    (hw : swappedStores [.Tuple [.Name x px, .Name y py] kt pt] (.Tuple [a, b] k2 pt2) X.env = pure (some [x, y]))
    (hs : swapsWithSole [.Tuple [.Name x px, .Name y py] kt pt] (.Tuple [a, b] k2 pt2) pos.line X.env = pure false := by rfl) :
    PS X (.Assign [.Tuple [.Name x px, .Name y py] kt pt] (.Tuple [a, b] k2 pt2) pos) (tPar i j ta) := by
  intro pins s σ H D I h
  rw [exec_Assign_arm]
  refine wpAny_bind (wpAny_standAt ?_)
  rw [hs]
  refine wpAny_bind (wpAny_pure ?_)
  rw [if_neg (by decide)]
  refine wpAny_bind (Tuple_ (thn (ha _ pins s σ H _ I h) fun us s1 qz9 => ?_))
  obtain ⟨vs, H1, I1, r1, q1⟩ := qz9
  obtain ⟨v, w, e1, q1⟩ := q1
  subst e1
  obtain ⟨u1, u2, rfl, rv, rw'⟩ : ∃ u1 u2, us = [u1, u2] ∧ RelV v u1 ∧ RelV w u2 := by
    cases r1 with
    | cons p q =>
      cases q with
      | cons p' q' =>
        cases q'
        exact ⟨_, _, rfl, p, p'⟩
  refine wpAny_newObj_type ?_ (by show 2 ≤ sizeLine; decide)
  have I2 : Inv X pins σ H1 { s1 with heap := s1.heap.push { cls := .type "tuple", data := .seq [u1, u2].toArray } } := I1.kept (t' := s1.toks) fun b o e => Heap.get?_push_of_some _ e
  rw [hw]
  refine wpAny_bind (wpAny_pure ?_)
  show wpAny (model X.prog X.w) X.A (do rule "assign.swapped-stores"; let items ← unpackItems (.ref s1.heap.objs.size) 2 none; assignInOrder [fun v => bindName X.env y v, fun v => bindName X.env x v] items.reverse; pure Flow.next) _ _ _
  refine wpAny_bind (wpAny_rule (wpAny_bind (unpackItems_tuple (items := #[u1, u2]) (I.ok.hd hc) (IsTup.new s1.heap _) fun h' hx' => ?_)))
  have I3 := I2.kept (h' := h') (t' := s1.toks) fun b o e => hx' b o (Nat.ne_of_lt (Heap.lt_size e)) e
  show wpAny _ _ (assignInOrder [fun v => bindName X.env y v, fun v => bindName X.env x v] [u2, u1] >>= fun _ => pure Flow.next) _ _ _
  refine wpAny_bind (assignInOrder_cons (wpAny_bindName (store_ok I3 hN hj (.inl hy) rw' (fun s2 I4 => ?_) (.inr hy))))
  refine assignInOrder_cons (wpAny_bindName (store_ok I4 hN hi (.inl hx) rv (fun s3 I5 => assignInOrder_nil (wpAny_pure ?_)) (.inr hx)))
  rw [List.set_comm _ _ (Ne.symm hij)] at I5
  exact ⟨_, H1, I5, q1⟩
end
section
variable {X : Cx} {pos : Pos}
noncomputable def tWhile (c : TT) (tb : TS) : TS := fun D σ H => ∃ W : Nat → St → Hp → Prop, (∃ m, W m σ H) ∧ ∀ m σ H, W m σ H →
  c σ H fun b H1 => if b = true then ∃ N : St → Hp → Prop, (∀ σ' H', N σ' H' → ∃ m', m' < m ∧ W m' σ' H') ∧ tb { D with nx := N, ct := N, bk := D.nx } σ H1 else D.nx σ H1
theorem ps_while {c : Expr} {body : List Stmt} {tc : TT} {tb : TS} (hp : PassesOwn (model X.prog X.w) X.A X.env X.xe) (hc : PT X c tc) (hb : PSs X body tb) : PS X (.While c body [] pos) (tWhile tc tb) := by
  intro pins s σ H D I h
  obtain ⟨W, ⟨m0, w0⟩, turn⟩ := h
  refine wpAny_While (codeAny_whileLoop (fun n s' => ∃ σ' H', Inv X pins σ' H' s' ∧ W n σ' H') ?_ m0 ⟨σ, H, I, w0⟩)
  rintro n s1 ⟨σ1, H1, I1, w1⟩
  refine wpAny_passesOwn hp (thn (hc pins s1 σ1 H1 _ I1 (turn n σ1 H1 w1)) fun b s2 qz9 => ?_)
  obtain ⟨H2, I2, q2⟩ := qz9
  cases b with
  | true =>
    obtain ⟨N, hN, q2⟩ := q2
    rw [if_pos rfl]
    refine wpAny_passesOwn hp (thn (hb pins s2 σ1 H2 _ I2 q2) fun f s3 q3 => ?_)
    cases f with
    | next =>
      obtain ⟨σ3, H3, I3, n3⟩ := q3
      obtain ⟨m', hm, w3⟩ := hN σ3 H3 n3
      exact ⟨m', hm, σ3, H3, I3, w3⟩
    | cont =>
      obtain ⟨σ3, H3, I3, n3⟩ := q3
      obtain ⟨m', hm, w3⟩ := hN σ3 H3 n3
      exact ⟨m', hm, σ3, H3, I3, w3⟩
    | brk => exact q3
    | ret v => exact q3
  | false =>
    rw [if_neg Bool.false_ne_true]
    exact wpAny_execs_nil ⟨σ1, H2, I2, q2⟩
end
set_option genInjectivity false in
structure It where
  go : Nat → Hp → Prop
  yld : Nat → Hp → V → Hp → Prop
  stop : Nat → Hp → Prop
noncomputable def FpOk (X : Cx) (pins : List (Addr × Obj)) (H : Hp) (b : Addr) : Prop :=
  H b = none ∧ b ≠ X.env.locals ∧ b ∉ X.fs ∧ (b ∈ X.ex ∨ X.s₀.heap.objs.size ≤ b) ∧ (∀ x c, X.env.cells.lookup x = some c → c ≠ b) ∧ ∀ p ∈ X.pn ++ pins, p.1 ≠ b
theorem Inv.fpOk {X : Cx} {pins : List (Addr × Obj)} {σ : St} {H H' : Hp} {s : Shared} {b : Addr} (I : Inv X pins σ H s) (hb : s.heap.objs.size ≤ b) (hn : H' b = none) : FpOk X pins H' b := by
  refine ⟨hn, Nat.ne_of_gt (Nat.lt_of_lt_of_le I.lt hb), I.nofs hb, .inr (Nat.le_trans I.sz hb), fun x c e z => ?_, fun p hp z => ?_⟩
  · obtain ⟨v, q⟩ := I.cell x c e
    exact absurd (Nat.lt_of_lt_of_le q.lt (by rw [z]; exact hb)) (Nat.lt_irrefl _)
  · exact absurd (Nat.lt_of_lt_of_le (Heap.lt_size (I.pin p hp).1) (by rw [z]; exact hb)) (Nat.lt_irrefl _)
structure Turn (P : Program) (w : World) (K : PySem.W.Frag) (tg : Expr) (J : It) (fp : List Addr) (it : Addr) (tn : Nat → Heap → Prop) : Prop where
  mem : it ∈ fp
  obj : ∀ i h, tn i h → ∀ b ∈ fp, ∃ o, h.get? b = some o ∧ ∀ v, o.data ≠ .cell v
  keep : ∀ i h h', tn i h → (∀ b ∈ fp, ∀ o, h.get? b = some o → h'.get? b = some o) → tn i h'
  item : ∀ (X : Cx), X.prog = P → X.w = w → X.K = K → X.calm = true → ∀ (i : Nat) (pins : List (Addr × Obj)) (s : Shared) (σ : St) (H : Hp) (E : Value → Shared → Prop), Inv X pins σ H s → (∀ b ∈ fp, FpOk X pins H b) → tn i s.heap → J.go i H →
    wpAny (model P w) X.A (pyNext (.ref it)) (fun r s1 => ∃ u, r = some u ∧
      wpAny (model P w) X.A (letOwnedTupleGo tg (.ref it) u) (fun _ s2 => ∃ x H', Inv X pins σ H' s2 ∧ RelV x u ∧ J.yld i H x H' ∧ tn (i + 1) s2.heap ∧ ∀ b ∈ fp, H' b = none) E s1) E s
  done : ∀ (X : Cx), X.prog = P → X.w = w → X.K = K → X.calm = true → ∀ (i : Nat) (pins : List (Addr × Obj)) (s : Shared) (σ : St) (H : Hp) (E : Value → Shared → Prop), Inv X pins σ H s → (∀ b ∈ fp, FpOk X pins H b) → tn i s.heap → J.stop i H →
    wpAny (model P w) X.A (pyNext (.ref it)) (fun r s1 => r = none ∧ Inv X pins σ H s1) E s
  self : ∀ (A : Around) (i : Nat) (s : Shared) (Q : Value → Shared → Prop) (E : Value → Shared → Prop), tn i s.heap → Q (.ref it) s → wpAny (model P w) A (pyIter (.ref it)) Q E s
noncomputable abbrev TI := St → Hp → (It → Hp → Prop) → Prop
noncomputable def PIE (X : Cx) (pins : List (Addr × Obj)) (σ : St) (tg : Expr) (R : It → Hp → Prop) (itv : Value) (s2 : Shared) : Prop :=
  ∃ (it : Addr) (fp : List Addr) (tn : Nat → Heap → Prop) (J : It) (H' : Hp), itv = .ref it ∧ Inv X pins σ H' s2 ∧ Turn X.prog X.w X.K tg J fp it tn ∧ tn 0 s2.heap ∧ (∀ b ∈ fp, FpOk X pins H' b) ∧ R J H'
noncomputable def PI (X : Cx) (tg iter : Expr) (wi : TI) : Prop :=
  ∀ (pins : List (Addr × Obj)) (s : Shared) (σ : St) (H : Hp) (R : It → Hp → Prop), Inv X pins σ H s → wi σ H R →
    wpAny (model X.prog X.w) X.A (eval iter X.env) (fun v s1 => wpAny (model X.prog X.w) X.A (pyIter v) (PIE X pins σ tg R) X.xe s1) X.xe s
theorem go_of {M : Model} {A : Around} {E : Value → Shared → Prop} {s : Shared} {tg : Expr} {it : Addr} {u : Value} {o : Obj} {n : String} {vs : Array Value} {Q : Unit → Shared → Prop} (ho : s.heap.get? it = some o) (hc : o.cls = .type n) (hd : o.data = .fields vs)
    (hn : ["enumerate", "zip", "dict_itemiterator", "dict_reverseitemiterator", "odict_iterator", "itertools.zip_longest", "itertools.pairwise"].contains n = false) (hQ : Q () s) : wpAny M A (letOwnedTupleGo tg (.ref it) u) Q E s := by
  unfold letOwnedTupleGo
  cases tg <;> first
    | exact wpAny_pure hQ
    | (cases u <;> first
        | exact wpAny_pure hQ
        | (refine wpAny_bind (wpAny_load ho ?_)
           rw [hc, hd]
           show wpAny M A (if (["enumerate", "zip", "dict_itemiterator", "dict_reverseitemiterator", "odict_iterator", "itertools.zip_longest", "itertools.pairwise"].contains n && vs[0]? == some (rawInt _)) = true then _ else _) Q E s
           rw [if_neg (by intro h; rw [hn, Bool.false_and] at h; cases h)]
           exact wpAny_pure hQ))
noncomputable def Itl (K : PySem.W.Frag) (a : Addr) : It :=
  ⟨fun i H => ∃ xs x, SqL K H a xs ∧ xs[i]? = some x, fun i H x H' => H' = H ∧ ∀ xs, SqL K H a xs → xs[i]? = some x, fun i H => ∃ xs, SqL K H a xs ∧ xs.length ≤ i⟩
noncomputable def Itr (lo : Int) (n : Nat) : It := ⟨fun i _ => i < n, fun i H x H' => H' = H ∧ x = .int (lo + i), fun i _ => n ≤ i⟩
theorem turn_list {P : Program} {w : World} {K : PySem.W.Frag} {tg : Expr} (a it : Addr) : Turn P w K tg (Itl K a) [it] it (fun i h => h.IsListIter it a i) where
  mem := by simp
  obj := fun i h st b hb => by
    have e : b = it := by simpa using hb
    subst e
    obtain ⟨o, e, c, d⟩ := st
    exact ⟨o, e, fun v z => by rw [d] at z; cases z⟩
  keep := fun i h h' st k => st.at fun o e => k it (by simp) o e
  item := by
    intro X hP hw hK hc i pins s σ H E I hf st hg
    subst hP hw hK
    obtain ⟨xs, x, hq, hx⟩ := hg
    obtain ⟨its, rv, p, hz⟩ := I.list hq
    obtain ⟨u, hu, ru⟩ := rv.get hx
    obtain ⟨f0, f1, f2, f3, f4, f5⟩ := hf it (by simp)
    refine wpAny_pyNext_list_item st p.isList (x := u) (by simpa using hu) fun h' st' sb => ?_
    have I1 : Inv X pins σ H { s with heap := h' } := I.turned (t' := s.toks) (fun b o hb e => (sb.2 b hb).trans e) f0 f1 f3 f4 f5
    obtain ⟨o, e, c, d⟩ := id st'
    exact ⟨u, rfl, go_of (s := { s with heap := h' }) e c d (by decide) ⟨x, H, I1, ru, ⟨rfl, fun ys hy => by rw [I.list_inj hy hq]; exact hx⟩, st', fun b hb => (hf b hb).1⟩⟩
  done := by
    intro X hP hw hK hc i pins s σ H E I hf st hg
    subst hP hw hK
    obtain ⟨xs, hq, hx⟩ := hg
    obtain ⟨its, rv, p, hz⟩ := I.list hq
    obtain ⟨f0, f1, f2, f3, f4, f5⟩ := hf it (by simp)
    have hl := rv.length
    exact wpAny_pyNext_list_end (I.ok.hd hc) st p.isList (by simp; omega) fun h' eb => ⟨rfl, I.turned (t' := s.toks) (fun b o hb e => eb b o hb e) f0 f1 f3 f4 f5⟩
  self := fun _ _ _ _ _ st h => wpAny_pyIter_listiter st h
theorem turn_range {P : Program} {w : World} {K : PySem.W.Frag} {tg : Expr} (it : Addr) (lo : Int) (n : Nat) : Turn P w K tg (Itr lo n) [it] it (fun i h => IsRangeIter h it (lo + (i : Nat) * 1) ((n : Int) - (i : Nat)) 1) where
  mem := by simp
  obj := fun i h st b hb => by
    have e : b = it := by simpa using hb
    subst e
    exact ⟨_, st, fun v z => by
      have z' : Data.fields _ = Data.cell v := z
      cases z'⟩
  keep := fun i h h' st k => k it (by simp) _ st
  item := by
    intro X hP hw hK hc i pins s σ H E I hf st hg
    subst hP hw hK
    obtain ⟨f0, f1, f2, f3, f4, f5⟩ := hf it (by simp)
    have W := Walks.range (prog := X.prog) (w := X.w) (I.ok.hd hc) it lo 1 n
    refine W.item i s _ _ hg st fun v h' tk hv st' kk => ?_
    obtain ⟨t, rfl⟩ := hv
    have I1 : Inv X pins σ H { s with heap := h', toks := tk } := I.turned (fun b o hb e => kk b o (by simpa using hb) e) f0 f1 f3 f4 f5
    refine ⟨_, rfl, go_of (s := { s with heap := h', toks := tk }) (n := "range_iterator") st' rfl rfl (by decide) ⟨.int (lo + i), H, I1, ⟨t, ?_⟩, ⟨rfl, rfl⟩, st', fun b hb => (hf b hb).1⟩⟩
    rw [Int.mul_one]
  done := by
    intro X hP hw hK hc i pins s σ H E I hf st hg
    subst hP hw hK
    obtain ⟨f0, f1, f2, f3, f4, f5⟩ := hf it (by simp)
    exact wpAny_pyNext_range_end (I.ok.hd hc) st (by have : n ≤ i := hg; omega) fun h' eb => ⟨rfl, I.turned (t' := s.toks) (fun b o hb e => eb b o hb e) f0 f1 f3 f4 f5⟩
  self := fun _ _ _ _ _ st h => wpAny_pyIter_rangeiter st h
end L2
namespace L2
open PySem PySem.Spec PyProof.Rows
section
variable {X : Cx} {tg : Expr}
noncomputable def iList (K : PySem.W.Frag) (tl : TE) : TI := fun σ H R => tl σ H fun x H1 => ∃ a, x = .ref a ∧ (∃ xs, SqL K H1 a xs) ∧ R (Itl K a) H1
theorem pi_list {l : Expr} {tl : TE} (hl : PE X l tl) : PI X tg l (iList X.K tl) := by
  intro pins s σ H R I h
  refine thn (hl pins s σ H _ I h) fun v s1 qz9 => ?_
  obtain ⟨x, H1, I1, r1, q1⟩ := qz9
  obtain ⟨a, e, ⟨xs, hq⟩, q⟩ := q1
  subst e
  cases r1
  obtain ⟨its, rv, p, hz⟩ := I1.list hq
  refine wpAny_pyIter_list p.isList ?_
  refine ⟨s1.heap.objs.size, [s1.heap.objs.size], _, _, H1, rfl, I1.kept (t' := s1.toks) fun b o e => Heap.get?_push_of_some _ e, turn_list a _, ⟨_, Heap.get?_push_size _ rfl, rfl, rfl⟩, fun b hb => ?_, q⟩
  have e : b = s1.heap.objs.size := by simpa using hb
  subst e
  exact I1.fpOk (Nat.le_refl _) (I1.hok.fresh (Nat.le_refl _))
theorem range_it {pins : List (Addr × Obj)} {σ : St} {H : Hp} {s : Shared} {R : It → Hp → Prop} {E : Value → Shared → Prop} {lo hi : Int} {t u v : Tok} {tk : Nat} (I : Inv X pins σ H s) (h1 : -(2 ^ 62) ≤ lo) (h2 : lo < 2 ^ 62) (h3 : -(2 ^ 62) ≤ hi) (h4 : hi < 2 ^ 62)
    (q : R (Itr lo (hi - lo).toNat) H) : wpAny (model X.prog X.w) X.A (pyIter (.ref s.heap.objs.size)) (PIE X pins σ tg R) E { s with heap := s.heap.push { cls := .type "range", data := .fields #[.int lo t, .int hi u, .int 1 v] }, toks := tk } := by
  refine wpAny_pyIter_range (IsRange.new ..) (small_one h1 h2 h3 h4) ?_
  have I1 : Inv X pins σ H { s with heap := s.heap.push { cls := .type "range", data := .fields #[.int lo t, .int hi u, .int 1 v] }, toks := tk } := I.kept fun b o e => Heap.get?_push_of_some _ e
  refine ⟨(s.heap.push { cls := .type "range", data := .fields #[.int lo t, .int hi u, .int 1 v] }).objs.size, [(s.heap.push { cls := .type "range", data := .fields #[.int lo t, .int hi u, .int 1 v] }).objs.size], _, _, H, rfl,
    I1.kept (t' := tk) fun b o e => Heap.get?_push_of_some _ e, turn_range _ lo (hi - lo).toNat, ?_, fun b hb => ?_, q⟩
  · have e1 : lo + ((0 : Nat) : Int) * 1 = lo := by simp
    have e2 : (((hi - lo).toNat : Nat) : Int) - ((0 : Nat) : Int) = Builtin.Range.rangeSize lo hi 1 := by rw [rangeSize_one]; split <;> omega
    show IsRangeIter _ _ (lo + ((0 : Nat) : Int) * 1) ((((hi - lo).toNat : Nat) : Int) - ((0 : Nat) : Int)) 1
    rw [e1, e2]
    exact Heap.get?_push_size _ rfl
  · have e : b = (s.heap.push { cls := .type "range", data := .fields #[.int lo t, .int hi u, .int 1 v] }).objs.size := by simpa using hb
    subst e
    exact I1.fpOk (Nat.le_refl _) (I1.hok.fresh (Nat.le_refl _))
noncomputable def iRng1 (ta : TA) : TI := fun σ H R => ta σ H fun vs H1 => ∃ j : Int, vs = [.int j] ∧ -(2 ^ 62) ≤ j ∧ j < 2 ^ 62 ∧ R (Itr 0 j.toNat) H1
theorem pi_range1 {a : Expr} {ta : TA} {p pos : Pos} (hg : Gl X "range") (hm : X.mg "range" = none) (ha : PA X [a] ta) (hs : starEach [a] X.env = [(false, eval a X.env)] := by rfl) : PI X tg (.Call (.Name "range" p) [a] [] pos) (iRng1 ta) := by
  intro pins s σ H R I h
  refine Call_ (ld_blt I hg hm boot_range (PyProof.Rows.callWith_type1 (thn (ha pos pins s σ H _ I h) fun us s1 qz9 => ?_) hs rfl))
  obtain ⟨vs, H1, I1, r1, q1⟩ := qz9
  obtain ⟨j, e, q1, q2, q⟩ := q1
  subst e
  cases r1 with
  | cons r rr =>
    cases rr
    obtain ⟨t, rfl⟩ := r
    exact call_range_1 (range_it I1 (by omega) (by omega) q1 q2 (by simpa using q))
noncomputable def tFor (wi : TI) (g : TG) (tb : TS) : TS := fun D σ H => wi σ H fun J H1 => ∃ W : Nat → Nat → St → Hp → Prop, (∃ m, W 0 m σ H1) ∧ ∀ i m σ H, W i m σ H →
  (J.stop i H ∧ D.nx σ H) ∨ (J.go i H ∧ ∃ N : St → Hp → Prop, (∀ σ' H', N σ' H' → ∃ m', m' < m ∧ W (i + 1) m' σ' H') ∧ ∀ x H', J.yld i H x H' → g x σ H' fun σ2 H2 => tb { D with nx := N, ct := N, bk := D.nx } σ2 H2)
noncomputable def pinsAt (fp : List Addr) (h : Heap) : List (Addr × Obj) := fp.filterMap fun b => (h.get? b).map fun o => (b, o)
theorem mem_pinsAt {fp : List Addr} {h : Heap} {b : Addr} {o : Obj} (hb : b ∈ fp) (e : h.get? b = some o) : (b, o) ∈ pinsAt fp h := List.mem_filterMap.mpr ⟨b, hb, by rw [e]; rfl⟩
theorem of_pinsAt {fp : List Addr} {h : Heap} {p : Addr × Obj} (hp : p ∈ pinsAt fp h) : p.1 ∈ fp ∧ h.get? p.1 = some p.2 := by
  obtain ⟨b, hb, e⟩ := List.mem_filterMap.mp hp
  cases q : h.get? b with
  | none => rw [q] at e; cases e
  | some o =>
    rw [q] at e
    have e' : (b, o) = p := Option.some.inj e
    subst e'
    exact ⟨hb, q⟩
theorem Inv.pinned {pins : List (Addr × Obj)} {σ : St} {H : Hp} {s : Shared} {fp : List Addr} (I : Inv X pins σ H s) (hf : ∀ b ∈ fp, FpOk X pins H b) (ho : ∀ b ∈ fp, ∃ o, s.heap.get? b = some o ∧ ∀ v, o.data ≠ .cell v) : Inv X (pins ++ pinsAt fp s.heap) σ H s :=
  I.pins_of fun p hp => (List.mem_append.mp hp).elim (fun z => I.pin p (List.mem_append_right _ z)) fun z => by
    obtain ⟨hb, e⟩ := of_pinsAt z
    obtain ⟨f0, f1, f2, _⟩ := hf p.1 hb
    obtain ⟨o, e', d⟩ := ho p.1 hb
    rw [e] at e'; cases e'
    exact ⟨e, f0, f1, f2, d⟩
theorem Inv.unpinned {pins pl : List (Addr × Obj)} {σ : St} {H : Hp} {s : Shared} (I : Inv X (pins ++ pl) σ H s) : Inv X pins σ H s := I.pins_of fun p hp => I.pin p (List.mem_append_right _ (List.mem_append_left _ hp))
theorem ps_for {iter : Expr} {body : List Stmt} {wi : TI} {g : TG} {tb : TS} {pos : Pos} (hp : PassesOwn (model X.prog X.w) X.A X.env X.xe) (hc : X.calm = true) (hi : PI X tg iter wi) (hg : PG X tg g) (hb : PSs X body tb)
    (hs : ∀ x, foldedSetIterable iter X.env x = pure x := by intro _; rfl) : PS X (.For tg iter body [] pos) (tFor wi g tb) := by
  intro pins s σ H D I h
  refine wpAny_For (thn (hi pins s σ H _ I h) fun v s1 h1 => thn h1 fun itv s2 h2 => ?_) hs
  obtain ⟨it, fp, tn, J, H2, e, I2, T, st2, f2, W, ⟨m0, w0⟩, turn⟩ := h2
  subst e
  -- what stays true of the iterator's objects through the loop
  have stat : ∀ {H' : Hp}, (∀ b ∈ fp, H' b = none) → ∀ b ∈ fp, FpOk X pins H' b := fun hn b hb => ⟨hn b hb, (f2 b hb).2⟩
  refine codeAny_forLoop_any (fun n s' => ∃ i σ' H', Inv X pins σ' H' s' ∧ tn i s'.heap ∧ (∀ b ∈ fp, H' b = none) ∧ W i n σ' H') ?_ m0 ⟨0, σ, H2, I2, st2, fun b hb => (f2 b hb).1, w0⟩
  rintro n s3 ⟨i, σ3, H3, I3, st3, fr3, w3⟩
  rcases turn i n σ3 H3 w3 with ⟨stop, qn⟩ | ⟨go, N, hN, step⟩
  · refine wpAny_passesOwn hp (thn (T.done X rfl rfl rfl hc i pins s3 σ3 H3 X.xe I3 (stat fr3) st3 stop) fun r s4 qz9 => ?_)
    obtain ⟨hr, I4⟩ := qz9
    subst hr
    exact wpAny_execs_nil ⟨σ3, H3, I4, qn⟩
  · refine wpAny_passesOwn hp (thn (T.item X rfl rfl rfl hc i pins s3 σ3 H3 X.xe I3 (stat fr3) st3 go) fun r s4 qz9 => ?_)
    obtain ⟨u, hr, h4⟩ := qz9
    subst hr
    refine wpAny_passesOwn hp (thn h4 fun _ s5 qz9 => ?_)
    obtain ⟨x, H5, I5, r5, y5, st5, fr5⟩ := qz9
    have I5' := I5.pinned (stat fr5) (T.obj _ _ st5)
    refine wpAny_passesOwn hp (thn (hg _ s5 σ3 H5 x u _ I5' r5 (step x H5 y5)) fun _ s6 qz9 => ?_)
    obtain ⟨σ6, H6, I6, q6⟩ := qz9
    refine wpAny_passesOwn hp (thn (hb _ s6 σ6 H6 _ I6 q6) fun f s7 q7 => ?_)
    have again : ∀ {σ7 : St} {H7 : Hp}, Inv X (pins ++ pinsAt fp s5.heap) σ7 H7 s7 → N σ7 H7 → ∃ m, m < n ∧ ∃ i σ' H', Inv X pins σ' H' s7 ∧ tn i s7.heap ∧ (∀ b ∈ fp, H' b = none) ∧ W i m σ' H' := fun {σ7 H7} I7 n7 => by
      obtain ⟨m', hm, w7⟩ := hN σ7 H7 n7
      refine ⟨m', hm, i + 1, σ7, H7, I7.unpinned, T.keep _ _ _ st5 fun b hb o e => (I7.pin (b, o) (List.mem_append_right _ (List.mem_append_right _ (mem_pinsAt hb e)))).1, fun b hb => ?_, w7⟩
      obtain ⟨o, e, d⟩ := T.obj _ _ st5 b hb
      exact (I7.pin (b, o) (List.mem_append_right _ (List.mem_append_right _ (mem_pinsAt hb e)))).2.1
    cases f with
    | next => obtain ⟨σ7, H7, I7, n7⟩ := q7; exact again I7 n7
    | cont => obtain ⟨σ7, H7, I7, n7⟩ := q7; exact again I7 n7
    | brk => obtain ⟨σ7, H7, I7, q7⟩ := q7; exact ⟨σ7, H7, I7.unpinned, q7⟩
    | ret v => obtain ⟨x7, σ7, H7, I7, r7, q7⟩ := q7; exact ⟨x7, σ7, H7, I7.unpinned, r7, q7⟩
end
end L2
namespace L2
open PySem PySem.Spec PyProof.Rows
noncomputable abbrev R2 := V → V → Hp → VK → Prop
noncomputable def OpR (X : Cx) (f : Value → Value → Sem Value) (r : R2) : Prop :=
  ∀ (pins : List (Addr × Obj)) (s : Shared) (σ : St) (H : Hp) (x y : V) (v u : Value) (Q : VK), Inv X pins σ H s → RelV x v → RelV y u → r x y H Q →
    wpAny (model X.prog X.w) X.A (f v u) (EP X pins σ Q) X.xe s
noncomputable def UnR (X : Cx) (f : Value → Sem Value) (r : V → Hp → VK → Prop) : Prop :=
  ∀ (pins : List (Addr × Obj)) (s : Shared) (σ : St) (H : Hp) (x : V) (v : Value) (Q : VK), Inv X pins σ H s → RelV x v → r x H Q →
    wpAny (model X.prog X.w) X.A (f v) (EP X pins σ Q) X.xe s
noncomputable def CallR (X : Cx) (f : Value) (r : List V → Hp → VK → Prop) : Prop :=
  ∀ (pins : List (Addr × Obj)) (s : Shared) (σ : St) (H : Hp) (xs : List V) (us : List Value) (Q : VK), Inv X pins σ H s → Vals xs us → r xs H Q →
    wpAny (model X.prog X.w) X.A (call f us) (EP X pins σ Q) X.xe s
noncomputable def TruR (X : Cx) (r : V → Hp → (Bool → Hp → Prop) → Prop) : Prop :=
  ∀ (pins : List (Addr × Obj)) (s : Shared) (σ : St) (H : Hp) (x : V) (v : Value) (Q : Bool → Hp → Prop), Inv X pins σ H s → RelV x v → r x H Q →
    wpAny (model X.prog X.w) X.A (truthy v) (TP X pins σ Q) X.xe s
noncomputable def tOp (r : R2) (ta tb : TE) : TE := fun σ H Q => ta σ H fun x H1 => tb σ H1 fun y H2 => r x y H2 Q
noncomputable def tUn (r : V → Hp → VK → Prop) (ta : TE) : TE := fun σ H Q => ta σ H fun x H1 => r x H1 Q
noncomputable def rI (C : Int → Int → Prop) (g : Int → Int → V) : R2 := fun x y H Q => ∃ i j, x = .int i ∧ y = .int j ∧ C i j ∧ Q (g i j) H
noncomputable def rI0 (g : Int → Int → V) : R2 := fun x y H Q => ∃ i j, x = .int i ∧ y = .int j ∧ Q (g i j) H
noncomputable def rU (g : Int → V) : V → Hp → VK → Prop := fun x H Q => ∃ i, x = .int i ∧ Q (g i) H
section
variable {X : Cx} {a b c : Expr} {ta tb tc : TE} {pos : Pos}
theorem binT (ha : PE X a ta) (hb : PE X b tb) {pins : List (Addr × Obj)} {s : Shared} {σ : St} {H : Hp} {R : V → V → Hp → Prop} (I : Inv X pins σ H s)
    (h : ta σ H fun x H1 => tb σ H1 fun y H2 => R x y H2) {Q : Value → Shared → Prop} {f : Value → Value → Sem Value}
    (hf : ∀ v u s2 x y H2, Inv X pins σ H2 s2 → RelV x v → RelV y u → R x y H2 → wpAny (model X.prog X.w) X.A (f v u) Q X.xe s2) :
    wpAny (model X.prog X.w) X.A (eval a X.env) (fun v s₁ => wpAny (model X.prog X.w) X.A (eval b X.env) (fun u s₂ => wpAny (model X.prog X.w) X.A (f v u) Q X.xe s₂) X.xe s₁) X.xe s := by
  refine thn (ha pins s σ H _ I h) fun v s1 qz9 => ?_
  obtain ⟨x, H1, I1, r1, q1⟩ := qz9
  refine thn (hb pins s1 σ H1 _ I1 q1) fun u s2 qz9 => ?_
  obtain ⟨y, H2, I2, r2, q2⟩ := qz9
  exact hf v u s2 x y H2 I2 r1 r2 q2
theorem pe_op {op : Operator} {r : R2} (ho : OpR X (binaryOp op) r) (ha : PE X a ta) (hb : PE X b tb) : PE X (.BinOp a op b pos) (tOp r ta tb) := by
  intro pins s σ H Q I h
  exact wpAny_BinOp (binT ha hb I h fun v u s2 x y H2 I2 rx ry q => ho pins s2 σ H2 x y v u Q I2 rx ry q)
theorem pe_un {op : UnaryOp} {r : V → Hp → VK → Prop} (ho : UnR X (unaryOp op) r) (ha : PE X a ta) : PE X (.UnaryOp op a pos) (tUn r ta) := by
  intro pins s σ H Q I h
  refine UnaryOp_ (thn (ha pins s σ H _ I h) fun v s1 qz9 => ?_)
  obtain ⟨x, H1, I1, r1, q1⟩ := qz9
  exact ho pins s1 σ H1 x v Q I1 r1 q1
theorem opI {f : Value → Value → Sem Value} {C : Int → Int → Prop} {g : Int → Int → Int}
    (rule : ∀ (i j : Int) (t u : Tok) (s : Shared) (Q : Value → Shared → Prop) (E : Value → Shared → Prop), C i j → Q (.int (g i j) s.toks) { s with toks := s.toks + 1 } → wpAny (model X.prog X.w) X.A (f (.int i t) (.int j u)) Q E s) :
    OpR X f (rI C fun i j => .int (g i j)) := by
  intro pins s σ H x y v u Q I rx ry h
  obtain ⟨i, j, rfl, rfl, hc, q⟩ := h
  obtain ⟨t, rfl⟩ := rx
  obtain ⟨t', rfl⟩ := ry
  exact rule i j t t' s _ _ hc ⟨.int (g i j), H, I.tok _, ⟨_, rfl⟩, q⟩
theorem opI0 {f : Value → Value → Sem Value} {g : Int → Int → Int}
    (rule : ∀ (i j : Int) (t u : Tok) (s : Shared) (Q : Value → Shared → Prop) (E : Value → Shared → Prop), Q (.int (g i j) s.toks) { s with toks := s.toks + 1 } → wpAny (model X.prog X.w) X.A (f (.int i t) (.int j u)) Q E s) :
    OpR X f (rI0 fun i j => .int (g i j)) := by
  intro pins s σ H x y v u Q I rx ry h
  obtain ⟨i, j, rfl, rfl, q⟩ := h
  obtain ⟨t, rfl⟩ := rx
  obtain ⟨t', rfl⟩ := ry
  exact rule i j t t' s _ _ ⟨.int (g i j), H, I.tok _, ⟨_, rfl⟩, q⟩
theorem opB0 {f : Value → Value → Sem Value} {g : Int → Int → Bool}
    (rule : ∀ (i j : Int) (t u : Tok) (s : Shared) (Q : Value → Shared → Prop) (E : Value → Shared → Prop), Q (.bool (g i j)) s → wpAny (model X.prog X.w) X.A (f (.int i t) (.int j u)) Q E s) :
    OpR X f (rI0 fun i j => .bl (g i j)) := by
  intro pins s σ H x y v u Q I rx ry h
  obtain ⟨i, j, rfl, rfl, q⟩ := h
  obtain ⟨t, rfl⟩ := rx
  obtain ⟨t', rfl⟩ := ry
  exact rule i j t t' s _ _ ⟨.bl (g i j), H, I, rfl, q⟩
noncomputable def CPow (i j : Int) : Prop := 0 ≤ j ∧ j ≤ 1000000 ∧ i.natAbs < 2 ^ 64
noncomputable def CMul (i j : Int) : Prop := (-(2 ^ 64) < i ∧ i < 2 ^ 64) ∨ (-(2 ^ 64) < j ∧ j < 2 ^ 64)
theorem CMul.ok {i j : Int} (h : CMul i j) : IntMulOk i j := by
  rcases h with ⟨h1, h2⟩ | ⟨h1, h2⟩
  · exact .of_left (intBits_le_64 h1 h2)
  · exact .of_right (intBits_le_64 h1 h2)
theorem op_add : OpR X (binaryOp .Add) (rI0 fun i j => .int (i + j)) := opI0 fun _ _ _ _ _ _ _ q => add_int q
theorem op_sub : OpR X (binaryOp .Sub) (rI0 fun i j => .int (i - j)) := opI0 fun _ _ _ _ _ _ _ q => sub_int q
theorem op_modN : OpR X (binaryOp .Mod) (rI (fun _ j => j ≠ 0) fun i j => .int (i.fmod j)) := opI fun _ _ _ _ _ _ _ hc q => mod_int' hc q
theorem op_pow : OpR X (binaryOp .Pow) (rI CPow fun i j => .int (i ^ j.toNat)) := opI fun _ _ _ _ _ _ _ hc q => pow_int_small hc.1 hc.2.1 hc.2.2 q
theorem unI {f : Value → Sem Value} {g : Int → Int}
    (rule : ∀ (i : Int) (t : Tok) (s : Shared) (Q : Value → Shared → Prop) (E : Value → Shared → Prop), Q (.int (g i) s.toks) { s with toks := s.toks + 1 } → wpAny (model X.prog X.w) X.A (f (.int i t)) Q E s) :
    UnR X f (rU fun i => .int (g i)) := by
  intro pins s σ H x v Q I rx h
  obtain ⟨i, rfl, q⟩ := h
  obtain ⟨t, rfl⟩ := rx
  exact rule i t s _ _ ⟨.int (g i), H, I.tok _, ⟨_, rfl⟩, q⟩
theorem un_neg : UnR X (unaryOp .USub) (rU fun i => .int (-i)) := unI fun _ _ _ _ _ q => neg_int q
end
section
variable {X : Cx} {a b c : Expr} {ta tb tc : TE} {pos : Pos}
theorem op_lt : OpR X (compareOp .Lt) (rI0 fun i j => .bl (decide (i < j))) := opB0 fun _ _ _ _ _ _ _ q => lt_int q
theorem op_gt : OpR X (compareOp .Gt) (rI0 fun i j => .bl (decide (j < i))) := opB0 fun _ _ _ _ _ _ _ q => gt_int q
theorem op_ge : OpR X (compareOp .GtE) (rI0 fun i j => .bl (decide (j ≤ i))) := opB0 fun _ _ _ _ _ _ _ q => ge_int q
theorem nomark (b : Expr) {op : CmpOp} (h : op ≠ .In := by decide) (h2 : op ≠ .NotIn := by decide) : behindInMarks op b = false := by
  have e1 : (op == CmpOp.In) = false := by cases op <;> first | rfl | exact absurd rfl h
  have e2 : (op == CmpOp.NotIn) = false := by cases op <;> first | rfl | exact absurd rfl h2
  cases b <;> simp [behindInMarks, e1, e2]
theorem pe_cmpR {op : CmpOp} {r : R2} (ho : OpR X (compareOp op) r) (ha : PE X a ta) (hb : PE X b tb) (hm : behindInMarks op b = false) : PE X (.Compare a [op] [b] pos) (tOp r ta tb) := by
  intro pins s σ H Q I h
  exact wpAny_Compare1 (binT ha hb I h fun v u s2 x y H2 I2 rx ry q => ho pins s2 σ H2 x y v u Q I2 rx ry q) hm
noncomputable def tTest (t : TE) : TT := fun σ H Q => t σ H fun x H' => ∃ k, x = .bl k ∧ Q k H'
theorem pt_cmpR {op : CmpOp} {r : R2} (ho : OpR X (compareOp op) r) (ha : PE X a ta) (hb : PE X b tb) (hm : behindInMarks op b = false) : PT X (.Compare a [op] [b] pos) (tTest (tOp r ta tb)) := by
  intro pins s σ H Q I h
  refine wpAny_isTrue_Compare1 (thn (ha pins s σ H _ I h) fun v s1 ⟨x, H1, I1, r1, q1⟩ => thn (hb pins s1 σ H1 _ I1 q1) fun u s2 ⟨y, H2, I2, r2, q2⟩ =>
    thn (ho pins s2 σ H2 x y v u _ I2 r1 r2 q2) fun c s3 ⟨z, H3, I3, r3, k, e, q3⟩ => ?_) hm
  subst e
  cases r3
  exact wpAny_truthy_bool ⟨H3, I3, q3⟩
noncomputable def TruV (K : PySem.W.Frag) (x : V) (H : Hp) (k : Bool) : Prop :=
  match x with
  | .non => k = false
  | .bl b => k = b
  | .int i => k = (i != 0)
  | .str y => y.length ≤ sizeLine ∧ k = ((y.length : Int) != 0)
  | .byt y => y.size ≤ sizeLine ∧ k = ((y.size : Int) != 0)
  | .ref p => (∃ xs, SqL K H p xs ∧ k = !xs.isEmpty) ∨ (∃ xs, SqT K H p xs ∧ k = !xs.isEmpty) ∨ ∃ kvs, H p = some (.dK kvs) ∧ k = !kvs.isEmpty
  | _ => False
theorem isEmpty_kv {κ : Type} {kvs : List (κ × V)} {vs : List (κ × Value)} (r : KV kvs vs) : (!vs.isEmpty) = !kvs.isEmpty := by
  cases r <;> rfl
theorem isEmpty_of {xs : List V} {its : List Value} (r : Vals xs its) : (!its.toArray.isEmpty) = !xs.isEmpty := by
  cases r <;> simp
theorem line63 : (sizeLine : Nat) < 2 ^ 63 := by rw [sizeLine_eq]; decide
theorem tru_ok : TruR X (fun x H Q => ∃ k, TruV X.K x H k ∧ Q k H) := by
  intro pins s σ H x v Q I rx h
  obtain ⟨k, e, q⟩ := h
  have hl := line63
  have hs : sizeLine = 16777216 := sizeLine_eq
  cases x with
  | non =>
    cases rx
    have e' : k = false := e
    subst e'
    exact truthy_none ⟨H, I, q⟩
  | bl b =>
    cases rx
    have e' : k = b := e
    subst e'
    exact wpAny_truthy_bool ⟨H, I, q⟩
  | int i =>
    obtain ⟨t, rfl⟩ := rx
    have e' : k = (i != 0) := e
    subst e'
    exact PySem.P.truthy_int ⟨H, I, q⟩
  | str y =>
    obtain ⟨t, rfl⟩ := rx
    obtain ⟨hy, e'⟩ : y.length ≤ sizeLine ∧ k = ((y.length : Int) != 0) := e
    subst e'
    exact PySem.P.truthy_str (by omega) ⟨H, I.tok _, q⟩
  | byt y =>
    obtain ⟨t, rfl⟩ := rx
    obtain ⟨hy, e'⟩ : y.size ≤ sizeLine ∧ k = ((y.size : Int) != 0) := e
    subst e'
    exact PySem.W.truthy_bytes (by omega) ⟨H, I.tok _, q⟩
  | ref p =>
    cases rx
    have e' : (∃ xs, SqL X.K H p xs ∧ k = !xs.isEmpty) ∨ (∃ xs, SqT X.K H p xs ∧ k = !xs.isEmpty) ∨ ∃ kvs, H p = some (.dK kvs) ∧ k = !kvs.isEmpty := e
    rcases e' with ⟨xs, hx, e'⟩ | ⟨xs, hx, e'⟩ | ⟨kvs, hx, e'⟩
    · subst e'
      obtain ⟨its, r, pl, hz⟩ := I.list hx
      have hlen := r.length
      exact wpAny_truthy_list pl.isList (by simp only [List.size_toArray]; omega) ⟨H, I.tok _, by rw [isEmpty_of r]; exact q⟩
    · subst e'
      obtain ⟨its, r, pl, hz⟩ := I.tuple hx
      have hlen := r.length
      exact truthy_tuple pl (by simp only [List.size_toArray]; omega) ⟨H, I.tok _, by rw [isEmpty_of r]; exact q⟩
    · subst e'
      obtain ⟨hz, hS, vs, r, m⟩ : kvs.length ≤ sizeLine ∧ (p == sysModules) = false ∧ ∃ vs, KV kvs vs ∧ s.heap.DictOf (mixKind X.prog X.w) p vs := I.hok p _ hx
      have hlen : kvs.length = vs.length := Paired.length r
      exact wpAny_truthy_dict hS m (by omega) ⟨H, I.tok _, by rw [isEmpty_kv r]; exact q⟩
  | _ => exact (show False from e).elim
theorem pt_truth (ha : PE X a ta) (he : ∀ whole, isTrue a X.env whole = (do let v ← whole; standAt a.pos; holding [v] (truthy v))) :
    PT X a (fun σ H Q => ta σ H fun x H' => ∃ k, TruV X.K x H' k ∧ Q k H') := by
  intro pins s σ H Q I h
  refine isTrue_plain (thn (ha pins s σ H _ I h) fun v s1 qz9 => ?_) (he _)
  obtain ⟨x, H1, I1, r1, q1⟩ := qz9
  exact tru_ok pins s1 σ H1 x v Q I1 r1 q1
theorem op_add_str : OpR X (binaryOp .Add) (fun x y H Q => ∃ i j, x = .str i ∧ y = .str j ∧ i.length + j.length ≤ sizeLine ∧ Q (.str (i ++ j)) H) := by
  intro pins s σ H x y v u Q I rx ry h
  obtain ⟨i, j, rfl, rfl, hz, q⟩ := h
  obtain ⟨t, rfl⟩ := rx
  obtain ⟨t', rfl⟩ := ry
  exact add_str (fun t' tk => ⟨.str (i ++ j), H, I.tok _, ⟨_, rfl⟩, q⟩) hz
theorem vals1 {x : V} {us : List Value} (r : Vals [x] us) : ∃ u, us = [u] ∧ RelV x u := by
  cases r with
  | cons r1 r2 => cases r2; exact ⟨_, rfl, r1⟩
theorem vals2 {x y : V} {us : List Value} (r : Vals [x, y] us) : ∃ u w', us = [u, w'] ∧ RelV x u ∧ RelV y w' := by
  cases r with
  | cons r1 r2 =>
    cases r2 with
    | cons r3 r4 => cases r4; exact ⟨_, _, rfl, r1, r3⟩
theorem call_abs : CallR X (.builtin "abs") (fun xs H Q => ∃ i, xs = [.int i] ∧ Q (.int (if i < 0 then -i else i)) H) := by
  intro pins s σ H xs us Q I r h
  obtain ⟨i, rfl, q⟩ := h
  obtain ⟨u, rfl, t, rfl⟩ := vals1 r
  exact call_abs_int fun u tk => ⟨.int (if i < 0 then -i else i), H, I.tok _, ⟨_, rfl⟩, q⟩
theorem call_max2 (hc : X.calm = true) : CallR X (.builtin "max") (fun xs H Q => ∃ i j, xs = [.int i, .int j] ∧ Q (.int (if j > i then j else i)) H) := by
  intro pins s σ H xs us Q I r h
  obtain ⟨i, j, rfl, q⟩ := h
  obtain ⟨u, w', rfl, ⟨t, rfl⟩, ⟨t', rfl⟩⟩ := vals2 r
  refine max_two_ints (I.ok.hd hc) fun h' tk k => ⟨_, H, I.kept k, ?_, q⟩
  by_cases hj : j > i
  · rw [if_pos hj, if_pos hj]; exact ⟨_, rfl⟩
  · rw [if_neg hj, if_neg hj]; exact ⟨_, rfl⟩
theorem call_min2 (hc : X.calm = true) : CallR X (.builtin "min") (fun xs H Q => ∃ i j, xs = [.int i, .int j] ∧ Q (.int (if j < i then j else i)) H) := by
  intro pins s σ H xs us Q I r h
  obtain ⟨i, j, rfl, q⟩ := h
  obtain ⟨u, w', rfl, ⟨t, rfl⟩, ⟨t', rfl⟩⟩ := vals2 r
  refine min_two_ints (I.ok.hd hc) fun h' tk k => ⟨_, H, I.kept k, ?_, q⟩
  by_cases hj : j < i
  · rw [if_pos hj, if_pos hj]; exact ⟨_, rfl⟩
  · rw [if_neg hj, if_neg hj]; exact ⟨_, rfl⟩
theorem call_int1 : CallR X (.type "int") (fun xs H Q => (∃ i, xs = [.int i] ∧ Q (.int i) H) ∨ ∃ k, xs = [.bl k] ∧ Q (.int (if k then 1 else 0)) H) := by
  intro pins s σ H xs us Q I r h
  rcases h with ⟨i, rfl, q⟩ | ⟨k, rfl, q⟩
  · obtain ⟨u, rfl, t, rfl⟩ := vals1 r
    exact call_int_int ⟨.int i, H, I, ⟨_, rfl⟩, q⟩
  · obtain ⟨u, rfl, r1⟩ := vals1 r
    cases r1
    exact call_int_bool ⟨.int (if k then 1 else 0), H, I.tok _, ⟨_, rfl⟩, q⟩
theorem call_str_int : CallR X (.type "str") (fun xs H Q => ∃ i, xs = [.int i] ∧ i.natAbs.log2 < 1920 ∧ Q (.str (toString i)) H) := by
  intro pins s σ H xs us Q I r h
  obtain ⟨i, rfl, hz, q⟩ := h
  obtain ⟨u, rfl, t, rfl⟩ := vals1 r
  exact PySem.P.str_of_int hz ⟨.str _, H, I.tok _, ⟨_, rfl⟩, q⟩
end
end L2
namespace L2
open PySem PySem.Spec PyProof.Rows
structure ObjM (h : Heap) (x dx C : Addr) (mA : Str → Option Value) : Prop where
  obj : h.get? x = some (PySem.W.instObj C dx)
  ns : h.Ns1 dx mA
  ne : dx ≠ x
theorem lookIn_ns {h : Heap} {dx : Addr} {mA : Str → Option Value} (n : h.Ns1 dx mA) : ∃ od, h.get? dx = some od ∧ ∀ name, PySem.W.lookIn name od = some (mA name) := by
  obtain ⟨o, es, ep, ho, hd, hk, _, hm⟩ := n
  refine ⟨o, ho, fun name => ?_⟩
  have e := hm name
  unfold nsFind findBy at e
  rw [← Array.find?_toList] at e
  unfold PySem.W.lookIn
  rw [hd]
  dsimp only
  split
  · rename_i y q
    rw [q] at e
    exact congrArg some e
  · rename_i q
    rw [q] at e
    have a : es.toList.any (·.refKey) = false := by
      rw [List.any_eq_false]
      intro y hy
      obtain ⟨z, t, hkey⟩ := hk y (Array.mem_toList_iff.mp hy)
      simp [DictEntry.refKey, hkey]
    have a' : ¬ es.toList.any (·.refKey) = true := by rw [a]; exact Bool.false_ne_true
    rw [if_neg a']
    exact congrArg some e
theorem ObjM.look {h : Heap} {x dx C : Addr} {mA : Str → Option Value} (I : ObjM h x dx C mA) : ∃ od, PySem.W.InstAt h x (PySem.W.instObj C dx) C (some od) ∧ ∀ name, PySem.W.lookIn name od = some (mA name) :=
  let ⟨od, ho, hl⟩ := lookIn_ns I.ns
  ⟨od, ⟨I.obj, rfl, rfl, ho⟩, hl⟩
section
variable {prog : Program} {w : World} {A : Around} {E : Value → Shared → Prop} {s : Shared} {K : PySem.W.Frag} {x dx C f : Addr} {mA : Str → Option Value} {name : Str} {v : Value}
end
section
variable {P : Program} {w : World} {H H' : Hp} {h h' : Heap} {a C dx : Addr} {fs fs' : List (Str × V)}
theorem ins_get (hok : HOk P w H h) (e : H a = some (.ins C dx fs)) : ∃ mA, ObjM h a dx C mA ∧ (∀ f, RelO (fs.lookup f) (mA f)) ∧ PySem.Within mA (fs.map (·.1)) ∧ fs.length ≤ 1000 ∧ H dx = some (.own a) := by
  obtain ⟨d, z, ne, ob, mA, n, r, q⟩ := (show ObjOk P w H h a (.ins C dx fs) from hok a _ e)
  exact ⟨mA, ⟨ob, n, ne⟩, r, q, z, d⟩
end
structure Cls (K : PySem.W.Frag) (C : Addr) : Prop where
  pg : PySem.W.plainGet K C Str.empty = true
  hd : PySem.W.hasDictIn K C = true
  po : PySem.W.plainOver K C = true
  sa : PySem.W.findIn K (.ref C) "__setattr__" = some (some (.builtin "object.__setattr__"))
theorem Cls.get {K : PySem.W.Frag} {C : Addr} (c : Cls K C) (f : Str) : PySem.W.plainGet K C f = true := c.pg
structure Con (K : PySem.W.Frag) (C : Addr) (f : Str) (v : V) (u : Value) : Prop where
  at_ : PySem.W.findIn K (.ref C) f = some (some u)
  rel : RelV v u
  get : PySem.W.specialIn K u "__get__" = some none
  cp : PySem.W.copiedNames.contains f = false
structure Meth (K : PySem.W.Frag) (C : Addr) (m : Str) (f : Addr) : Prop where
  at_ : PySem.W.findIn K (.ref C) m = some (some (.ref f))
  fn : PySem.W.isFn K (.ref f) = true
  kp : PySem.W.keepIn K (.ref f) = true
section
variable {X : Cx} {pins : List (Addr × Obj)} {σ : St} {H : Hp} {s : Shared} {a C dx : Addr} {fs : List (Str × V)} {f : Str} {v : V} {A : Around} {E : Value → Shared → Prop}
end
section
variable {X : Cx} {o e value : Expr} {f : Str} {pos pos' tpos : Pos} {ta tv : TE}
end
section
variable {X : Cx} {pins : List (Addr × Obj)} {σ : St} {H : Hp} {s : Shared} {A : Around} {E : Value → Shared → Prop} {Q : Value → Shared → Prop} {c : Value} {b : Bool}
inductive TyOf (K : PySem.W.Frag) (H : Hp) : V → Value → Prop where
  | non : TyOf K H .non (.type "NoneType")
  | bl (x : Bool) : TyOf K H (.bl x) (.type "bool")
  | int (i : Int) : TyOf K H (.int i) (.type "int")
  | str (x : Str) : TyOf K H (.str x) (.type "str")
  | flt (x : UInt64) : TyOf K H (.flt x) (.type "float")
  | lst {a : Addr} {xs : List V} (e : H a = some (.lst xs)) : TyOf K H (.ref a) (.type "list")
  | frz {a : Addr} {o : Obj} {xs : List V} (e : H a = some (.frz o (.lst xs))) : TyOf K H (.ref a) (.type "list")
  | tup {a : Addr} {xs : List V} (e : H a = some (.tup xs)) : TyOf K H (.ref a) (.type "tuple")
  | dK {a : Addr} {kvs : List (Key × V)} (e : H a = some (.dK kvs)) : TyOf K H (.ref a) (.type "dict")
  | dT {a : Addr} {kvs : List (List Key × V)} (e : H a = some (.dT kvs)) : TyOf K H (.ref a) (.type "dict")
  | ins {a C dx : Addr} {fs : List (Str × V)} (e : H a = some (.ins C dx fs)) (cl : Cls K C) (ha : PySem.W.findIn K (.ref C) "__class__" = some (some (.builtin "object.__class__")))
      (hn : PySem.W.specialIn K (.builtin "object.__class__") "__get__" = some (some (.builtin "getset_descriptor.__get__"))) (htk : PySem.W.takesIn K (.builtin "object.__class__") = some true)
      (hm : PySem.W.mroIn K C (.type "object") = some true) : TyOf K H (.ref a) (.ref C)
theorem isinst_ok {x : V} {u t : Value} (I : Inv X pins σ H s) (rx : RelV x u) (ty : TyOf X.K H x t) (e : PySem.W.kitOne X.K t c = some b) (h : ∀ tk, Q (.bool b) { s with toks := tk }) :
    wpAny (model X.prog X.w) A (call (.builtin "isinstance") [u, c]) Q E s := by
  cases ty with
  | non => cases (show u = Value.none from rx); exact PySem.W.kia_one PySem.W.kitx_none I.kIn True.intro e (fun z => nomatch z) h
  | bl y => cases (show u = Value.bool y from rx); exact PySem.W.kia_one PySem.W.kitx_bool I.kIn True.intro e (fun z => nomatch z) h
  | int i => obtain ⟨t, q⟩ := (show ∃ t, u = Value.int i t from rx); cases q; exact PySem.W.kia_one PySem.W.kitx_int I.kIn True.intro e (fun z => nomatch z) h
  | str y => obtain ⟨t, q⟩ := (show ∃ t, u = Value.str y t from rx); cases q; exact PySem.W.kia_one PySem.W.kitx_str I.kIn True.intro e (fun z => nomatch z) h
  | flt y => obtain ⟨t, q⟩ := (show ∃ t, u = Value.float y t from rx); cases q; exact PySem.W.kia_one PySem.W.kitx_float I.kIn True.intro e (fun z => nomatch z) h
  | @lst a xs ea =>
    cases (show u = Value.ref a from rx)
    obtain ⟨_, _, n, _, h1⟩ := (show ObjOk X.prog X.w H s.heap a (.lst xs) from I.hok a _ ea)
    exact PySem.W.kia_one PySem.W.kitx_list I.kIn ⟨_, h1, rfl⟩ e (fun z => nomatch z) h
  | @frz a ob xs ea =>
    cases (show u = Value.ref a from rx)
    obtain ⟨_, _, _, n, _, h1⟩ := (show ObjOk X.prog X.w H s.heap a (.frz ob (.lst xs)) from I.hok a _ ea)
    exact PySem.W.kia_one PySem.W.kitx_list I.kIn ⟨_, h1, rfl⟩ e (fun z => nomatch z) h
  | @tup a xs ea =>
    cases (show u = Value.ref a from rx)
    obtain ⟨_, _, _, p⟩ := (show ObjOk X.prog X.w H s.heap a (.tup xs) from I.hok a _ ea)
    obtain ⟨o, h1, h2, _⟩ := p
    exact PySem.W.kia_one PySem.W.kitx_tuple I.kIn ⟨o, h1, h2⟩ e (fun z => nomatch z) h
  | @dK a kvs ea =>
    cases (show u = Value.ref a from rx)
    obtain ⟨_, _, vs, _, p⟩ := (show ObjOk X.prog X.w H s.heap a (.dK kvs) from I.hok a _ ea)
    obtain ⟨o, es, ep, h1, h2, _⟩ := p
    exact PySem.W.kia_one PySem.W.kitx_dict I.kIn ⟨o, h1, h2.1⟩ e (fun z => nomatch z) h
  | @dT a kvs ea =>
    cases (show u = Value.ref a from rx)
    obtain ⟨_, _, xs, _, o, es, ep, h1, h2, _⟩ := (show ObjOk X.prog X.w H s.heap a (.dT kvs) from I.hok a _ ea)
    exact PySem.W.kia_one PySem.W.kitx_dict I.kIn ⟨o, h1, h2.1⟩ e (fun z => nomatch z) h
  | @ins a C dx fs ea cl ha hn htk hm =>
    cases (show u = Value.ref a from rx)
    obtain ⟨mA, O, _⟩ := ins_get I.hok ea
    obtain ⟨od, J, _⟩ := O.look
    exact PySem.W.kia_one (PySem.W.kitx_own (cl.get _) cl.hd ha hn htk hm) I.kIn J e (fun z => nomatch z) h
end
end L2
namespace L2
open PySem PySem.Spec PyProof.Rows
structure Room (k : Nat) (A : Around) : Prop where
  hd : A.handled = none
  dp : A.depth + 3 * k + 5 < recursionLimit
  un : A.units + 16 * k + 200 < cLine
theorem Room.mono {j k : Nat} {A : Around} (r : Room k A) (h : j ≤ k) : Room j A := ⟨r.hd, by have := r.dp; omega, by have := r.un; omega⟩
theorem Room.deeper {k : Nat} {A : Around} (r : Room (k + 1) A) (env : Env) : Room k (A.deeper env) :=
  ⟨r.hd, by have := r.dp; show A.depth + 1 + 3 * k + 5 < _; omega, by have := r.un; show A.units + 3 + 16 * k + 200 < _; omega⟩
theorem Room.depth {k : Nat} {A : Around} (r : Room k A) : A.depth < recursionLimit := by have := r.dp; omega
theorem Room.units {k : Nat} {A : Around} (r : Room k A) : A.units + 64 < cLine := by have := r.un; omega
noncomputable def tNil : TA := fun _ H Q => Q [] H
noncomputable def tCons (ta : TE) (tr : TA) : TA := fun σ H Q => ta σ H fun x H1 => tr σ H1 fun xs H2 => Q (x :: xs) H2
section
variable {X : Cx} {e : Expr} {es : List Expr} {te : TE} {t : TA} {pos : Pos}
theorem pa_nil : PA X [] tNil := fun _ _ _ _ H Q I h => Calls.spliced_nil ⟨[], H, I, .nil, h⟩
theorem pa_cons (ha : PE X e te) (hr : PA X es t) (hs : starEach (e :: es) X.env = (false, eval e X.env) :: starEach es X.env := by rfl) : PA X (e :: es) (tCons te t) := by
  intro pos pins s σ H Q I h
  rw [hs]
  show wpAny _ _ (spliced ((false, eval e X.env) :: backTo pos (starEach es X.env))) _ _ s
  refine Calls.spliced_cons (thn (ha pins s σ H _ I h) fun u s1 qz9 => ?_)
  obtain ⟨x, H1, I1, r1, q1⟩ := qz9
  refine thn (hr pos pins s1 σ H1 _ I1 q1) fun us s2 qz9 => ?_
  obtain ⟨xs, H2, I2, r2, q2⟩ := qz9
  exact ⟨x :: xs, H2, I2, .cons r1 r2, q2⟩
noncomputable def tTup (t : TA) : TE := fun σ H Q => t σ H fun xs H1 => xs.length ≤ sizeLine ∧ ∀ p, H1 p = none → Q (.ref p) (upd H1 p (.tup xs))
noncomputable def tLst (t : TA) : TE := fun σ H Q => t σ H fun xs H1 => xs.length ≤ sizeLine ∧ ∀ p, H1 p = none → Q (.ref p) (upd H1 p (.lst xs))
theorem pe_tup {x1} (h : PA X es t) : PE X (.Tuple es x1 pos) (tTup t) := by
  intro pins s σ H Q I hq
  refine wpAny_Tuple_spliced (thn (h pos pins s σ H _ I hq) fun us s1 ⟨xs, H1, I1, r, z, q⟩ => ⟨by rw [← r.length]; exact z, ?_⟩)
  have hf : H1 s1.heap.objs.size = none := I1.hok.fresh (Nat.le_refl _)
  refine ⟨.ref s1.heap.objs.size, upd H1 s1.heap.objs.size (.tup xs), I1.laid (t' := s1.toks) (fun b u e => Heap.get?_push_of_some _ e) (Nat.le_refl _) ?_, rfl, q _ hf⟩
  exact ⟨z, us, r, ⟨_, Heap.get?_push_size _ rfl, rfl, _, rfl⟩⟩
theorem pe_lst (h : PA X es t) : PE X (.List es pos) (tLst t) := by
  intro pins s σ H Q I hq
  refine wpAny_List_spliced (thn (h pos pins s σ H _ I hq) fun us s1 ⟨xs, H1, I1, r, z, q⟩ => ⟨by rw [← r.length]; exact z, ?_⟩)
  have hf : H1 s1.heap.objs.size = none := I1.hok.fresh (Nat.le_refl _)
  refine ⟨.ref s1.heap.objs.size, upd H1 s1.heap.objs.size (.lst xs), I1.laid (t' := s1.toks) (fun b u e => Heap.get?_push_of_some _ e) (Nat.le_refl _) ?_, rfl, q _ hf⟩
  exact ⟨z, us, 0, r, Heap.get?_push_size _ rfl⟩
end
noncomputable abbrev Sp := List V → Hp → VK → XK → Prop
noncomputable abbrev CXT := List Env → Hp → Shared → XK → Value → Shared → Prop
structure Env0 (P : Program) (w : World) (K : PySem.W.Frag) (mg : Str → Option Value) (base : Heap) (A : Around) (outer : List Env) (s : Shared) (H : Hp) : Prop where
  frames : A.frames = some outer
  mod : Mod K mg base
  bs : ∀ b o, base.get? b = some o → s.heap.get? b = some o ∧ H b = none
  bsz : base.objs.size ≤ s.heap.objs.size
  funs : s.heap.FunFrames base outer
  frf : ∀ b ∈ frs outer, H b = none
  hok : HOk P w H s.heap
  bare : AllBare s.gens
noncomputable def CE (outer : List Env) (P : Program) (w : World) (H : Hp) (s : Shared) (Q : VK) (u : Value) (s' : Shared) : Prop :=
  ∃ v H', s'.os = s.os ∧ AllBare s'.gens ∧ Un (frs outer) [] H H' s.heap s'.heap ∧ HOk P w H' s'.heap ∧ RelV v u ∧ Q v H'
noncomputable def CR (CX : CXT) (outer : List Env) (P : Program) (w : World) (H : Hp) (s : Shared) (Q : VK) (E : XK) (r : Result) (s' : Shared) : Prop :=
  match r with
  | .ok (.ret u) => CE outer P w H s Q u s'
  | .ok _ => False
  | .error e => CX outer H s E e s'
structure FnOk (P : Program) (w : World) (K : PySem.W.Frag) (mg : Str → Option Value) (base : Heap) (CX : CXT) (k : Nat) (f : Addr) (fd : FuncData) (ps : List Str) (sp : Sp) : Prop where
  len : ∀ vs H Q E, sp vs H Q E → vs.length = ps.length
  run : ∀ (A : Around) (outer : List Env) (s : Shared) (H : Hp) (args : Args) (us : List Value) (vs : List V) (Q : VK) (E : XK), Room k A → Env0 P w K mg base A outer s H → BindsTo s fd args (ps.zip us) → Vals vs us → sp vs H Q E →
    codeAny (model P w) A (.call (.ref f) args) (CR CX outer P w H s Q E) s
theorem FnOk.imp {P : Program} {w : World} {K : PySem.W.Frag} {mg : Str → Option Value} {base : Heap} {CX : CXT} {k : Nat} {f : Addr} {fd : FuncData} {ps : List Str} {sp sp' : Sp} (F : FnOk P w K mg base CX k f fd ps sp)
    (h : ∀ vs H Q E, sp' vs H Q E → sp vs H Q E) : FnOk P w K mg base CX k f fd ps sp' :=
  ⟨fun vs H Q E q => F.len vs H Q E (h _ _ _ _ q), fun A outer s H args us vs Q E hr he hb hv hs => F.run A outer s H args us vs Q E hr he hb hv (h _ _ _ _ hs)⟩
section
variable {X : Cx} {pins : List (Addr × Obj)} {σ : St} {H : Hp} {s s' : Shared}
theorem Inv.env0 (I : Inv X pins σ H s) : Env0 X.prog X.w X.K X.mg X.base X.A X.stack s H :=
  ⟨I.ok.frames, I.ok.mod, I.bs, Nat.le_trans I.ok.bsz I.sz, I.stack, I.stkFree, I.hok, I.bare⟩
theorem Inv.after {Q : VK} {u : Value} (I : Inv X pins σ H s) (h : CE X.stack X.prog X.w H s Q u s') : EP X pins σ Q u s' := by
  obtain ⟨v, H', os, bare, un, hok, r, q⟩ := h
  obtain ⟨hh, g, d, t, os'⟩ := s'
  obtain rfl : os' = s.os := os
  exact ⟨v, H', I.call (h' := hh) (g' := g) (d' := d) (t' := t) (ch := []) un hok bare (fun b z => absurd z (by simp)), r, q⟩
end
noncomputable def tCall (sp : Sp) (dvs : List V) (E : XK) (t : TA) : TE := fun σ H Q => t σ H fun vs H1 => sp (vs ++ dvs) H1 Q E
noncomputable def Binds (K : PySem.W.Frag) (fd : FuncData) (ps : List Str) (ds : List Value) : Prop :=
  ∀ (s : Shared) (us : List Value), K.In s.heap → (us ++ ds).length = ps.length → BindsTo s fd ⟨us, []⟩ (ps.zip (us ++ ds))
theorem Binds.all {K : PySem.W.Frag} {fd : FuncData} {ps : List Str} (h : ∀ us : List Value, us.length = ps.length → bindArgs fd ⟨us, []⟩ = pure (ps.zip us)) : Binds K fd ps [] := fun s us _ hl => by
  rw [List.append_nil] at hl ⊢
  exact .of_eq (h us hl)
noncomputable def Passes (CX : CXT) (X : Cx) (E : XK) : Prop := ∀ (pins : List (Addr × Obj)) (σ : St) (H : Hp) (s : Shared) (e : Value) (s' : Shared), Inv X pins σ H s → CX X.stack H s E e s' → X.xe e s'
section
variable {X : Cx} {CX : CXT} {k : Nat} {f C : Addr} {fd : FuncData} {ps : List Str} {sp : Sp} {dvs : List V} {ds : List Value} {E : XK} {x m : Str} {p pos apos : Pos} {e o : Expr} {es : List Expr} {ta : TE} {t : TA}
theorem run_fn {pins : List (Addr × Obj)} {σ : St} {H : Hp} {s : Shared} {Q : VK} {us : List Value} {vs : List V} (F : FnOk X.prog X.w X.K X.mg X.base CX k f fd ps sp) (hr : Room k X.A) (hb : Binds X.K fd ps ds) (hd : Vals dvs ds) (hx : Passes CX X E)
    (I : Inv X pins σ H s) (r : Vals vs us) (h : sp (vs ++ dvs) H Q E) : wpAny (model X.prog X.w) X.A (call (.ref f) us) (EP X pins σ Q) X.xe s := by
  have r2 : Vals (vs ++ dvs) (us ++ ds) := r.append hd
  have hl : (us ++ ds).length = ps.length := by rw [← r2.length]; exact F.len _ _ _ _ h
  refine wpAny_call (codeAny_mono (F.run X.A X.stack s H ⟨us, []⟩ (us ++ ds) (vs ++ dvs) Q E hr I.env0 (hb s us I.kIn hl) r2 h) fun r s' hq => ?_)
  cases r with
  | error e => exact hx pins σ H s e s' I hq
  | ok fl =>
    cases fl with
    | ret u => exact I.after hq
    | next => exact False.elim hq
    | brk => exact False.elim hq
    | cont => exact False.elim hq
theorem pe_call (F : FnOk X.prog X.w X.K X.mg X.base CX k f fd ps sp) (hr : Room k X.A) (hg : Gl X x) (hm : X.mg x = some (.ref f)) (hk : PySem.W.keepIn X.K (.ref f) = true) (hb : Binds X.K fd ps ds) (hd : Vals dvs ds) (hx : Passes CX X E)
    (ha : PA X (e :: es) t) (hdb : (x == ("__debug__" : Str)) = false := by decide) (he : starEach (e :: es) X.env = (false, eval e X.env) :: starEach es X.env := by rfl) (hpl : (backTo pos (starEach es X.env)).any (·.1) = false := by rfl) :
    PE X (.Call (.Name x p) (e :: es) [] pos) (tCall sp dvs E t) := by
  intro pins s σ H Q I h
  refine wpAny_Call_Name_kw (ld_glob I hg hm ?_ hdb)
  refine PySem.W.callWith_K (h₀ := X.base) I.ok.mod.kin hk (thn (ha pos pins s σ H _ I h) fun us s1 qz9 => ?_) he hpl
  obtain ⟨vs, H1, I1, r, q⟩ := qz9
  refine ⟨I1.kIn, ?_⟩
  exact run_fn F hr hb hd hx I1 r q
structure Mk (K : PySem.W.Frag) (C f : Addr) : Prop where
  makes : PySem.W.makesIn K C = true
  init : PySem.W.findIn K (.ref C) "__init__" = some (some (.ref f))
  fn : PySem.W.isFn K (.ref f) = true
  kp : PySem.W.keepIn K (.ref C) = true
end
section
variable {X : Cx} {CX : CXT} {k : Nat} {f C : Addr} {fd : FuncData} {ps ks : List Str} {sp : Sp} {E : XK} {x m : Str} {p pos apos kpos : Pos} {e o : Expr} {es : List Expr} {kws : List Keyword} {te ta : TE} {t tk : TA} {nm : Option Str}
structure KBinds (K : PySem.W.Frag) (fd : FuncData) (ps ks : List Str) (g : List Value → List Value → List Value) (gV : List V → List V → List V) : Prop where
  to : ∀ (s : Shared) (us ws : List Value), K.In s.heap → (g us ws).length = ps.length → BindsTo s fd ⟨us, ks.zip ws⟩ (ps.zip (g us ws))
  rel : ∀ {vs : List V} {us : List Value} {zs : List V} {ws : List Value}, Vals vs us → Vals zs ws → Vals (gV vs zs) (g us ws)
variable {g : List Value → List Value → List Value} {gV : List V → List V → List V}
end
structure FnScope (N P : List Str) (sc : Scope) : Prop where
  kind : sc.kind = .function
  co : sc.isCoroutine = false
  gen : sc.isGenerator = false
  nd : N.Nodup
  pre : N.take P.length = P
  par : ∀ x ∈ P, sc.names.lookup x = some .local ∨ sc.names.lookup x = some .cell
  nofree : ∀ y ∈ sc.names, y.2 ≠ .free
theorem bindL_out {kindOf : Str → Option NameKind} {x : Str} : ∀ {binds : List (Str × Value)} {m : Str → Option Value}, (∀ v, (x, v) ∉ binds) → bindL kindOf binds m x = m x
  | [], _, _ => rfl
  | (n, v) :: r, m, h => by
    unfold bindL
    rw [bindL_out fun w hw => h w (List.mem_cons_of_mem _ hw)]
    split
    · have : x ≠ n := by rintro rfl; exact h v List.mem_cons_self
      simp [this]
    · rfl
theorem bindC_out {kindOf : Str → Option NameKind} {x : Str} : ∀ {binds : List (Str × Value)} {m : Str → Option Value}, (∀ v, (x, v) ∉ binds) → bindC kindOf binds m x = m x
  | [], _, _ => rfl
  | (n, v) :: r, m, h => by
    unfold bindC
    rw [bindC_out fun w hw => h w (List.mem_cons_of_mem _ hw)]
    split
    · rfl
    · have : x ≠ n := by rintro rfl; exact h v List.mem_cons_self
      simp [this]
theorem bindL_get {kindOf : Str → Option NameKind} {x : Str} {v : Value} : ∀ {P : List Str} {vs : List Value} {i : Nat} {m : Str → Option Value}, P.Nodup → P[i]? = some x → vs[i]? = some v → kindOf x = some .local →
    bindL kindOf (P.zip vs) m x = some v
  | [], _, _, _, _, h, _, _ => by simp at h
  | _ :: _, [], _, _, _, _, h, _ => by simp at h
  | p :: P, w :: vs, 0, m, nd, h1, h2, hk => by
    simp at h1 h2; subst h1; subst h2
    show bindL kindOf ((p, w) :: P.zip vs) m p = _
    unfold bindL
    rw [bindL_out fun v hv => (List.nodup_cons.mp nd).1 (List.of_mem_zip hv).1, if_pos hk]
    simp
  | p :: P, w :: vs, i + 1, m, nd, h1, h2, hk => by
    show bindL kindOf ((p, w) :: P.zip vs) m x = _
    unfold bindL
    exact bindL_get (i := i) (List.nodup_cons.mp nd).2 (by simpa using h1) (by simpa using h2) hk
theorem bindC_get {kindOf : Str → Option NameKind} {x : Str} {v : Value} : ∀ {P : List Str} {vs : List Value} {i : Nat} {m : Str → Option Value}, P.Nodup → P[i]? = some x → vs[i]? = some v → kindOf x ≠ some .local →
    bindC kindOf (P.zip vs) m x = some v
  | [], _, _, _, _, h, _, _ => by simp at h
  | _ :: _, [], _, _, _, _, h, _ => by simp at h
  | p :: P, w :: vs, 0, m, nd, h1, h2, hk => by
    simp at h1 h2; subst h1; subst h2
    show bindC kindOf ((p, w) :: P.zip vs) m p = _
    unfold bindC
    rw [bindC_out fun v hv => (List.nodup_cons.mp nd).1 (List.of_mem_zip hv).1, if_neg hk]
    simp
  | p :: P, w :: vs, i + 1, m, nd, h1, h2, hk => by
    show bindC kindOf ((p, w) :: P.zip vs) m x = _
    unfold bindC
    exact bindC_get (i := i) (List.nodup_cons.mp nd).2 (by simpa using h1) (by simpa using h2) hk
noncomputable def start (N : List Str) (vs : List V) : St := vs.map some ++ List.replicate (N.length - vs.length) none
noncomputable def cxOf (CX : CXT) (P : Program) (w : World) (K : PySem.W.Frag) (mg : Str → Option Value) (base : Heap) (N : List Str) (qual : Str) (scope : Scope) (f : Addr) (cd : Value) (A : Around) (outer : List Env) (s : Shared) (H : Hp) (E : XK) : Cx where
  prog := P
  w := w
  K := K
  mg := mg
  base := base
  A := A.deeper (envOfC qual scope s.heap.objs.size f cd)
  N := N
  s₀ := s
  H₀ := H
  env := envOfC qual scope s.heap.objs.size f cd
  outer := outer
  stack := envOfC qual scope s.heap.objs.size f cd :: outer
  ex := []
  calm := true
  fn := fun _ => true
  pn := []
  xe := fun e s' => wpAny (model P w) (A.deeper (envOfC qual scope s.heap.objs.size f cd)) (leaving (envOfC qual scope s.heap.objs.size f cd) e) (fun _ s'' => CX outer H s E e s'') (fun e' s'' => CX outer H s E e' s'') s'
theorem cell_has {sc : Scope} {n : Nat} {x : Str} (h : sc.names.lookup x = some .cell) : ∃ c, (cellsFrom n sc.names []).lookup x = some c := by
  have q := PySem.W.cellsFrom_some sc.names n [] (.inl h)
  exact Option.isSome_iff_exists.mp q
theorem inv_start {CX : CXT} {P : Program} {w : World} {K : PySem.W.Frag} {mg : Str → Option Value} {base : Heap} {N ps : List Str} {qual : Str} {scope : Scope} {f : Addr} {cd : Value} {A : Around} {outer : List Env} {s s1 : Shared} {H : Hp} {E : XK} {us : List Value} {vs : List V}
    (S : FnScope N ps scope) (hd : A.handled = none) (e0 : Env0 P w K mg base A outer s H) (hl : vs.length = ps.length) (r : Vals vs us)
    (x : InCallC s s.heap.objs.size (bindL (envOfC qual scope s.heap.objs.size f cd).kindOf (ps.zip us) fun _ => none) (cellsFrom (s.heap.objs.size + 1) scope.names []) (bindC (envOfC qual scope s.heap.objs.size f cd).kindOf (ps.zip us) fun _ => none) s1) :
    Inv (cxOf CX P w K mg base N qual scope f cd A outer s H E) [] (start N vs) H s1 := by
  have hpl : ps.length ≤ N.length := by have := congrArg List.length S.pre; rw [List.length_take] at this; omega
  obtain ⟨h1, tk, rfl, hk⟩ := x.done
  have noA : ∀ b : Addr, b ∉ (cxOf CX P w K mg base N qual scope f cd A outer s H E).ex := fun b z => absurd (show b ∈ ([] : List Addr) from z) (by simp)
  refine ⟨⟨e0.mod, S.kind, rfl, rfl, Nat.le_refl _, fun y z c h1 h2 => ?_, fun y hy => ?_, fun y c _ h => ?_, fun _ => hd, Around.frames_deeper e0.frames, .inr ⟨rfl, rfl⟩, fun b z => absurd z (noA b), e0.bs, e0.bsz, fun b _ _ => noA b, fun b z => absurd z (noA b), e0.funs, e0.frf⟩,
    rfl, e0.bare, Un.kept hk, ⟨_, x.toInCall.ns, fun i y v h1 h2 h3 => ?_⟩, fun y c h => ⟨_, x.cell y c h⟩, e0.hok.fresh (Nat.le_refl _), fun y c h => ?_, fun p hp => absurd (show p ∈ ([] : List (Addr × Obj)) from hp) (by simp), e0.hok.kept hk, ?_⟩
  · exact name_of_addr x.apart (PySem.mem_of_lookup h1) (PySem.mem_of_lookup h2)
  · have hy : scope.names.lookup y = some .cell ∨ scope.names.lookup y = some .free := hy
    rcases hy with hy | hy
    · exact cell_has hy
    · exact absurd rfl (S.nofree _ (PySem.mem_of_lookup hy))
  · exact Nat.le_of_lt (x.above y c (PySem.mem_of_lookup h))
  · have hi : i < vs.length := by
      unfold start at h2
      by_cases hi : i < vs.length
      · exact hi
      · rw [List.getElem?_append_right (by simpa using hi)] at h2
        rw [List.getElem?_replicate] at h2
        split at h2 <;> cases h2
    have ha : vs[i]? = some v := by
      unfold start at h2
      rw [List.getElem?_append_left (by simpa using hi), List.getElem?_map] at h2
      cases e : vs[i]? with
      | none => rw [e] at h2; cases h2
      | some a => rw [e] at h2; cases h2; rfl
    obtain ⟨u, hu, rv⟩ := r.get ha
    have hp : ps[i]? = some y := by
      rw [← S.pre, List.getElem?_take_of_lt (by omega)]; exact h1
    have ndP : ps.Nodup := by rw [← S.pre]; exact S.nd.sublist (List.take_sublist _ _)
    refine ⟨u, rv, ?_⟩
    rcases S.par y (List.mem_of_getElem? hp) with k | k
    · exact .inl ⟨k, bindL_get ndP hp hu k⟩
    · obtain ⟨c, e⟩ := cell_has (n := s.heap.objs.size + 1) k
      refine .inr ⟨.inl k, c, e, ?_⟩
      have q := x.cell y c e
      rw [bindC_get ndP hp hu (by show scope.names.lookup y ≠ _; rw [k]; decide)] at q
      exact q
  · exact e0.hok.fresh (Nat.le_of_lt (x.above y c (PySem.mem_of_lookup h)))
  · unfold start
    show _ = N.length
    rw [List.length_append, List.length_map, List.length_replicate]
    omega
theorem fn_of {CX : CXT} {P : Program} {w : World} {K : PySem.W.Frag} {mg : Str → Option Value} {base : Heap} {k : Nat} {f : Addr} {name qual : Str} {params : Arguments} {body : List Stmt} {scope : Scope} {dV kV doc pm cdv ct oc : Value} {an od : Option Addr}
    {osl : Array (Option Value)} {N ps : List Str} {sp : Sp} (lk : K.lookup f = some ⟨oc, od, .func (PySem.W.fnOf name qual params body scope dV kV doc pm an cdv ct), osl⟩) (hcd : PySem.W.codeIn K cdv qual = true) (S : FnScope N ps scope)
    (len : ∀ vs H Q E, sp vs H Q E → vs.length = ps.length)
    (hbody : ∀ (A : Around) (outer : List Env) (s : Shared) (H : Hp) (vs : List V) (Q : VK) (E : XK), Room k (A.deeper (envOfC qual scope s.heap.objs.size f cdv)) → sp vs H Q E →
      ∃ t, PSs (cxOf CX P w K mg base N qual scope f cdv A outer s H E) body t ∧ t { nx := fun _ H' => Q .non H', rt := Q } (start N vs) H) :
    FnOk P w K mg base CX (k + 1) f (PySem.W.fnOf name qual params body scope dV kV doc pm an cdv ct) ps sp := by
  refine ⟨len, fun A outer s H args us vs Q E hr e0 hb r hsp => ?_⟩
  have hl := len _ _ _ _ hsp
  have KX : K.In s.heap := e0.mod.kin.keeps fun b o e => (e0.bs b o e).1
  have lim : s.heap.NoLimit := e0.mod.nolimit.keeps fun b o e => (e0.bs b o e).1
  have hkind : ∀ y ∈ ps.zip us, scope.names.lookup y.1 = some .local ∨ (scope.names.lookup y.1 = some .cell ∧ ((cellsFrom (s.heap.objs.size + 1) scope.names []).lookup y.1).isSome = true) := fun ⟨n, v⟩ hy => by
    rcases S.par n (List.of_mem_zip hy).1 with q | q
    · exact .inl q
    · exact .inr ⟨q, PySem.W.cellsFrom_some _ _ _ (.inl q)⟩
  refine codeAny_call_function hr.depth (KX _ _ lk) rfl S.co S.gen rfl (PySem.W.codeRec_of KX hcd) (hb _ _ _ _ ?_)
  refine wpAny_newFunctionEnv_cells S.kind hkind fun env he s1 x => ?_
  subst he
  refine ⟨lim.keeps x.toInCall.keep, codeAny_func ?_⟩
  obtain ⟨t, ht, hq⟩ := hbody A outer s H vs Q E (hr.deeper _) hsp
  have I : Inv (cxOf CX P w K mg base N qual scope f cdv A outer s H E) [] (start N vs) H s1 := inv_start S hr.hd e0 hl r x
  refine wpAny_mono (ht [] s1 (start N vs) H _ I hq) (fun fl s' hs => ?_) fun e s' hs => hs
  have fin : ∀ {σ' : St} {H' : Hp} {v : V} {u : Value}, Inv (cxOf CX P w K mg base N qual scope f cdv A outer s H E) [] σ' H' s' → RelV v u → Q v H' → CE outer P w H s Q u s' :=
    fun {σ' H' v u} J rv q => ⟨v, H', J.os, J.bare, J.base, J.hok, rv, q⟩
  cases fl with
  | ret u =>
    obtain ⟨v, σ', H', J, rv, q⟩ := hs
    exact fin J rv q
  | next =>
    obtain ⟨σ', H', J, q⟩ := hs
    exact fin (v := V.non) (u := Value.none) J rfl q
  | brk =>
    obtain ⟨_, _, _, q⟩ := hs
    exact False.elim q
  | cont =>
    obtain ⟨_, _, _, q⟩ := hs
    exact False.elim q
end L2
namespace L2
open PySem PySem.Spec PyProof.Rows
section
variable {X : Cx} {x : Str} {p pos : Pos} {e : Expr} {es : List Expr} {t : TA} {id T : String} {r : List V → Hp → VK → Prop}
noncomputable def tCB (r : List V → Hp → VK → Prop) (t : TA) : TE := fun σ H Q => t σ H fun vs H1 => r vs H1 Q
theorem pe_callB (hc : CallR X (.builtin id) r) (hg : Gl X x) (hm : X.mg x = none) (hv : bootBuiltins x = some (.builtin id)) (ha : PA X (e :: es) t) (hn : x ≠ "__name__" := by decide) (hdb : (x == ("__debug__" : Str)) = false := by decide)
    (he : starEach (e :: es) X.env = (false, eval e X.env) :: starEach es X.env := by rfl) (hpl : (backTo pos (starEach es X.env)).any (·.1) = false := by rfl) : PE X (.Call (.Name x p) (e :: es) [] pos) (tCB r t) := by
  intro pins s σ H Q I h
  refine wpAny_Call_Name_kw (ld_blt I hg hm hv ?_ hn hdb)
  refine PyProof.Rows.callWith_builtin1 (thn (ha pos pins s σ H _ I h) fun us s1 qz9 => ?_) he hpl
  obtain ⟨vs, H1, I1, r1, q1⟩ := qz9
  exact hc pins s1 σ H1 vs us Q I1 r1 q1
theorem pe_callTy (hc : CallR X (.type T) r) (hg : Gl X x) (hm : X.mg x = none) (hv : bootBuiltins x = some (.type T)) (ha : PA X (e :: es) t) (hn : x ≠ "__name__" := by decide) (hdb : (x == ("__debug__" : Str)) = false := by decide)
    (he : starEach (e :: es) X.env = (false, eval e X.env) :: starEach es X.env := by rfl) (hpl : (backTo pos (starEach es X.env)).any (·.1) = false := by rfl) : PE X (.Call (.Name x p) (e :: es) [] pos) (tCB r t) := by
  intro pins s σ H Q I h
  refine wpAny_Call_Name_kw (ld_blt I hg hm hv ?_ hn hdb)
  refine PyProof.Rows.callWith_type1 (thn (ha pos pins s σ H _ I h) fun us s1 qz9 => ?_) he hpl
  obtain ⟨vs, H1, I1, r1, q1⟩ := qz9
  exact hc pins s1 σ H1 vs us Q I1 r1 q1
end
end L2
namespace HT
open PySem PyProof.Rows
section
open PySem.SeqAt
open PySem.AutoSeq1 (wpAny_loadPart')
open PySem.MeetsSeq PySem.MeetsSeq2 PySem.MeetsSeq3
end
section
variable {prog : Program} {w : World} {A : Around} {E : Value → Shared → Prop} {s : Shared}
noncomputable def sIx (n d : Nat) : Option Int → Nat
  | none => d
  | some v => if v < 0 then (v + (n : Int)).toNat else min v.toNat n
end
end HT
namespace L2
open PySem PySem.Spec PyProof.Rows
noncomputable abbrev TO := St → Hp → (Option Int → Hp → Prop) → Prop
section
variable {X : Cx} {e : Expr} {te : TE} {lo hi : Option Expr} {tl th : TO} {pos p2 : Pos}
end
end L2
namespace L2
open PySem PySem.Spec PyProof.Rows
noncomputable def ixN (n : Nat) (i : Int) : Option Nat := if 0 ≤ i then (if i < n then some i.toNat else none) else if -(n : Int) ≤ i then some (i + n).toNat else none
noncomputable def atI {α : Type} (xs : List α) (i : Int) : Option α := (ixN xs.length i).bind fun j => xs[j]?
theorem ixN_seq {n : Nat} {i : Int} {j : Nat} (h : ixN n i = some j) : seqIndex? i n = some j ∧ j < n ∧ -(n : Int) ≤ i ∧ i < n := by
  unfold ixN at h
  by_cases h0 : 0 ≤ i
  · rw [if_pos h0] at h
    by_cases h1 : i < n
    · rw [if_pos h1] at h
      have e : i.toNat = j := Option.some.inj h
      exact ⟨by rw [seqIndex_of h0 h1, e], by omega, by omega, h1⟩
    · rw [if_neg h1] at h; cases h
  · rw [if_neg h0] at h
    by_cases h1 : -(n : Int) ≤ i
    · rw [if_pos h1] at h
      have e : (i + n).toNat = j := Option.some.inj h
      exact ⟨by rw [seqIndex_neg (by omega) h1, e], by omega, h1, by omega⟩
    · rw [if_neg h1] at h; cases h
theorem atI_get {α : Type} {xs : List α} {i : Int} {v : α} (h : atI xs i = some v) : ∃ j, seqIndex? i xs.length = some j ∧ xs[j]? = some v ∧ j < xs.length ∧ -(xs.length : Int) ≤ i ∧ i < xs.length := by
  unfold atI at h
  cases e : ixN xs.length i with
  | none => rw [e] at h; cases h
  | some j =>
    rw [e] at h
    obtain ⟨h1, h2, h3, h4⟩ := ixN_seq e
    exact ⟨j, h1, h, h2, h3, h4⟩
noncomputable def PlainIx (b : Expr) : Prop := ∀ o i, subscripted b false o i = operate [o, i] (getItem o i)
noncomputable def IxR (X : Cx) (r : R2) : Prop :=
  ∀ (value slice : Expr) (pins : List (Addr × Obj)) (s : Shared) (σ : St) (H : Hp) (x y : V) (v u : Value) (Q : VK), Inv X pins σ H s → RelV x v → RelV y u → r x y H Q →
    subscripted slice false v u = operate [v, u] (getItem v u) → wpAny (model X.prog X.w) X.A (subscriptTail value slice v u) (EP X pins σ Q) X.xe s
noncomputable def MtR (X : Cx) (id : String) (r : V → List V → Hp → VK → Prop) : Prop :=
  ∀ (pins : List (Addr × Obj)) (s : Shared) (σ : St) (H : Hp) (x : V) (xs : List V) (v : Value) (us : List Value) (Q : VK), Inv X pins σ H s → RelV x v → Vals xs us → r x xs H Q →
    wpAny (model X.prog X.w) X.A (call (.builtin id) (v :: us)) (EP X pins σ Q) X.xe s
section
variable {X : Cx} {a b : Expr} {ta tb : TE} {pos : Pos}
theorem IxR.or {r r' : R2} (h : IxR X r) (h' : IxR X r') : IxR X (fun x y H Q => r x y H Q ∨ r' x y H Q) := by
  intro value slice pins s σ H x y v u Q I rx ry q hs
  rcases q with q | q
  · exact h value slice pins s σ H x y v u Q I rx ry q hs
  · exact h' value slice pins s σ H x y v u Q I rx ry q hs
theorem pe_ix {r : R2} (hr : IxR X r) (ha : PE X a ta) (hb : PE X b tb) (hs : PlainIx b) : PE X (.Subscript a b pos) (tOp r ta tb) := by
  intro pins s σ H Q I h
  exact Subscript_ (binT ha hb I h fun v u s2 x y H2 I2 rx ry q => hr a b pins s2 σ H2 x y v u Q I2 rx ry q (hs _ _))
noncomputable def rIxL (K : PySem.W.Frag) : R2 := fun x y H Q => ∃ p xs i v, x = .ref p ∧ y = .int i ∧ SqL K H p xs ∧ atI xs i = some v ∧ Q v H
noncomputable def rIxT (K : PySem.W.Frag) : R2 := fun x y H Q => ∃ p xs i v, x = .ref p ∧ y = .int i ∧ SqT K H p xs ∧ atI xs i = some v ∧ Q v H
noncomputable def rIxS : R2 := fun x y H Q => ∃ z i c, x = .str z ∧ y = .int i ∧ z.length ≤ sizeLine ∧ atI z.cps.toList i = some c ∧ Q (.str ⟨#[c]⟩) H
theorem ix_list : IxR X (rIxL X.K) := by
  intro value slice pins s σ H x y v u Q I rx ry h hs
  obtain ⟨p, xs, i, z, rfl, rfl, hq, he, q⟩ := h
  cases rx
  obtain ⟨t, rfl⟩ := ry
  obtain ⟨its, r, pl, hz⟩ := I.list hq
  obtain ⟨j, h1, h2, h3, h4, h5⟩ := atI_get he
  obtain ⟨w, ew, rw'⟩ := r.get h2
  have hl := r.length
  have hn := line63
  have fin : EP X pins σ Q w s := ⟨z, H, I, rw', q⟩
  by_cases h0 : 0 ≤ i
  · have hj : i.toNat = j := by
      rw [seqIndex_of h0 h5] at h1
      exact Option.some.inj h1
    exact item_listR pl.isList h0 (by omega) (by rw [hj]; simpa using ew) fin hs
  · have hj : (i + (its.toArray.size : Int)).toNat = j := by
      rw [seqIndex_neg (by omega) h4] at h1
      rw [List.size_toArray, ← hl]
      exact Option.some.inj h1
    exact subscriptTail_builtinR (x := w) pl.isList.typeIs slot_list_getitem.lookup
      (wpAny_getItem_list_neg (Q := fun r s' => r = w ∧ EP X pins σ Q r s') pl.isList (by omega) (by rw [List.size_toArray] <;> omega) (by omega) (by rw [hj]; simpa using ew) ⟨rfl, fin⟩) hs
theorem ix_tup : IxR X (rIxT X.K) := by
  intro value slice pins s σ H x y v u Q I rx ry h hs
  obtain ⟨p, xs, i, z, rfl, rfl, hq, he, q⟩ := h
  cases rx
  obtain ⟨t, rfl⟩ := ry
  obtain ⟨its, r, pl, hz⟩ := I.tuple hq
  obtain ⟨j, h1, h2, h3, h4, h5⟩ := atI_get he
  obtain ⟨w, ew, rw'⟩ := r.get h2
  have hl := r.length
  have hn := line63
  have fin : EP X pins σ Q w s := ⟨z, H, I, rw', q⟩
  exact subscriptTail_builtinR (x := w) pl.typeIs slot_tuple_getitem.lookup
    (getItem_tuple (j := j) (Q := fun r s' => r = w ∧ EP X pins σ Q r s') pl (by omega) (by omega) (by rw [List.size_toArray, ← hl]; exact h1) (by simpa using ew) ⟨rfl, fin⟩) hs
theorem ix_str : IxR X rIxS := by
  intro value slice pins s σ H x y v u Q I rx ry h hs
  obtain ⟨z, i, c, rfl, rfl, hz, he, q⟩ := h
  obtain ⟨t, rfl⟩ := rx
  obtain ⟨t', rfl⟩ := ry
  obtain ⟨j, h1, h2, h3, h4, h5⟩ := atI_get he
  have hl : z.cps.toList.length = z.length := by simp [Str.length]
  rw [hl] at h1 h4 h5
  have hn := line63
  exact tail_any (typeIs_str s z t) slot_str_getitem.lookup (getItem_str (c := c) (by
    have e1 : decide (i < -(2 ^ 63 : Int)) = false := decide_eq_false (by omega)
    have e2 : decide (i ≥ 2 ^ 63) = false := decide_eq_false (by omega)
    rw [e1, e2, Bool.or_false]) (by rw [h1]; simpa using h2) ⟨.str ⟨#[c]⟩, H, I.tok _, ⟨_, rfl⟩, q⟩) hs
noncomputable def rIx (K : PySem.W.Frag) : R2 := fun x y H Q => rIxL K x y H Q ∨ rIxT K x y H Q ∨ rIxS x y H Q
theorem ix_seq : IxR X (rIx X.K) := ix_list.or (ix_tup.or ix_str)
theorem mapSeq_set (its : List Value) (n j : Nat) (u : Value) : Obj.mapSeq (·.setIfInBounds j u) { cls := .type "list", data := .seq its.toArray n } = { cls := .type "list", data := .seq (its.set j u).toArray n } := by
  simp [Obj.mapSeq]
theorem Inv.lst {pins : List (Addr × Obj)} {σ : St} {H : Hp} {s : Shared} {p : Addr} {xs : List V} (I : Inv X pins σ H s) (h : H p = some (.lst xs)) :
    ∃ (its : List Value) (n : Nat), Vals xs its ∧ s.heap.get? p = some { cls := .type "list", data := .seq its.toArray n } ∧ xs.length ≤ sizeLine := by
  obtain ⟨z, its, n, r, e⟩ := I.hok p _ h
  exact ⟨its, n, r, e, z⟩
theorem Inv.lstUpd {pins : List (Addr × Obj)} {σ : St} {H : Hp} {s : Shared} {p : Addr} {xs ys : List V} {its its' : List Value} {n n' : Nat} {f : Obj → Obj} (I : Inv X pins σ H s) (h : H p = some (.lst xs))
    (ho : s.heap.get? p = some { cls := .type "list", data := .seq its.toArray n }) (hf : f { cls := .type "list", data := .seq its.toArray n } = { cls := .type "list", data := .seq its'.toArray n' }) (r : Vals ys its') (hz : ys.length ≤ sizeLine) (t : Nat) :
    Inv X pins σ (upd H p (.lst ys)) { s with heap := s.heap.update p f, toks := t } := by
  have e : (s.heap.update p f).get? p = some { cls := .type "list", data := .seq its'.toArray n' } := by
    rw [Heap.get?_update_self f ho (by rw [hf] <;> rfl), hf]
  refine I.write (x := p) (e := p) (by rw [h]; trivial) (.inl rfl) (fun b u hb q => (Heap.get?_update_other _ _ (Ne.symm hb)).trans q) ⟨_, e⟩ ?_
  exact ⟨hz, its', n', r, e⟩
noncomputable def rSetL : V → V → V → Hp → (Hp → Prop) → Prop := fun o i v H Q => ∃ p xs k j, o = .ref p ∧ i = .int k ∧ H p = some (.lst xs) ∧ ixN xs.length k = some j ∧ Q (upd H p (.lst (xs.set j v)))
theorem set_list : PSet X rSetL := by
  intro pins s σ H o i v ov iv u Q I ro ri rv h
  obtain ⟨p, xs, k, j, rfl, rfl, hp, hj, q⟩ := h
  cases ro
  obtain ⟨t, rfl⟩ := ri
  obtain ⟨its, n, r, ho, hz⟩ := I.lst hp
  obtain ⟨h1, h2, h3, h4⟩ := ixN_seq hj
  have hl := r.length
  have hn := line63
  have I' : Inv X pins σ (upd H p (.lst (xs.set j v))) { s with heap := s.heap.update p (Obj.mapSeq (·.setIfInBounds j u)) } :=
    I.lstUpd hp ho (mapSeq_set its n j u) (r.set rv j) (by rw [List.length_set]; exact hz) s.toks
  by_cases h0 : 0 ≤ k
  · have hk : k.toNat = j := by
      rw [seqIndex_of h0 h4] at h1
      exact Option.some.inj h1
    exact PySem.W.ki_setAt ho h0 (by omega) (by rw [List.size_toArray, ← hl]; exact h4) (by rw [hk]; exact ⟨_, I', q⟩)
  · have hk : (k + (its.toArray.size : Int)).toNat = j := by
      rw [seqIndex_neg (by omega) h3] at h1
      rw [List.size_toArray, ← hl]
      exact Option.some.inj h1
    exact PySem.W.ki_setBack ho (by omega) (by rw [List.size_toArray, ← hl]; exact h3) (by omega) (by rw [hk]; exact ⟨_, I', q⟩)
theorem call_len_seq : CallR X (.builtin "len") (fun xs H Q => ∃ p ys, xs = [.ref p] ∧ (SqL X.K H p ys ∨ SqT X.K H p ys) ∧ Q (.int ys.length) H) := by
  intro pins s σ H xs us Q I r h
  obtain ⟨p, ys, rfl, hq, q⟩ := h
  obtain ⟨u, rfl, rx⟩ := vals1 r
  cases rx
  have hn := line63
  rcases hq with hq | hq
  · obtain ⟨its, r', pl, hz⟩ := I.list hq
    have hlen := r'.length
    exact Calls.call_len_list pl.isList (by simp only [List.size_toArray] <;> omega) ⟨.int ys.length, H, I.tok _, ⟨s.toks + 1, by rw [List.size_toArray, hlen]⟩, q⟩
  · obtain ⟨its, r', pl, hz⟩ := I.tuple hq
    have hlen := r'.length
    exact len_tuple pl (by simp only [List.size_toArray] <;> omega) ⟨.int ys.length, H, I.tok _, ⟨s.toks + 1, by rw [List.size_toArray, hlen]⟩, q⟩
noncomputable def tyV (K : PySem.W.Frag) (T : String) (x : V) (H : Hp) : Prop := match x with
  | .str _ => T = "str"
  | .int _ => T = "int"
  | .ref p => (T = "list" ∧ ∃ xs, SqL K H p xs) ∨ (T = "tuple" ∧ ∃ o, K.lookup p = some o ∧ o.cls = .type "tuple" ∧ o.dict = none) ∨
      (T = "dict" ∧ ((∃ kvs, H p = some (.dK kvs)) ∨ ∃ kvs, H p = some (.dT kvs))) ∨ (T = "set" ∧ ∃ S n, H p = some (.set S n))
  | _ => False
theorem tyV_is {pins : List (Addr × Obj)} {σ : St} {H : Hp} {s : Shared} {T : String} {x : V} {v : Value} (I : Inv X pins σ H s) (r : RelV x v) (ty : tyV X.K T x H) :
    s.TypeIs v T ∧ ∀ a, v = .ref a → ∃ ob, s.heap.get? a = some ob ∧ ob.dict = none := by
  cases x with
  | str z =>
    obtain ⟨t, rfl⟩ := r
    cases (show T = "str" from ty)
    exact ⟨typeIs_str s z t, fun _ e => nomatch e⟩
  | int i =>
    obtain ⟨t, rfl⟩ := r
    cases (show T = "int" from ty)
    exact ⟨typeIs_int s i t, fun _ e => nomatch e⟩
  | ref p =>
    cases r
    rcases ty with ⟨rfl, xs, hq⟩ | ⟨rfl, o, hk, hc, hd⟩ | ⟨rfl, hk⟩ | ⟨rfl, S, n, hk⟩
    · obtain ⟨its, _, pl, _⟩ := I.list hq
      refine ⟨pl.isList.typeIs, fun a e => ?_⟩
      cases e
      obtain ⟨o, n, e, c, hd, _⟩ := pl
      exact ⟨o, e, hd⟩
    · refine ⟨⟨o, I.kIn p o hk, hc⟩, fun a e => ?_⟩
      cases e
      exact ⟨o, I.kIn _ o hk, hd⟩
    · have z : ∃ o, s.heap.get? p = some o ∧ o.ExactDict := by
        rcases hk with ⟨kvs, hk⟩ | ⟨kvs, hk⟩
        · obtain ⟨_, _, _, _, o, _, _, e, ex, _⟩ := I.hok p _ hk
          exact ⟨o, e, ex⟩
        · obtain ⟨_, _, _, _, o, _, _, e, ex, _⟩ := I.hok p _ hk
          exact ⟨o, e, ex⟩
      obtain ⟨o, e, ex⟩ := z
      refine ⟨⟨o, e, ex.1⟩, fun a e2 => ?_⟩
      cases e2
      exact ⟨o, e, ex.2.1⟩
    · obtain ⟨o, _, _, _, e, ex, _⟩ := I.hok p _ hk
      refine ⟨⟨o, e, ex.1⟩, fun a e2 => ?_⟩
      cases e2
      exact ⟨o, e, ex.2.1⟩
  | _ => exact False.elim ty
noncomputable def tBM (K : PySem.W.Frag) (T : String) (r : V → List V → Hp → VK → Prop) (to : TE) (t : TA) : TE := fun σ H Q => to σ H fun x H1 => tyV K T x H1 ∧ t σ H1 fun xs H2 => r x xs H2 Q
variable {o e : Expr} {es : List Expr} {to : TE} {t : TA} {name : Str} {apos cpos : Pos} {T id : String} {r : V → List V → Hp → VK → Prop}
theorem pe_bm (pa : PlainAttrs T) (slot : Slot T name id) (hty : typeOf (.builtin id) = pure (.type "method_descriptor")) (hm : MtR X id r) (ho : PE X o to) (ha : PA X (e :: es) t)
    (hbase : attributeBase o name X.env (eval o X.env) = eval o X.env := by rfl)
    (hfew : ((backTo cpos (starEach (e :: es) X.env)).all (fun x => !x.1) && (backToKw cpos (keywordEach [] X.env)).all (fun x => x.1.isSome)
      && decide ((e :: es).length + ([] : List Keyword).length + (if ([] : List Keyword).isEmpty then 0 else 1) < 30)) = true := by rfl)
    (hline : (apos.endLine == cpos.line) = true := by rfl) (hs : starEach (e :: es) X.env = (false, eval e X.env) :: starEach es X.env := by rfl) (hplain : (backTo cpos (starEach es X.env)).any (·.1) = false := by rfl) :
    PE X (.Call (.Attribute o name apos) (e :: es) [] cpos) (tBM X.K T r to t) := by
  intro pins s σ H Q I h
  refine wpAny_Call_method_late hbase hfew hline rfl (thn (ho pins s σ H _ I h) fun v s1 qz9 => ?_)
  obtain ⟨x, H1, I1, r1, ty, q1⟩ := qz9
  obtain ⟨h1, h2⟩ := tyV_is I1 r1 ty
  refine ⟨T, id, pa, slot, hty, h1, h2, ?_⟩
  have hA := ha cpos pins s1 σ H1 _ I1 q1
  rw [hs] at hA ⊢
  refine Calls.callWith_builtin (by show (false || (backTo cpos (starEach es X.env)).any (·.1)) = false; rw [hplain] <;> rfl) (Calls.evalArgs_plain ?_)
  refine thn hA fun us s2 qz9 => ?_
  obtain ⟨vs, H2, I2, r2, q2⟩ := qz9
  exact hm pins s2 σ H2 x vs v us Q I2 r1 r2 q2
end
end L2
namespace L2
open PySem PySem.Spec PyProof.Rows
noncomputable def MtM (X : Cx) (id : String) (r : V → List V → Hp → VK → Prop) : Prop :=
  ∀ (pins : List (Addr × Obj)) (s : Shared) (σ : St) (H : Hp) (x : V) (xs : List V) (v : Value) (us : List Value) (Q : VK), Inv X pins σ H s → RelV x v → Vals xs us → r x xs H Q →
    wpAny (model X.prog X.w) X.A (call (.builtin id) (v :: us)) (EP X pins σ Q) X.xe s
theorem Vals.one {x : V} {us : List Value} (h : Vals [x] us) : ∃ u, us = [u] ∧ RelV x u := by
  cases h with
  | cons r t => cases t; exact ⟨_, rfl, r⟩
section
variable {X : Cx} {pins : List (Addr × Obj)} {σ : St} {H : Hp} {s : Shared} {l b : Addr} {xs ys zs : List V}
theorem Inv.lset {its its' : List Value} {n : Nat} {f : Array Value → Array Value} {t' : Nat} (I : Inv X pins σ H s) (hH : H l = some (.lst xs))
    (e : s.heap.get? l = some { cls := .type "list", data := .seq its.toArray n }) (hf : f its.toArray = its'.toArray) (hv : Vals ys its') (hz : ys.length ≤ sizeLine) :
    Inv X pins σ (upd H l (.lst ys)) { s with heap := s.heap.update l (Obj.mapSeq f), toks := t' } := by
  have q := PySem.IsL.update e f
  rw [hf] at q
  refine I.write (x := l) (e := l) (by rw [hH]; exact trivial) (.inl rfl) (fun b' u hb hu => (Heap.get?_update_other s.heap (Obj.mapSeq f) (Ne.symm hb)).trans hu) ⟨_, q⟩ ?_
  exact ⟨hz, its', _, hv, q⟩
theorem Inv.lstM (I : Inv X pins σ H s) (hH : H l = some (.lst xs)) : xs.length ≤ sizeLine ∧ ∃ (its : List Value) (n : Nat), Vals xs its ∧ xs.length = its.length ∧ s.heap.get? l = some { cls := .type "list", data := .seq its.toArray n } := by
  obtain ⟨z, its, n, r, e⟩ := I.hok l _ hH
  exact ⟨z, its, n, r, r.length, e⟩
end
section
variable {X : Cx}
noncomputable def rAppend : V → List V → Hp → VK → Prop := fun x vs H Q => ∃ l xs y, x = .ref l ∧ vs = [y] ∧ H l = some (.lst xs) ∧ xs.length < sizeLine ∧ Q .non (upd H l (.lst (xs ++ [y])))
theorem mt_append : MtM X "list.append" rAppend := by
  intro pins s σ H x vs v us Q I rx rv h
  obtain ⟨l, xs, y, rfl, rfl, hH, hz, q⟩ := h
  cases rx
  obtain ⟨u, rfl, ru⟩ := rv.one
  obtain ⟨z, its, n, r, hl, e⟩ := I.lstM hH
  refine call_meets F.slot_list_append ⟨_, e, rfl⟩ F.entry_list_append (F.args_list_append_2 _ _) (PySem.list_append l its.toArray n u (by rw [List.size_toArray]; omega)) ⟨e, ?_⟩
  refine ⟨.non, _, I.lset (its' := its ++ [u]) hH e (by simp) (r.append (.cons ru .nil)) ?_, rfl, q⟩
  rw [List.length_append, List.length_singleton]
  omega
end
section
variable {prog : Program} {w : World} {A : Around} {E : Value → Shared → Prop} {s : Shared}
end
section
variable {X : Cx}
end
end L2
namespace Att
open PySem PySem.W PySem.Calls PyProof.Rows
theorem ints_of_wellAll {P : Params} {h : Heap} : ∀ (ns : List Int) (vs : List Value), WellAll P h vs (ns.map WData.int) → IntsAre vs ns := by
  intro ns
  induction ns with
  | nil =>
    intro vs w
    rw [List.map_nil] at w
    cases w
    exact .nil
  | cons n ns ih =>
    intro vs w
    rw [List.map_cons] at w
    cases w with
    | cons a b =>
      cases a
      exact .cons _ _ (ih _ b)
theorem script_of {l : OpenLaw} {n : Nat} (hn : l.most = some n) {P : Params} {h : Heap} {args : List WData} {vals : List Value}
    (hpre : l.row.toRowW.claim.pre args = true) (hwl : WellAll P h vals args) :
    ∃ a vs ns, vals = [Value.ref a] ∧ args = [WData.list (ns.map WData.int)] ∧ h.get? a = some { cls := .type "list", data := .seq vs.toArray } ∧ IntsAre vs ns ∧ ns.length ≤ n := by
  have hsh : WShape.hasAll [] args [.list .int] = true := (pre_splitW hpre).1
  have hc : l.pre.holds [] { args := args } = true := (pre_splitW hpre).2
  obtain ⟨d, r, rfl, h1, h2⟩ := hasAllW_cons hsh
  obtain rfl := hasAllW_nil h2
  obtain ⟨xs, rfl, h3⟩ := hasW_list h1
  obtain ⟨ns, rfl⟩ := items_int h3
  have hlen : ns.length ≤ n := by
    unfold OpenLaw.pre at hc
    have h4 : (WTm.not (.lt (.lit (.int (n : Int))) (.len (.arg 0)))).holds [] { args := [.list (ns.map .int)] } = true := by
      have h4 := (holds_andW hc).1
      rw [hn] at h4
      exact h4
    have h5 := condW_of h4 (w_not (w_lt w_lit (w_len_list (w_arg rfl))))
    rw [List.length_map] at h5
    refine Nat.le_of_not_lt fun q => ?_
    have q' : (n : Int) < ((ns.length : Nat) : Int) := by omega
    first
      | (rw [decide_eq_true q'] at h5; exact absurd h5 (by decide))
      | (simp at h5; omega)
  cases hwl with
  | cons w1 w2 =>
    cases w2
    cases w1 with
    | list ho hall => exact ⟨_, _, ns, rfl, rfl, ho, ints_of_wellAll ns _ hall, hlen⟩
theorem post_true (l : OpenLaw) (args : List WData) : l.row.toRowW.claim.post args (.bool true) args = true :=
  postW_of (r := l.row.toRowW) (X := (true == true))
    (show WShape.has [] (.bool true) .bool = true by first | rfl | decide | simp [WShape.has, WShape.arms, WShape.armsAll])
    (show (WTm.eq .res (.lit (.bool true))).value [] { args := args, res := some (.bool true), after := args } = some (.bool (true == true)) from w_eq_bool (w_res rfl) w_lit) rfl
theorem attach_call {l : OpenLaw} {n : Nat} {q : Program} {loose : List Str} {XP : (Str → Option Value) → Heap → Prop} {YP : World → Heap → Prop} {d : DefRec}
    (hn : l.most = some n) (hdf : d.params.defaults = [])
    (call : ∀ (w : World) (s₀ s₁ : Shared) (mg mb : Str → Option Value) (fa : Addr) (o : Obj) (pm cd doc : Value) (a : Addr) (vs : List Value) (ns : List Int),
      Ground q loose [] XP w s₀ mg mb s₁.heap → YP w s₁.heap →
      s₁.heap.get? fa = some o → o.data = .func (docDef d.name d.params d.body d.scope pm cd doc) → s₁.heap.CodeRec cd d.name → mg d.name = some (.ref fa) →
      s₁.heap.get? a = some { cls := .type "list", data := .seq vs.toArray } → IntsAre vs ns → ns.length ≤ n → s₁.gens = #[] →
      codeAny (model l.prog w) callerA (.call (.ref fa) ⟨[.ref a], []⟩) (fun r s' => r = .ok (.ret (.bool true)) ∧ OldK s₁.heap s'.heap ∧ s'.os = s₁.os ∧ AllBare s'.gens) s₁) :
    WalkO q loose XP YP l.row.toRowW d [] (fun f vs => PySem.call f vs) := by
  intro w s₀ s₁ mg mb G Y fa o pm cd doc dV kV ho hd hcd hD hmg hg args vals as hpre hlay hrd hwl hlo
  obtain rfl : dV = .none := Dflts.none hD hdf
  obtain rfl : kV = .none := Dflts.noKw hD
  obtain ⟨a, vs, ns, rfl, rfl, hobj, hints, hlen⟩ := script_of hn hpre hwl
  refine enter_call (codeAny_mono (call w s₀ s₁ mg mb fa o pm cd doc a vs ns G Y ho (fd_plain hd) hcd hmg hobj hints hlen hg) fun r s' hq => ?_)
  obtain ⟨rfl, h2, h3, h4⟩ := hq
  exact ⟨.inl ⟨.bool true, .bool true, [], rfl, fun _ => rfl, .bool true, post_true l _, fun _ => ⟨List.Pairwise.nil, fun _ hm => (nomatch hm)⟩⟩, h2, h3, h4⟩
section
variable {prog : Program} {w : World} {A : Around} {E : Value → Shared → Prop} {s : Shared} {K : Frag}
end
end Att
namespace L2
open PySem PySem.Spec PyProof.Rows
theorem vals_ints {vs : List Value} {ns : List Int} (h : IntsAre vs ns) : Vals (ns.map V.int) vs := by
  induction h with
  | nil => exact .nil
  | cons n t h ih => exact .cons ⟨t, rfl⟩ ih
noncomputable def Only (H : Hp) : Prop := ∀ b, H b = none ∨ ∃ o xs, H b = some (.frz o (.lst xs))
theorem law_call {P : Program} {w : World} {K : PySem.W.Frag} {mg mb : Str → Option Value} {CX : CXT} {k : Nat} {fa a : Addr} {fd : FuncData} {x : Str} {sp : Sp} {s₁ : Shared} {vs : List Value} {ns : List Int}
    (KX : K.In s₁.heap) (hns : s₁.heap.Ns mainGlobals mg) (hb : s₁.heap.Ns builtinsNs mb) (hbb : ∀ x : Str, x ≠ "__name__" → mb x = bootBuiltins x) (hlim : s₁.heap.NoLimit) (hg : s₁.gens = #[])
    (ha : s₁.heap.get? a = some { cls := .type "list", data := .seq vs.toArray }) (hi : IntsAre vs ns) (hl : ns.length ≤ sizeLine) (hr : Room k callerA)
    (F : ∀ base : Heap, K.In base → base.Ns mainGlobals mg → FnOk P w K mg base CX k fa fd [x] sp) (hbind : ∀ (s : Shared) (u : Value), BindsTo s fd ⟨[u], []⟩ [(x, u)])
    (hsp : ∀ H : Hp, Only H → SqL K H a (ns.map V.int) → sp [.ref a] H (fun v _ => v = .bl true) fun _ _ _ => False)
    (hCX : ∀ H e s', CX [] H s₁ (fun _ _ _ => False) e s' → False) :
    codeAny (model P w) callerA (.call (.ref fa) ⟨[.ref a], []⟩) (fun r s' => r = .ok (.ret (.bool true)) ∧ OldK s₁.heap s'.heap ∧ s'.os = s₁.os ∧ AllBare s'.gens) s₁ := by
  have rv := vals_ints hi
  have lenV := hi.length
  -- from an abstract heap in which nothing but the script may be tracked
  have core : ∀ H : Hp, Only H → SqL K H a (ns.map V.int) → HOk P w H s₁.heap → (∀ b, H b ≠ none → b = a) → (H a ≠ none → K.lookup a = none) →
      codeAny (model P w) callerA (.call (.ref fa) ⟨[.ref a], []⟩) (fun r s' => r = .ok (.ret (.bool true)) ∧ OldK s₁.heap s'.heap ∧ s'.os = s₁.os ∧ AllBare s'.gens) s₁ := by
    intro H hO hS hok hA hK
    have base_of : ∀ {b : Addr} {o : Obj}, s₁.heap.get? b = some o → H b = none → (hidT s₁.heap H).get? b = some o := fun e n => hidT_get e n
    have noA : ∀ {b : Addr} {o : Obj} {es : Array DictEntry} {ep : Nat}, s₁.heap.get? b = some o → o.data = .dict es ep → H b = none := fun {b o es ep} e d => by
      cases q : H b with
      | none => rfl
      | some u =>
        have e' : b = a := hA b (by rw [q]; simp)
        subst e'
        rw [ha] at e; cases e
        have d' : Data.seq vs.toArray _ = Data.dict es ep := d
        cases d'
    have nsK : ∀ {b : Addr} {m : Str → Option Value}, s₁.heap.Ns b m → (hidT s₁.heap H).Ns b m := fun {b m} ⟨o, es, ep, e, d, r⟩ => ⟨o, es, ep, base_of e (noA e d), d, r⟩
    have hKb : K.In (hidT s₁.heap H) := fun b o e => base_of (KX b o e) (by
      cases q : H b with
      | none => rfl
      | some u =>
        have e' : b = a := hA b (by rw [q]; simp)
        subst e'
        rw [hK (by rw [q]; simp)] at e; cases e)
    have hM : Mod K mg (hidT s₁.heap H) := ⟨hKb, nsK hns, ⟨mb, nsK hb, hbb⟩, let ⟨mc, h1, h2⟩ := hlim; ⟨mc, nsK h1, h2⟩⟩
    have e0 : Env0 P w K mg (hidT s₁.heap H) callerA [] s₁ H := ⟨rfl, hM, fun b o e => of_hidT e, Nat.le_of_eq (hidT_size _ _), trivial, fun b hb => absurd (show b ∈ ([] : List Addr) from hb) (by simp), hok, .of_eq hg⟩
    refine codeAny_mono ((F _ hKb (nsK hns)).run callerA [] s₁ H ⟨[.ref a], []⟩ [.ref a] [.ref a] _ _ hr e0 (hbind s₁ (.ref a)) (.cons rfl .nil) (hsp H hO hS)) fun r s' h => ?_
    cases r with
    | error e => exact (hCX H e s' h).elim
    | ok fl =>
      cases fl with
      | next => exact False.elim h
      | brk => exact False.elim h
      | cont => exact False.elim h
      | ret u =>
        obtain ⟨v, H', os, bare, un, hok', r', q⟩ := h
        have q' : v = .bl true := q
        subst q'
        obtain rfl : u = Value.bool true := r'
        refine ⟨rfl, OldK.of_keep fun b o e => ?_, os, bare⟩
        cases q : H b with
        | none => exact un.keep b o e q (by intro z; exact absurd (show b ∈ ([] : List Addr) from z) (by simp)) (by simp)
        | some u =>
          rcases hO b with z | ⟨ob, xs, z⟩
          · rw [q] at z; cases z
          · have z2 := un.frzs b ob _ z
            obtain ⟨e1, _⟩ := hok b _ z
            obtain ⟨e2, _⟩ := hok' b _ z2
            rw [e] at e1; cases e1
            exact e2
  cases hk : K.lookup a with
  | some o =>
    -- the script is one of the module's own objects
    have e := KX a o hk
    rw [ha] at e
    cases e
    refine core (fun _ => none) (fun _ => .inl rfl) (.inr ⟨_, vs.toArray, _, hk, rfl, rfl, rfl, by rw [List.size_toArray, lenV]; exact hl, by simpa using rv⟩) (fun b u z => by have z' : (none : Option HO) = some u := z; cases z') (fun b z => absurd rfl z) fun z => absurd rfl z
  | none =>
    refine core (fun b => if b = a then some (.frz { cls := .type "list", data := .seq vs.toArray } (.lst (ns.map V.int))) else none) (fun b => ?_) (.inl (.inr ⟨{ cls := .type "list", data := .seq vs.toArray }, if_pos rfl⟩)) (fun b u z => ?_) (fun b z => ?_) fun _ => hk
    · by_cases hb : b = a
      · exact .inr ⟨_, _, if_pos hb⟩
      · exact .inl (if_neg hb)
    · by_cases hb : b = a
      · have z' := (if_pos hb).symm.trans z
        cases z'
        subst hb
        exact ⟨ha, by rw [List.length_map]; exact hl, vs, _, rv, ha⟩
      · have z' := (if_neg hb).symm.trans z
        cases z'
    · by_cases hb : b = a
      · exact hb
      · exact absurd (if_neg hb) z
end L2
namespace L2
open PySem PySem.Spec PyProof.Rows
noncomputable abbrev KOf {K : PySem.W.Frag} {h : Heap} (_ : K.In h) : PySem.W.Frag := K
theorem walk_of {l : PySem.W.OpenLaw} {n k : Nat} {q : Program} {loose : List Str} {XP : (Str → Option Value) → Heap → Prop} {YP : World → Heap → Prop} {d : DefRec} {K : Params → PySem.W.Frag} {CX : World → CXT} {sp : World → Sp} {x : Str}
    (hn : l.most = some n) (hn2 : n ≤ sizeLine) (hdf : d.params.defaults = []) (hr : Room k callerA)
    (hY : ∀ (w : World) (h : Heap), YP w h → (K w.params).In h)
    (F : ∀ (w : World) (mg : Str → Option Value) (fa : Addr) (h : Heap), (K w.params).In h → h.Ns mainGlobals mg → mg d.name = some (.ref fa) →
      ∃ fd : FuncData, (∀ (s : Shared) (u : Value), BindsTo s fd ⟨[u], []⟩ [(x, u)]) ∧
        ∀ base : Heap, (K w.params).In base → base.Ns mainGlobals mg → FnOk l.prog w (K w.params) mg base (CX w) k fa fd [x] (sp w))
    (hsp : ∀ (w : World) (H : Hp) (a : Addr) (ns : List Int), ns.length ≤ n → Only H → SqL (K w.params) H a (ns.map V.int) → sp w [.ref a] H (fun v _ => v = .bl true) fun _ _ _ => False)
    (hCX : ∀ (w : World) (H : Hp) (s : Shared) (e : Value) (s' : Shared), CX w [] H s (fun _ _ _ => False) e s' → False) :
    PySem.W.WalkO q loose XP YP l.row.toRowW d [] (fun f vs => PySem.call f vs) := by
  refine Att.attach_call hn hdf fun w s₀ s₁ mg mb fa o pm cd doc a vs ns G Y ho hd hcd hmg hobj hints hlen hg => ?_
  have KX := hY w _ Y
  obtain ⟨fd, hb, hF⟩ := F w mg fa _ KX G.T.g hmg
  exact law_call KX G.T.g G.T.b G.T.builtins G.T.nolimit hg hobj hints (Nat.le_trans hlen hn2) hr hF hb (fun H hO hS => hsp w H a ns hlen hO hS) fun H e s' => hCX w H s₁ e s'
end L2
namespace L2
open PySem PySem.Spec PyProof.Rows
noncomputable def defArgs (s : Stmt) : Arguments := match s with
  | .FunctionDef _ a _ _ _ _ _ _ _ _ => a
  | _ => { posonlyargs := [], args := [], vararg := none, kwonlyargs := [], kw_defaults := [], kwarg := none, defaults := [] }
noncomputable def defBody (s : Stmt) : List Stmt := match s with
  | .FunctionDef _ _ b _ _ _ _ _ _ _ => b
  | _ => []
noncomputable def defScope (s : Stmt) : Scope := match s with
  | .FunctionDef _ _ _ _ _ _ sc _ _ _ => sc
  | _ => { kind := .function, names := [], isGenerator := false, isCoroutine := false }
noncomputable abbrev CX0 : CXT := fun _ _ _ _ _ _ => False
noncomputable abbrev E0 : XK := fun _ _ _ => False
theorem pass0 {X : Cx} : Passes CX0 X E0 := fun _ _ _ _ _ _ _ h => h.elim
structure Fun (K : PySem.W.Frag) (x qual : Str) (st : Stmt) (f : Addr) (fd : FuncData) : Prop where
  ex : ∃ (oc : Value) (od : Option Addr) (kV doc pm : Value) (an : Option Addr) (cdv ct : Value) (osl : Array (Option Value)),
    fd = PySem.W.fnOf x qual (defArgs st) (defBody st) (defScope st) .none kV doc pm an cdv ct ∧ K.lookup f = some ⟨oc, od, .func fd, osl⟩ ∧ PySem.W.codeIn K cdv qual = true
  kp : PySem.W.keepIn K (.ref f) = true
section
variable {P : Program} {w : World} {K : PySem.W.Frag} {mg : Str → Option Value} {base : Heap}
theorem Fun.ok {x qual : Str} {st : Stmt} {f : Addr} {fd : FuncData} {N ps : List Str} {k : Nat} {sp : Sp} (F : Fun K x qual st f fd) (S : FnScope N ps (defScope st)) (len : ∀ vs H Q E, sp vs H Q E → vs.length = ps.length)
    (hbody : ∀ (cdv : Value) (A : Around) (outer : List Env) (s : Shared) (H : Hp) (vs : List V) (Q : VK) (E : XK), Room k (A.deeper (envOfC qual (defScope st) s.heap.objs.size f cdv)) → sp vs H Q E →
      ∃ t, PSs (cxOf CX0 P w K mg base N qual (defScope st) f cdv A outer s H E).nox (defBody st) t ∧ t { nx := fun _ H' => Q .non H', rt := Q } (start N vs) H) : FnOk P w K mg base CX0 (k + 1) f fd ps sp := by
  obtain ⟨oc, od, kV, doc, pm, an, cdv, ct, osl, rfl, lk, hcd⟩ := F.ex
  refine fn_of lk hcd S len fun A outer s H vs Q E hr hsp => ?_
  obtain ⟨t, h, q⟩ := hbody cdv A outer s H vs Q E hr hsp
  exact ⟨t, h.nox, q⟩
theorem Fun.binds {x qual : Str} {st : Stmt} {f : Addr} {fd : FuncData} {ps : List Str} (F : Fun K x qual st f fd)
    (h : ∀ (kV doc pm : Value) (an : Option Addr) (cdv ct : Value) (us : List Value), us.length = ps.length → bindArgs (PySem.W.fnOf x qual (defArgs st) (defBody st) (defScope st) .none kV doc pm an cdv ct) ⟨us, []⟩ = pure (ps.zip us)) : Binds K fd ps [] := by
  obtain ⟨oc, od, kV, doc, pm, an, cdv, ct, osl, rfl, lk, hcd⟩ := F.ex
  exact .all (h kV doc pm an cdv ct)
theorem fun_mk {x qual : Str} {st : Stmt} {f : Addr} {oc : Value} {od an : Option Addr} {osl : Array (Option Value)} {kV doc pm cdv ct : Value} (l : K.lookup f = some ⟨oc, od, .func (PySem.W.fnOf x qual (defArgs st) (defBody st) (defScope st) .none kV doc pm an cdv ct), osl⟩)
    (c : PySem.W.codeIn K cdv qual = true) (k : PySem.W.keepIn K (.ref f) = true) : Fun K x qual st f (PySem.W.fnOf x qual (defArgs st) (defBody st) (defScope st) .none kV doc pm an cdv ct) := ⟨⟨oc, od, kV, doc, pm, an, cdv, ct, osl, rfl, l, c⟩, k⟩
end
section
variable {X : Cx}
theorem pv (i : Nat) {x : Str} {pos : Pos} (hN : X.N[i]? = some x := by rfl) (hv : Vis X.env.scope x := by first | exact Or.inl rfl | exact Or.inr (Or.inl rfl) | exact Or.inr (Or.inr rfl)) (hd : (x == ("__debug__" : Str)) = false := by decide)
    (hcd : (x == ("__classdict__" : Str)) = false := by decide) : PE X (.Name x pos) (tVar i) := pe_var hN hv hd hcd
end
noncomputable def Same (H H' : Hp) : Prop := ∀ b o, H b = some o → H' b = some o
theorem Same.refl (H : Hp) : Same H H := fun _ _ h => h
theorem Same.free {H H' : Hp} (e : Same H H') {l : Addr} (h : H' l = Option.none) : H l = Option.none := by
  cases q : H l with
  | none => rfl
  | some o =>
    rw [e l o q] at h
    cases h
end L2
set_option maxHeartbeats 4000000
namespace L2
open PySem PySem.Spec PyProof.Rows
noncomputable def Bt (n : Nat) (x : Int) : Prop := x.natAbs < 2 ^ n
theorem Bt.mono {m n : Nat} {x : Int} (h : Bt m x) (hn : m ≤ n) : Bt n x := Nat.lt_of_lt_of_le h (Nat.pow_le_pow_right (by decide) hn)
theorem Bt.mul {m n : Nat} {x y : Int} (h : Bt m x) (k : Bt n y) : Bt (m + n) (x * y) := by
  unfold Bt at *
  rw [Int.natAbs_mul, Nat.pow_add]
  exact Nat.mul_lt_mul'' h k
theorem Bt.neg {m : Nat} {x : Int} (h : Bt m x) : Bt m (-x) := by
  unfold Bt at *
  rw [Int.natAbs_neg]
  exact h
theorem Bt.add {m n : Nat} {x y : Int} (h : Bt m x) (k : Bt n y) : Bt (m + n + 1) (x + y) := by
  unfold Bt at *
  have h1 : 2 ^ m ≤ 2 ^ (m + n) := Nat.pow_le_pow_right (by decide) (by omega)
  have h2 : 2 ^ n ≤ 2 ^ (m + n) := Nat.pow_le_pow_right (by decide) (by omega)
  have h3 : 2 ^ (m + n + 1) = 2 * 2 ^ (m + n) := by rw [Nat.pow_succ]; omega
  have h4 := Int.natAbs_add_le x y
  omega
theorem Bt.add' {m : Nat} {x y : Int} (h : Bt m x) (k : Bt m y) : Bt (m + 1) (x + y) := by
  unfold Bt at *
  have h3 : 2 ^ (m + 1) = 2 * 2 ^ m := by rw [Nat.pow_succ]; omega
  have h4 := Int.natAbs_add_le x y
  omega
theorem Bt.of_le {m : Nat} {x y : Int} (h : Bt m x) (k : y.natAbs ≤ x.natAbs) : Bt m y := Nat.lt_of_le_of_lt k h
theorem Bt.of_lt {m : Nat} {x : Int} (h1 : -(2 ^ m) < x) (h2 : x < 2 ^ m) : Bt m x := by
  unfold Bt
  have e : ((2 ^ m : Nat) : Int) = 2 ^ m := by simp
  omega
theorem Bt.bits {m : Nat} {x : Int} (h : Bt m x) : Builtin.Int.intBits x ≤ m := by
  unfold Builtin.Int.intBits
  split
  · exact Nat.zero_le _
  · rename_i hx
    have hp : x.natAbs ≠ 0 := by
      intro e
      apply hx
      have : x = 0 := by omega
      subst this
      rfl
    have := (Nat.log2_lt hp).mpr h
    omega
theorem Bt.mulOk {m n : Nat} {x y : Int} (h : Bt m x) (k : Bt n y) (hmn : m + n ≤ 100000000 := by decide) : IntMulOk x y := by
  have h1 := h.bits
  have h2 := k.bits
  have h3 : Builtin.Int.intTooBig (Builtin.Int.intBits x + Builtin.Int.intBits y) = false := by
    unfold Builtin.Int.intTooBig bitsLine
    exact decide_eq_false (by omega)
  unfold IntMulOk
  rw [h3]
  simp
noncomputable def DivOk (_ j : Int) : Prop := j ≠ 0 ∧ j.natAbs.log2 < 9000
theorem DivOk.of {i j : Int} {n : Nat} (h0 : j ≠ 0) (h : Bt n j) (hn : n ≤ 9000 := by decide) : DivOk i j := by
  refine ⟨h0, ?_⟩
  have hp : j.natAbs ≠ 0 := by omega
  have := (Nat.log2_lt hp).mpr h
  omega
section
variable {X : Cx}
theorem op_mulG : OpR X (binaryOp .Mult) (rI IntMulOk fun i j => .int (i * j)) := opI fun _ _ _ _ _ _ _ hc q => mul_int q hc
theorem op_fdivG : OpR X (binaryOp .FloorDiv) (rI DivOk fun i j => .int (i.fdiv j)) := opI fun _ _ _ _ _ _ _ hc q => floordiv_int hc.1 q (.inl (PyProof.noPylong_of_log2 hc.2))
theorem op_powG : OpR X (binaryOp .Pow) (rI CPow fun i j => .int (i ^ j.toNat)) := op_pow
end
end L2
namespace L2
open PySem PySem.Spec PyProof.Rows
structure BlockCells (h : Heap) (lo : Nat) (names : List (Str × NameKind)) (acc cs : List (Str × Addr)) : Prop where
  mem : ∀ n c, (n, c) ∈ cs → (n, c) ∈ acc ∨ (h.IsCell c none ∧ lo ≤ c ∧ (n, NameKind.cell) ∈ names)
  has : ∀ n, (n, NameKind.cell) ∈ names → ∃ c, (n, c) ∈ cs
  old : ∀ p ∈ acc, p ∈ cs
end L2
namespace L2
open PySem PySem.Spec PyProof.Rows
structure CompScope (X : Cx) (own : List Str) (caps : List Nat) (N' : List Str) (sc : Scope) : Prop where
  kind : sc.kind = .function
  nd : N'.Nodup
  names : N' = own ++ caps.map fun i => X.N.getD i Str.empty
  nn : (sc.names.map (·.1)).Nodup
  free : (sc.names.all fun y => y.2 != .free || (X.env.kindOf y.1 == some .cell || X.env.kindOf y.1 == some .free)) = true
  caps : (caps.all fun i => sc.names.lookup (X.N.getD i Str.empty) == some .free) = true
section
variable {X : Cx} {own : List Str} {caps : List Nat} {N' : List Str} {sc : Scope}
end
end L2
namespace L2
open PySem PySem.Spec PyProof.Rows
section
variable {X : Cx} {own : List Str} {caps : List Nat} {N' : List Str} {sc : Scope} {tg elt iter : Expr} {ifs : List Expr} {pos : Pos} {wi : TI} {g : TG} {tt : TT} {te : TE}
end
end L2
namespace L2
open PySem PySem.Spec PyProof.Rows
section
variable {X : Cx} {own : List Str} {caps : List Nat} {N' : List Str} {sc : Scope} {tg elt iter : Expr} {ifs : List Expr} {pos : Pos} {wi : TI} {g : TG} {tt : TT} {te : TE}
end
section
variable (n : Nat) (D : Addr) (Pv : Nat → List V → St → Hp → Prop)
variable {n D Pv}
end
end L2
namespace L2
open PySem PySem.Spec PyProof.Rows
mutual
inductive Is (H : Hp) (L : Addr → Prop) : V → PyData → Prop where
  | non : Is H L .non .none
  | bl (b : Bool) : Is H L (.bl b) (.bool b)
  | int (i : Int) : Is H L (.int i) (.int i)
  | str (x : Str) : Is H L (.str x) (.str x)
  | lst {a : Addr} {xs : List V} {ds : List PyData} : L a → H a = some (.lst xs) → IsAll H L xs ds → Is H L (.ref a) (.list ds)
  | tup {a : Addr} {xs : List V} {ds : List PyData} : H a = some (.tup xs) → IsAll H L xs ds → Is H L (.ref a) (.tuple ds)
inductive IsAll (H : Hp) (L : Addr → Prop) : List V → List PyData → Prop where
  | nil : IsAll H L [] []
  | cons {x : V} {xs : List V} {d : PyData} {ds : List PyData} : Is H L x d → IsAll H L xs ds → IsAll H L (x :: xs) (d :: ds)
end
section
variable {H H' : Hp} {L L' : Addr → Prop}
theorem Is.both {P : V → PyData → Prop} {Q : List V → List PyData → Prop} (c1 : P .non .none) (c2 : ∀ b, P (.bl b) (.bool b)) (c3 : ∀ i, P (.int i) (.int i)) (c4 : ∀ x, P (.str x) (.str x))
    (c5 : ∀ {a : Addr} {xs : List V} {ds : List PyData}, L a → H a = some (.lst xs) → Q xs ds → P (.ref a) (.list ds)) (c6 : ∀ {a : Addr} {xs : List V} {ds : List PyData}, H a = some (.tup xs) → Q xs ds → P (.ref a) (.tuple ds))
    (n : Q [] []) (c : ∀ {x : V} {xs : List V} {d : PyData} {ds : List PyData}, P x d → Q xs ds → Q (x :: xs) (d :: ds)) : (∀ {v d}, Is H L v d → P v d) ∧ ∀ {xs ds}, IsAll H L xs ds → Q xs ds :=
  ⟨fun h => Is.rec (motive_1 := fun v d _ => P v d) (motive_2 := fun xs ds _ => Q xs ds) c1 c2 c3 c4 (fun p e _ r => c5 p e r) (fun e _ r => c6 e r) n (fun _ _ p q => c p q) h,
   fun h => IsAll.rec (motive_1 := fun v d _ => P v d) (motive_2 := fun xs ds _ => Q xs ds) c1 c2 c3 c4 (fun p e _ r => c5 p e r) (fun e _ r => c6 e r) n (fun _ _ p q => c p q) h⟩
theorem IsAll.ind {Q : List V → List PyData → Prop} (n : Q [] []) (c : ∀ {x : V} {xs : List V} {d : PyData} {ds : List PyData}, Is H L x d → IsAll H L xs ds → Q xs ds → Q (x :: xs) (d :: ds)) : ∀ {xs ds}, IsAll H L xs ds → Q xs ds := fun h =>
  IsAll.rec (motive_1 := fun _ _ _ => True) (motive_2 := fun xs ds _ => Q xs ds) trivial (fun _ => trivial) (fun _ => trivial) (fun _ => trivial) (fun _ _ _ _ => trivial) (fun _ _ _ => trivial) n (fun p q _ r => c p q r) h
theorem Is.frame2 (hl : ∀ a xs, L a → H a = some (.lst xs) → L' a ∧ H' a = some (.lst xs)) (ht : ∀ a xs, H a = some (.tup xs) → H' a = some (.tup xs)) : (∀ {v : V} {d : PyData}, Is H L v d → Is H' L' v d) ∧ ∀ {xs : List V} {ds : List PyData}, IsAll H L xs ds → IsAll H' L' xs ds :=
  Is.both .non .bl .int .str (fun p e r => .lst (hl _ _ p e).1 (hl _ _ p e).2 r) (fun e r => .tup (ht _ _ e) r) .nil .cons
theorem Is.frame (hl : ∀ a xs, L a → H a = some (.lst xs) → L' a ∧ H' a = some (.lst xs)) (ht : ∀ a xs, H a = some (.tup xs) → H' a = some (.tup xs)) {v : V} {d : PyData} (h : Is H L v d) : Is H' L' v d := (Is.frame2 hl ht).1 h
theorem IsAll.frame (hl : ∀ a xs, L a → H a = some (.lst xs) → L' a ∧ H' a = some (.lst xs)) (ht : ∀ a xs, H a = some (.tup xs) → H' a = some (.tup xs)) {xs : List V} {ds : List PyData} (h : IsAll H L xs ds) : IsAll H' L' xs ds := (Is.frame2 hl ht).2 h
theorem Is.same (h : Same H H') {v : V} {d : PyData} (x : Is H L v d) : Is H' L v d := x.frame (fun a xs p e => ⟨p, h _ _ e⟩) fun a xs e => h _ _ e
theorem IsAll.same (h : Same H H') {v : List V} {d : List PyData} (x : IsAll H L v d) : IsAll H' L v d := x.frame (fun a xs p e => ⟨p, h _ _ e⟩) fun a xs e => h _ _ e
theorem Is.wide (h : ∀ a, L a → L' a) {v : V} {d : PyData} (x : Is H L v d) : Is H L' v d := x.frame (fun a xs p e => ⟨h a p, e⟩) fun a xs e => e
theorem IsAll.wide (h : ∀ a, L a → L' a) {v : List V} {d : List PyData} (x : IsAll H L v d) : IsAll H L' v d := x.frame (fun a xs p e => ⟨h a p, e⟩) fun a xs e => e
theorem IsAll.length {xs : List V} {ds : List PyData} (h : IsAll H L xs ds) : xs.length = ds.length := IsAll.ind (Q := fun xs ds => xs.length = ds.length) rfl (fun _ _ r => congrArg (· + 1) r) h
theorem IsAll.set {xs : List V} {ds : List PyData} {x : V} {d : PyData} (i : Nat) (h : IsAll H L xs ds) (k : Is H L x d) : IsAll H L (xs.set i x) (ds.set i d) :=
  IsAll.ind (Q := fun xs ds => ∀ i, IsAll H L (xs.set i x) (ds.set i d)) (fun _ => .nil) (fun h q r i => Nat.casesOn i (.cons k q) fun i => .cons h (r i)) h i
end
section
variable {X : Cx} {pins : List (Addr × Obj)} {σ : St} {H : Hp} {s : Shared} {L L' : Addr → Prop}
end
noncomputable abbrev Shp (d : PyData) : Prop := SeqAt.shaped d = true
section
variable {X : Cx}
end
noncomputable def fr (a b : Int) : PyData := .tuple [.int a, .int b]
end L2
namespace L2
open PySem PySem.Spec PyProof.Rows
theorem gcd_pos' {t b : Int} (hb : b ≠ 0) : 0 < (Int.gcd t b : Int) := by
  have := Int.gcd_pos_of_ne_zero_right t hb
  omega
theorem fdiv_of_dvd {t g : Int} (hg : 0 < g) : t.fdiv g = t / g := Int.fdiv_eq_ediv_of_nonneg t (by omega)
theorem fdiv_neg_of_dvd {t g : Int} (hg : 0 < g) (h : g ∣ t) : t.fdiv (-g) = -(t / g) := by
  obtain ⟨k, rfl⟩ := h
  rw [Int.mul_ediv_cancel_left _ (by omega)]
  have e : g * k = (-k) * (-g) := by rw [Int.neg_mul_neg, Int.mul_comm]
  rw [e, Int.mul_fdiv_cancel _ (by omega)]
noncomputable def shr (t b : Int) : Int := if b < 0 then -(Int.gcd t b : Int) else (Int.gcd t b : Int)
theorem low_num {t b : Int} (hb : b ≠ 0) : t.fdiv (shr t b) = (Rat.divInt t b).num := by
  have hg := gcd_pos' (t := t) hb
  have hd : (Int.gcd t b : Int) ∣ t := Int.gcd_dvd_left ..
  rw [Rat.num_divInt, Int.gcd_comm b t]
  unfold shr
  by_cases h : b < 0
  · rw [if_pos h, fdiv_neg_of_dvd hg hd, Int.sign_eq_neg_one_of_neg h, Int.neg_one_mul, Int.neg_ediv_of_dvd hd]
  · rw [if_neg h, fdiv_of_dvd hg, Int.sign_eq_one_of_pos (by omega), Int.one_mul]
theorem low_den {t b : Int} (hb : b ≠ 0) : b.fdiv (shr t b) = ((Rat.divInt t b).den : Int) := by
  have hg := gcd_pos' (t := t) hb
  have hd : (Int.gcd t b : Int) ∣ b := Int.gcd_dvd_right ..
  rw [Rat.den_divInt, if_neg hb, Int.gcd_comm b t]
  unfold shr
  by_cases h : b < 0
  · have e : (b.natAbs : Int) = -b := by omega
    rw [if_pos h, fdiv_neg_of_dvd hg hd, Int.natCast_ediv, e, Int.neg_ediv_of_dvd hd]
  · have e : (b.natAbs : Int) = b := by omega
    rw [if_neg h, fdiv_of_dvd hg, Int.natCast_ediv, e]
theorem shr_ne {t b : Int} (hb : b ≠ 0) : shr t b ≠ 0 := by
  have hg := gcd_pos' (t := t) hb
  unfold shr
  split <;> omega
theorem shr_bt {n : Nat} {t b : Int} (hb : b ≠ 0) (h : Bt n b) : Bt n (shr t b) := by
  have h1 : Bt n (Int.gcd t b : Int) := by
    refine Bt.of_le h ?_
    have := Int.gcd_le_natAbs_right t hb
    omega
  unfold shr
  split
  · exact h1.neg
  · exact h1
theorem num_bt {n : Nat} {t b : Int} (hb : b ≠ 0) (h : Bt n t) : Bt n (Rat.divInt t b).num := by
  rw [Rat.num_divInt]
  refine Bt.of_le h ?_
  refine Nat.le_trans (Int.natAbs_ediv_le_natAbs _ _) ?_
  rw [Int.natAbs_mul]
  have : b.sign.natAbs ≤ 1 := by
    rw [Int.natAbs_sign]
    split <;> omega
  calc b.sign.natAbs * t.natAbs ≤ 1 * t.natAbs := Nat.mul_le_mul_right _ this
    _ = t.natAbs := Nat.one_mul _
theorem den_bt {n : Nat} {t b : Int} (hb : b ≠ 0) (h : Bt n b) : Bt n ((Rat.divInt t b).den : Int) := by
  rw [Rat.den_divInt, if_neg hb]
  refine Bt.of_le h ?_
  show ((b.natAbs / b.gcd t : Nat) : Int).natAbs ≤ _
  rw [Int.natAbs_natCast]
  exact Nat.div_le_self _ _
theorem den_ne (q : Rat) : (q.den : Int) ≠ 0 := by
  have := q.den_pos
  omega
theorem den_pos' (q : Rat) : (0 : Int) < (q.den : Int) := by
  have := q.den_pos
  omega
theorem mul_ne {a b : Int} (ha : a ≠ 0) (hb : b ≠ 0) : a * b ≠ 0 := Int.mul_ne_zero ha hb
theorem rat_plus (q r : Rat) : Rat.divInt (q.num * (r.den : Int) + r.num * (q.den : Int)) ((q.den : Int) * (r.den : Int)) = q + r := by
  rw [Rat.add_def', ← Int.natCast_mul, Rat.divInt_ofNat]
theorem rat_times (q r : Rat) : Rat.divInt (q.num * r.num) ((q.den : Int) * (r.den : Int)) = q * r := by
  rw [Rat.mul_def', ← Int.natCast_mul, Rat.divInt_ofNat]
noncomputable def frV (q : Rat) : List V := [.int q.num, .int (q.den : Int)]
noncomputable def FQ (H : Hp) (v : V) (q : Rat) : Prop := ∃ p, v = .ref p ∧ H p = some (.tup (frV q))
noncomputable def frD (q : Rat) : PyData := fr q.num (q.den : Int)
theorem FQ.same {H H' : Hp} {v : V} {q : Rat} (s : Same H H') (h : FQ H v q) : FQ H' v q := by
  obtain ⟨p, rfl, e⟩ := h
  exact ⟨p, rfl, s _ _ e⟩
noncomputable def BQ (n : Nat) (q : Rat) : Prop := Bt n q.num ∧ Bt n (q.den : Int)
theorem BQ.mono {m n : Nat} {q : Rat} (h : BQ m q) (k : m ≤ n) : BQ n q := ⟨h.1.mono k, h.2.mono k⟩
theorem BQ.div {n : Nat} {t b : Int} (hb : b ≠ 0) (h : Bt n t) (k : Bt n b) : BQ n (Rat.divInt t b) := ⟨num_bt hb h, den_bt hb k⟩
theorem BQ.plus {n : Nat} {q r : Rat} (h : BQ n q) (k : BQ n r) : BQ (n + n + 1) (q + r) := by
  rw [← rat_plus]
  exact .div (mul_ne (den_ne _) (den_ne _)) ((h.1.mul k.2).add' (k.1.mul h.2)) ((h.2.mul k.2).mono (by omega))
theorem BQ.times {n : Nat} {q r : Rat} (h : BQ n q) (k : BQ n r) : BQ (n + n) (q * r) := by
  rw [← rat_times]
  exact .div (mul_ne (den_ne _) (den_ne _)) (h.1.mul k.1) (h.2.mul k.2)
theorem BQ.zero : BQ 1 0 := ⟨by unfold Bt; decide, by unfold Bt; decide⟩
end L2
namespace L2
open PySem PySem.Spec PyProof.Rows
section
variable {X : Cx}
end
end L2
namespace L2
open PySem PySem.Spec PyProof.Rows
section
variable {X : Cx} {K : PySem.W.Frag} {a b o e : Expr} {ta tb tl to : TE} {pos : Pos}
theorem ix_seqK (hK : X.K = K) : IxR X (rIx K) := hK ▸ ix_seq
noncomputable def rLen (K : PySem.W.Frag) : List V → Hp → VK → Prop := fun xs H Q => ∃ p ys, xs = [.ref p] ∧ (SqL K H p ys ∨ SqT K H p ys) ∧ Q (.int ys.length) H
theorem call_lenK (hK : X.K = K) : CallR X (.builtin "len") (rLen K) := by subst hK; exact call_len_seq
noncomputable def tTru (K : PySem.W.Frag) (ta : TE) : TT := fun σ H Q => ta σ H fun x H' => ∃ k, TruV K x H' k ∧ Q k H'
theorem pt_truK (hK : X.K = K) (ha : PE X a ta) (he : ∀ whole, isTrue a X.env whole = (do let v ← whole; standAt a.pos; holding [v] (truthy v))) : PT X a (tTru K ta) := by subst hK; exact pt_truth ha he
theorem pi_listK {tg l : Expr} (hK : X.K = K) (hl : PE X l tl) : PI X tg l (iList K tl) := by subst hK; exact pi_list hl
end
end L2
namespace L2
open PySem PySem.Spec PyProof.Rows
theorem same_new {H : Hp} {p : Addr} (h : H p = none) (o : HO) : Same H (upd H p o) := fun b u q => by rw [upd_ne (ne_of_none q h)]; exact q
noncomputable def But (p : Addr) (H H' : Hp) : Prop := ∀ b o, b ≠ p → H b = some o → H' b = some o
theorem But.upd (p : Addr) (H : Hp) (o : HO) : But p H (upd H p o) := fun b u n e => by rw [upd_ne n]; exact e
noncomputable def Pl (H : Hp) (p : Addr) (n : Nat) : Prop := ∃ a b c : Int, H p = some (.lst [.int a, .int b, .int c]) ∧ 0 ≤ c ∧ c ≤ n
theorem Pl.same {H H' : Hp} {p : Addr} {n : Nat} (s : Same H H') (h : Pl H p n) : Pl H' p n := by
  obtain ⟨a, b, c, e, h1, h2⟩ := h
  exact ⟨a, b, c, s _ _ e, h1, h2⟩
theorem Pl.at {H : Hp} {p : Addr} {n : Nat} (h : Pl H p n) : ∃ xs, H p = some (.lst xs) := by
  obtain ⟨a, b, c, e, h1, h2⟩ := h
  exact ⟨_, e⟩
namespace B
theorem boot_abs : bootBuiltins "abs" = some (.builtin "abs") := by decide +kernel
theorem boot_len : bootBuiltins "len" = some (.builtin "len") := by decide +kernel
theorem boot_max : bootBuiltins "max" = some (.builtin "max") := by decide +kernel
theorem boot_min : bootBuiltins "min" = some (.builtin "min") := by decide +kernel
theorem boot_isinstance : bootBuiltins "isinstance" = some (.builtin "isinstance") := by decide +kernel
theorem boot_int : bootBuiltins "int" = some (.type "int") := by decide +kernel
theorem boot_str : bootBuiltins "str" = some (.type "str") := by decide +kernel
theorem boot_range : bootBuiltins "range" = some (.type "range") := by decide +kernel
end B
theorem fmod_pos {a b : Int} (hb : 0 < b) : a.fmod b = a % b := Int.fmod_eq_emod_of_nonneg a (by omega)
theorem gcd_step {x y : Int} (hx : 0 ≤ x) (hy : 0 < y) : Int.gcd y (x.fmod y) = Int.gcd x y := by
  rw [fmod_pos hy, Int.gcd_comm x y]
  have e := Int.emod_add_mul_ediv x y
  conv => rhs; rw [← e]
  rw [Int.gcd_add_mul_left_right]
end L2
namespace L2
open PySem PySem.Spec PyProof.Rows
section
variable {X : Cx} {K : PySem.W.Frag} {pos : Pos}
end
end L2
namespace L2
open PySem PySem.Spec PyProof.Rows
end L2
namespace L2
open PySem PySem.Spec PyProof.Rows
section
variable {X : Cx}
end
end L2
namespace L2
open PySem PySem.Spec PyProof.Rows
theorem BQ.n {n : Nat} {q : Rat} (h : BQ n q) : Bt n q.num := h.1
theorem BQ.d {n : Nat} {q : Rat} (h : BQ n q) : Bt n (q.den : Int) := h.2
end L2
namespace L2
end L2
namespace L2
end L2
namespace L2
open PySem PySem.Spec PyProof.Rows
variable {G : PySem.W.Frag}
noncomputable def KS (G : PySem.W.Frag) (a : Addr) (ns : List Int) : Prop := ∃ (o : Obj) (its : Array Value) (n : Nat), G.lookup a = some o ∧ o.cls = .type "list" ∧ o.dict = none ∧ o.data = .seq its n ∧ its.size ≤ sizeLine ∧ Vals (ns.map V.int) its.toList
theorem KS.sq {G : PySem.W.Frag} {H : Hp} {a : Addr} {ns : List Int} (h : KS G a ns) : SqL G H a (ns.map V.int) := .inr h
noncomputable def exD (x : Str) : PyData := .dict [(.str x, .none)]
noncomputable def fnD (x : Str) : PyData := .dict [(.str x, .bool true)]
noncomputable def isFnD : PyData → Bool | .dict ((_, .bool _) :: _) => true | _ => false
noncomputable def ClsAt (G : PySem.W.Frag) (x : Str) (C : Addr) : Prop := PySem.W.nsIn G mainGlobals x = some (some (.ref C))
structure ExCls (G : PySem.W.Frag) (C : Addr) : Prop where
  ga : PySem.W.findIn G (.ref C) "__getattribute__" = some (some (.builtin "BaseException.__getattribute__"))
  gt : PySem.W.findIn G (.ref C) "__getattr__" = some none
  cl : PySem.W.findIn G (.ref C) "__class__" = some (some (.builtin "object.__class__"))
  isB : PySem.W.subIn G (.ref C) (.type "BaseException") = some true
  isO : PySem.W.subIn G (.ref C) (.type "object") = some true
  isC : (PySem.W.clsIn G C).isSome = true
  k1 : PySem.W.kitOne G (.ref C) (.type "int") = some false
  k2 : PySem.W.kitOne G (.ref C) (.type "bool") = some false
  k3 : PySem.W.kitOne G (.ref C) (.type "str") = some false
  k4 : PySem.W.kitOne G (.ref C) (.type "list") = some false
  k5 : PySem.W.kitOne G (.ref C) (.type "tuple") = some false
noncomputable def ExO (C a : Addr) (h : Heap) : Prop := ∃ o vs, h.get? a = some o ∧ o.cls = .ref C ∧ o.data = .fields vs
inductive ImO where
  | tup (xs : List V)
  | ext (φ : Heap → Prop)
noncomputable def ImO.ho : ImO → HO
  | .tup xs => .tup xs
  | .ext φ => .ext φ
inductive MuO where
  | lst (xs : List V)
  | dK (kvs : List (Key × V))
  | dT (kvs : List (List Key × V))
noncomputable def MuO.ho : MuO → HO
  | .lst xs => .lst xs
  | .dK kvs => .dK kvs
  | .dT kvs => .dT kvs
noncomputable def keyD : Key → PyData
  | .inl i => .int i
  | .inr x => .str x
noncomputable def keyT (ks : List Key) : PyData := .tuple (ks.map keyD)
noncomputable abbrev KY := Sum Key (List Key)
noncomputable def kyD : KY → PyData
  | .inl k => keyD k
  | .inr ks => keyT ks
noncomputable def MuO.dic (t : Bool) (ks : List KY) (xs : List V) : MuO → Prop
  | .lst _ => False
  | .dK kvs => t = false ∧ ks = kvs.map (fun p => .inl p.1) ∧ xs = kvs.map (·.2)
  | .dT kvs => t = true ∧ ks = kvs.map (fun p => .inr p.1) ∧ xs = kvs.map (·.2)
noncomputable def dcD (t : Bool) (ks : List KY) (ds : List PyData) : PyData := .dict ((.none, .bool t) :: (ks.map kyD).zip ds)
theorem ImO.nm {H : Hp} {a : Addr} {x : ImO} {y : MuO} (h : H a = some x.ho) (h' : H a = some y.ho) : False := by
  rw [h] at h'
  cases x <;> cases y <;> cases h'
theorem ImO.nl {H : Hp} {a : Addr} {x : ImO} {ys : List V} (h : H a = some x.ho) (h' : H a = some (.lst ys)) : False := by
  rw [h] at h'
  cases x <;> cases h'
mutual
inductive Da (G : PySem.W.Frag) (H : Hp) (L : Addr → Prop) : V → PyData → Prop where
  | non : Da G H L .non .none
  | bl (b : Bool) : Da G H L (.bl b) (.bool b)
  | int (i : Int) : Da G H L (.int i) (.int i)
  | str (x : Str) : Da G H L (.str x) (.str x)
  | lst {a : Addr} {xs : List V} {ds : List PyData} : L a → Rd H a (.lst xs) → Das G H L xs ds → Da G H L (.ref a) (.list ds)
  | tup {a : Addr} {xs : List V} {ds : List PyData} : H a = some (.tup xs) → Das G H L xs ds → Da G H L (.ref a) (.tuple ds)
  | scr {a : Addr} {ns : List Int} : KS G a ns → Da G H L (.ref a) (.list (ns.map PyData.int))
  | exc {a C : Addr} {x : Str} : ExCls G C → ClsAt G x C → H a = some (.ext (ExO C a)) → Da G H L (.ref a) (exD x)
  | fn {a : Addr} {x : Str} : ClsAt G x a → Da G H L (.ref a) (fnD x)
  | dic {a : Addr} {o : MuO} {t : Bool} {ks : List KY} {xs : List V} {ds : List PyData} : L a → Rd H a o.ho → o.dic t ks xs → Das G H L xs ds → Da G H L (.ref a) (dcD t ks ds)
inductive Das (G : PySem.W.Frag) (H : Hp) (L : Addr → Prop) : List V → List PyData → Prop where
  | nil : Das G H L [] []
  | cons {x : V} {xs : List V} {d : PyData} {ds : List PyData} : Da G H L x d → Das G H L xs ds → Das G H L (x :: xs) (d :: ds)
end
section
variable {H H' : Hp} {L L' : Addr → Prop}
theorem Da.both {P : V → PyData → Prop} {Q : List V → List PyData → Prop} (c1 : P .non .none) (c2 : ∀ b, P (.bl b) (.bool b)) (c3 : ∀ i, P (.int i) (.int i)) (c4 : ∀ x, P (.str x) (.str x))
    (c5 : ∀ {a : Addr} {xs : List V} {ds : List PyData}, L a → Rd H a (.lst xs) → Q xs ds → P (.ref a) (.list ds)) (c6 : ∀ {a : Addr} {xs : List V} {ds : List PyData}, H a = some (.tup xs) → Q xs ds → P (.ref a) (.tuple ds))
    (c7 : ∀ {a : Addr} {ns : List Int}, KS G a ns → P (.ref a) (.list (ns.map PyData.int))) (c8 : ∀ {a C : Addr} {x : Str}, ExCls G C → ClsAt G x C → H a = some (.ext (ExO C a)) → P (.ref a) (exD x)) (c9 : ∀ {a : Addr} {x : Str}, ClsAt G x a → P (.ref a) (fnD x))
    (c10 : ∀ {a : Addr} {o : MuO} {t : Bool} {ks : List KY} {xs : List V} {ds : List PyData}, L a → Rd H a o.ho → o.dic t ks xs → Q xs ds → P (.ref a) (dcD t ks ds)) (n : Q [] []) (c : ∀ {x : V} {xs : List V} {d : PyData} {ds : List PyData}, P x d → Q xs ds → Q (x :: xs) (d :: ds)) : (∀ {v d}, Da G H L v d → P v d) ∧ ∀ {xs ds}, Das G H L xs ds → Q xs ds :=
  ⟨fun h => Da.rec (motive_1 := fun v d _ => P v d) (motive_2 := fun xs ds _ => Q xs ds) c1 c2 c3 c4 (fun p e _ r => c5 p e r) (fun e _ r => c6 e r) (fun k => c7 k) (fun k l m => c8 k l m) (fun k => c9 k) (fun p e k _ r => c10 p e k r) n (fun _ _ p q => c p q) h,
   fun h => Das.rec (motive_1 := fun v d _ => P v d) (motive_2 := fun xs ds _ => Q xs ds) c1 c2 c3 c4 (fun p e _ r => c5 p e r) (fun e _ r => c6 e r) (fun k => c7 k) (fun k l m => c8 k l m) (fun k => c9 k) (fun p e k _ r => c10 p e k r) n (fun _ _ p q => c p q) h⟩
theorem Das.ind {Q : List V → List PyData → Prop} (n : Q [] []) (c : ∀ {x : V} {xs : List V} {d : PyData} {ds : List PyData}, Da G H L x d → Das G H L xs ds → Q xs ds → Q (x :: xs) (d :: ds)) : ∀ {xs ds}, Das G H L xs ds → Q xs ds := fun h =>
  Das.rec (motive_1 := fun _ _ _ => True) (motive_2 := fun xs ds _ => Q xs ds) trivial (fun _ => trivial) (fun _ => trivial) (fun _ => trivial) (fun _ _ _ _ => trivial) (fun _ _ _ => trivial) (fun _ => trivial) (fun _ _ _ => trivial) (fun _ => trivial) (fun _ _ _ _ _ => trivial) n (fun p q _ r => c p q r) h
theorem Da.frame2 (hl : ∀ a (xs : MuO), L a → Rd H a xs.ho → L' a ∧ Rd H' a xs.ho) (ht : ∀ a (xs : ImO), H a = some xs.ho → H' a = some xs.ho) : (∀ {v : V} {d : PyData}, Da G H L v d → Da G H' L' v d) ∧ ∀ {xs : List V} {ds : List PyData}, Das G H L xs ds → Das G H' L' xs ds :=
  Da.both .non .bl .int .str (fun {_ xs _} p e r => .lst (hl _ (.lst xs) p e).1 (hl _ (.lst xs) p e).2 r) (fun {_ xs _} e r => .tup (ht _ (.tup xs) e) r) .scr (fun c n e => .exc c n (ht _ (.ext _) e)) .fn (fun p e k r => .dic (hl _ _ p e).1 (hl _ _ p e).2 k r) .nil .cons
theorem Da.frame (hl : ∀ a (xs : MuO), L a → Rd H a xs.ho → L' a ∧ Rd H' a xs.ho) (ht : ∀ a (xs : ImO), H a = some xs.ho → H' a = some xs.ho) {v : V} {d : PyData} (h : Da G H L v d) : Da G H' L' v d := (Da.frame2 hl ht).1 h
theorem Das.frame (hl : ∀ a (xs : MuO), L a → Rd H a xs.ho → L' a ∧ Rd H' a xs.ho) (ht : ∀ a (xs : ImO), H a = some xs.ho → H' a = some xs.ho) {xs : List V} {ds : List PyData} (h : Das G H L xs ds) : Das G H' L' xs ds := (Da.frame2 hl ht).2 h
theorem Rd.same {a : Addr} {u : HO} (s : Same H H') (h : Rd H a u) : Rd H' a u := h.imp (s _ _) fun ⟨o, h⟩ => ⟨o, s _ _ h⟩
theorem Rd.some {a : Addr} {u : HO} (h : Rd H a u) : H a ≠ Option.none := by
  rcases h with h | ⟨o, h⟩ <;> rw [h] <;> intro z <;> cases z
theorem Da.same (h : Same H H') {v : V} {d : PyData} (x : Da G H L v d) : Da G H' L v d := x.frame (fun a xs p e => ⟨p, e.same h⟩) fun a xs e => h _ _ e
theorem Das.same (h : Same H H') {v : List V} {d : List PyData} (x : Das G H L v d) : Das G H' L v d := x.frame (fun a xs p e => ⟨p, e.same h⟩) fun a xs e => h _ _ e
theorem Da.wide (h : ∀ a, L a → H a ≠ none → L' a) {v : V} {d : PyData} (x : Da G H L v d) : Da G H L' v d := x.frame (fun a xs p e => ⟨h a p e.some, e⟩) fun a xs e => e
theorem Das.wide (h : ∀ a, L a → H a ≠ none → L' a) {v : List V} {d : List PyData} (x : Das G H L v d) : Das G H L' v d := x.frame (fun a xs p e => ⟨h a p e.some, e⟩) fun a xs e => e
theorem Das.length {xs : List V} {ds : List PyData} (h : Das G H L xs ds) : xs.length = ds.length := Das.ind (Q := fun xs ds => xs.length = ds.length) rfl (fun _ _ r => congrArg (· + 1) r) h
theorem Das.append {xs ys : List V} {ds es : List PyData} (h : Das G H L xs ds) (k : Das G H L ys es) : Das G H L (xs ++ ys) (ds ++ es) := Das.ind (Q := fun xs ds => Das G H L (xs ++ ys) (ds ++ es)) k (fun h _ r => .cons h r) h
theorem Das.snoc {xs : List V} {ds : List PyData} {x : V} {d : PyData} (h : Das G H L xs ds) (k : Da G H L x d) : Das G H L (xs ++ [x]) (ds ++ [d]) := h.append (.cons k .nil)
theorem Das.get {xs : List V} {ds : List PyData} {i : Nat} {d : PyData} (h : Das G H L xs ds) : ds[i]? = some d → ∃ x, xs[i]? = some x ∧ Da G H L x d :=
  Das.ind (Q := fun xs ds => ∀ i, ds[i]? = some d → ∃ x, xs[i]? = some x ∧ Da G H L x d) (fun _ e => (Option.some_ne_none _ (e.symm.trans List.getElem?_nil)).elim) (fun {x _ _ _} h _ r i => Nat.casesOn i (fun e => ⟨x, rfl, Option.some.inj e ▸ h⟩) fun i e => r i e) h i
theorem Das.ints (ns : List Int) : Das G H L (ns.map V.int) (ns.map PyData.int) := by
  induction ns with
  | nil => exact .nil
  | cons n ns ih => exact .cons (.int n) ih
end
theorem reads_ints {h : Heap} (ns : List Int) {us : List Value} (v : Vals (ns.map V.int) us) : ∃ as, ReadsAll h us (ns.map PyData.int) as := by
  induction ns generalizing us with
  | nil => cases v; exact ⟨_, .nil⟩
  | cons n ns ih =>
    rw [List.map_cons] at v
    cases v with
    | cons r rs =>
      obtain ⟨t, e⟩ := (show ∃ t, _ = Value.int n t from r)
      subst e
      obtain ⟨bs, k'⟩ := ih rs
      exact ⟨_, .cons (.int n t) k'⟩
section
variable {X : Cx} {pins : List (Addr × Obj)} {σ : St} {H : Hp} {s : Shared} {L L' : Addr → Prop}
theorem Da.reads2 (hG : X.K = G) (I : Inv X pins σ H s) : (∀ {v : V} {d : PyData}, Da G H L v d → ∀ u, RelV v u → d.canLay0 = true → ∃ as, Reads s.heap u d as) ∧ ∀ {xs : List V} {ds : List PyData}, Das G H L xs ds → ∀ us, Vals xs us → PyData.canLayAll0 ds = true → ∃ as, ReadsAll s.heap us ds as := by
  refine Da.both ?_ ?_ ?_ ?_ ?_ ?_ ?_ ?_ ?_ ?_ ?_ ?_
  · intro u r _
    cases (show _ = Value.none from r)
    exact ⟨_, .none⟩
  · intro b u r _
    cases (show _ = Value.bool b from r)
    exact ⟨_, .bool b⟩
  · intro i u r _
    obtain ⟨t, e⟩ := (show ∃ t, _ = Value.int i t from r)
    subst e
    exact ⟨_, .int i t⟩
  · intro x u r _
    obtain ⟨t, e⟩ := (show ∃ t, _ = Value.str x t from r)
    subst e
    exact ⟨_, .str x t⟩
  · intro a xs ds _ e q u r hcl
    cases (show _ = Value.ref a from r)
    obtain ⟨_, its, n, vs, h1⟩ := (show ObjOk X.prog X.w H s.heap a (.lst xs) from e.ok I.hok)
    rw [PyData.canLay0] at hcl
    obtain ⟨as, k⟩ := q _ vs hcl
    exact ⟨_, Reads.list h1 rfl rfl k⟩
  · intro a xs ds e q u r hcl
    cases (show _ = Value.ref a from r)
    obtain ⟨_, its, vs, o, ho, hc, n, hd⟩ := (show ObjOk X.prog X.w H s.heap a (.tup xs) from I.hok a _ e)
    rw [PyData.canLay0] at hcl
    obtain ⟨as, k⟩ := q _ vs hcl
    exact ⟨_, Reads.tuple ho hc hd k⟩
  · intro a ns k u r _
    cases (show _ = Value.ref a from r)
    subst hG
    obtain ⟨its, vs, ⟨o, n, ho, hc, hd, hs⟩, _⟩ := I.list (k.sq (H := H))
    obtain ⟨as, q⟩ := reads_ints ns vs
    exact ⟨_, Reads.list ho hc hs q⟩
  · intro a C x _ _ e u r hc
    rw [exD, PyData.canLay0] at hc
    cases hc
  · intro a x _ u r hc
    rw [fnD, PyData.canLay0] at hc
    cases hc
  · intro a o t ks xs ds _ _ _ _ u r hc
    rw [dcD, PyData.canLay0] at hc
    cases hc
  · intro us v _
    cases v
    exact ⟨_, .nil⟩
  · intro x xs d ds h q us v hc
    cases v with
    | cons r rs =>
      rw [PyData.canLayAll0, Bool.and_eq_true] at hc
      obtain ⟨as, k⟩ := h _ r hc.1
      obtain ⟨bs, k'⟩ := q _ rs hc.2
      exact ⟨_, .cons k k'⟩
theorem Da.reads (hG : X.K = G) (I : Inv X pins σ H s) {v : V} {d : PyData} {u : Value} (h : Da G H L v d) (r : RelV v u) (c : d.canLay0 = true) : ∃ as, Reads s.heap u d as := (Da.reads2 hG I).1 h u r c
end
inductive OT where
  | fz (d : PyData)
  | nd (ts : List OT)
  | tp (ts : List OT)
  | dc (t : Bool) (ks : List KY) (ds : List PyData)
mutual
noncomputable def OT.data : OT → PyData
  | .fz d => d
  | .nd ts => .list (OT.datas ts)
  | .tp ts => .tuple (OT.datas ts)
  | .dc t ks ds => dcD t ks ds
noncomputable def OT.datas : List OT → List PyData
  | [] => []
  | t :: ts => t.data :: OT.datas ts
end
theorem OT.datas_map : ∀ (ts : List OT), OT.datas ts = ts.map OT.data
  | [] => rfl
  | t :: ts => by rw [OT.datas, OT.datas_map ts]; rfl
@[simp] theorem OT.data_fz (d : PyData) : (OT.fz d).data = d := by rw [OT.data]
@[simp] theorem OT.data_nd (ts : List OT) : (OT.nd ts).data = .list (ts.map OT.data) := by rw [OT.data, OT.datas_map]
@[simp] theorem OT.data_tp (ts : List OT) : (OT.tp ts).data = .tuple (ts.map OT.data) := by rw [OT.data, OT.datas_map]
theorem OT.data_dc (t : Bool) (ks : List KY) (ds : List PyData) : (OT.dc t ks ds).data = dcD t ks ds := by rw [OT.data]
@[simp] theorem OT.map_fz (ds : List PyData) : (ds.map OT.fz).map OT.data = ds := by
  rw [List.map_map]
  exact (List.map_congr_left fun d _ => OT.data_fz d).trans (List.map_id _)
mutual
inductive Own (G : PySem.W.Frag) (H : Hp) (L : Addr → Prop) : V → OT → List Addr → Prop where
  | fz {v : V} {d : PyData} : Da G H L v d → Own G H L v (.fz d) []
  | nd {a : Addr} {xs : List V} {ts : List OT} {bs : List Addr} : H a = some (.lst xs) → Owns G H L xs ts bs → Own G H L (.ref a) (.nd ts) (a :: bs)
  | tp {a : Addr} {xs : List V} {ts : List OT} {bs : List Addr} : H a = some (.tup xs) → Owns G H L xs ts bs → Own G H L (.ref a) (.tp ts) bs
  | dc {a : Addr} {o : MuO} {t : Bool} {ks : List KY} {xs : List V} {ds : List PyData} : H a = some o.ho → o.dic t ks xs → Das G H L xs ds → Own G H L (.ref a) (.dc t ks ds) [a]
inductive Owns (G : PySem.W.Frag) (H : Hp) (L : Addr → Prop) : List V → List OT → List Addr → Prop where
  | nil : Owns G H L [] [] []
  | cons {x : V} {xs : List V} {t : OT} {ts : List OT} {as bs : List Addr} : Own G H L x t as → Owns G H L xs ts bs → Owns G H L (x :: xs) (t :: ts) (as ++ bs)
end
section
variable {H H' : Hp} {L L' : Addr → Prop}
theorem Own.both {P : V → OT → List Addr → Prop} {Q : List V → List OT → List Addr → Prop} (c1 : ∀ {v : V} {d : PyData}, Da G H L v d → P v (.fz d) []) (c2 : ∀ {a : Addr} {xs : List V} {ts : List OT} {bs : List Addr}, H a = some (.lst xs) → Q xs ts bs → P (.ref a) (.nd ts) (a :: bs))
    (c3 : ∀ {a : Addr} {xs : List V} {ts : List OT} {bs : List Addr}, H a = some (.tup xs) → Q xs ts bs → P (.ref a) (.tp ts) bs) (c4 : ∀ {a : Addr} {o : MuO} {t : Bool} {ks : List KY} {xs : List V} {ds : List PyData}, H a = some o.ho → o.dic t ks xs → Das G H L xs ds → P (.ref a) (.dc t ks ds) [a]) (n : Q [] [] []) (c : ∀ {x : V} {xs : List V} {t : OT} {ts : List OT} {as bs : List Addr}, P x t as → Q xs ts bs → Q (x :: xs) (t :: ts) (as ++ bs)) :
    (∀ {v t as}, Own G H L v t as → P v t as) ∧ ∀ {xs ts as}, Owns G H L xs ts as → Q xs ts as :=
  ⟨fun h => Own.rec (motive_1 := fun v t as _ => P v t as) (motive_2 := fun xs ts as _ => Q xs ts as) c1 (fun e _ r => c2 e r) (fun e _ r => c3 e r) (fun e k r => c4 e k r) n (fun _ _ p q => c p q) h,
   fun h => Owns.rec (motive_1 := fun v t as _ => P v t as) (motive_2 := fun xs ts as _ => Q xs ts as) c1 (fun e _ r => c2 e r) (fun e _ r => c3 e r) (fun e k r => c4 e k r) n (fun _ _ p q => c p q) h⟩
theorem Own.frame2 (hl : ∀ a (xs : MuO), L a → Rd H a xs.ho → L' a ∧ Rd H' a xs.ho) (ht : ∀ a (xs : ImO), H a = some xs.ho → H' a = some xs.ho) :
    (∀ {v : V} {t : OT} {as : List Addr}, Own G H L v t as → (∀ a ∈ as, ∀ xs : MuO, H a = some xs.ho → H' a = some xs.ho) → Own G H' L' v t as) ∧ ∀ {xs : List V} {ts : List OT} {as : List Addr}, Owns G H L xs ts as → (∀ a ∈ as, ∀ xs : MuO, H a = some xs.ho → H' a = some xs.ho) → Owns G H' L' xs ts as :=
  Own.both (fun h _ => .fz (h.frame hl ht)) (fun {_ xs _ _} e r ha => .nd (ha _ (.head _) (.lst xs) e) (r fun a m => ha a (.tail _ m))) (fun {_ xs _ _} e r ha => .tp (ht _ (.tup xs) e) (r ha)) (fun e k r ha => .dc (ha _ (.head _) _ e) k (r.frame hl ht)) (fun _ => .nil) (fun h r ha => .cons (h fun a m => ha a (List.mem_append_left _ m)) (r fun a m => ha a (List.mem_append_right _ m)))
theorem Own.frame (hl : ∀ a (xs : MuO), L a → Rd H a xs.ho → L' a ∧ Rd H' a xs.ho) (ht : ∀ a (xs : ImO), H a = some xs.ho → H' a = some xs.ho) {v : V} {t : OT} {as : List Addr} (ha : ∀ a ∈ as, ∀ xs : MuO, H a = some xs.ho → H' a = some xs.ho) (h : Own G H L v t as) : Own G H' L' v t as := (Own.frame2 hl ht).1 h ha
theorem Owns.frame (hl : ∀ a (xs : MuO), L a → Rd H a xs.ho → L' a ∧ Rd H' a xs.ho) (ht : ∀ a (xs : ImO), H a = some xs.ho → H' a = some xs.ho) {xs : List V} {ts : List OT} {as : List Addr} (ha : ∀ a ∈ as, ∀ xs : MuO, H a = some xs.ho → H' a = some xs.ho) (h : Owns G H L xs ts as) : Owns G H' L' xs ts as := (Own.frame2 hl ht).2 h ha
theorem Own.same (h : Same H H') {v : V} {t : OT} {as : List Addr} (x : Own G H L v t as) : Own G H' L v t as := x.frame (fun a xs p e => ⟨p, e.same h⟩) (fun a xs e => h _ _ e) fun a _ xs e => h _ _ e
theorem Own.wide (h : ∀ a, L a → H a ≠ none → L' a) {v : V} {t : OT} {as : List Addr} (x : Own G H L v t as) : Own G H L' v t as := x.frame (fun a xs p e => ⟨h a p e.some, e⟩) (fun a xs e => e) fun a _ xs e => e
theorem Owns.wide (h : ∀ a, L a → H a ≠ none → L' a) {v : List V} {t : List OT} {as : List Addr} (x : Owns G H L v t as) : Owns G H L' v t as := x.frame (fun a xs p e => ⟨h a p e.some, e⟩) (fun a xs e => e) fun a _ xs e => e
theorem Owns.same (h : Same H H') {v : List V} {t : List OT} {as : List Addr} (x : Owns G H L v t as) : Owns G H' L v t as := x.frame (fun a xs p e => ⟨p, e.same h⟩) (fun a xs e => h _ _ e) fun a _ xs e => h _ _ e
theorem Own.da2 (h : ∀ a, L a → H a ≠ none → L' a) : (∀ {v : V} {t : OT} {as : List Addr}, Own G H L v t as → (∀ a ∈ as, L' a) → Da G H L' v t.data) ∧ ∀ {v : List V} {t : List OT} {as : List Addr}, Owns G H L v t as → (∀ a ∈ as, L' a) → Das G H L' v (OT.datas t) :=
  Own.both (fun k _ => by rw [OT.data_fz]; exact k.wide h) (fun e r ha => by rw [OT.data]; exact .lst (ha _ (.head _)) (.inl e) (r fun a m => ha a (.tail _ m))) (fun e r ha => by rw [OT.data]; exact .tup e (r ha)) (fun e k r ha => by rw [OT.data]; exact .dic (ha _ (.head _)) (.inl e) k (r.wide h)) (fun _ => .nil) (fun k r ha => .cons (k fun a m => ha a (List.mem_append_left _ m)) (r fun a m => ha a (List.mem_append_right _ m)))
theorem Own.da (h : ∀ a, L a → H a ≠ none → L' a) {v : V} {t : OT} {as : List Addr} (ha : ∀ a ∈ as, L' a) (k : Own G H L v t as) : Da G H L' v t.data := (Own.da2 h).1 k ha
theorem Owns.das (h : ∀ a, L a → H a ≠ none → L' a) {v : List V} {t : List OT} {as : List Addr} (ha : ∀ a ∈ as, L' a) (k : Owns G H L v t as) : Das G H L' v (OT.datas t) := (Own.da2 h).2 k ha
theorem Own.some2 : (∀ {v : V} {t : OT} {as : List Addr}, Own G H L v t as → ∀ a ∈ as, ∃ xs : MuO, H a = some xs.ho) ∧ ∀ {v : List V} {t : List OT} {as : List Addr}, Owns G H L v t as → ∀ a ∈ as, ∃ xs : MuO, H a = some xs.ho :=
  Own.both (fun _ _ m => nomatch m) (fun {_ xs _ _} e r a m => (List.mem_cons.mp m).elim (fun q => ⟨.lst xs, q ▸ e⟩) (r a)) (fun _ r => r) (fun {_ o _ _ _ _} e _ _ a m => ⟨o, List.mem_singleton.mp m ▸ e⟩) (fun _ m => nomatch m) (fun k r a m => (List.mem_append.mp m).elim (k a) (r a))
theorem Own.some {v : V} {t : OT} {as : List Addr} (h : Own G H L v t as) : ∀ a ∈ as, ∃ xs : MuO, H a = some xs.ho := Own.some2.1 h
theorem Owns.some {v : List V} {t : List OT} {as : List Addr} (h : Owns G H L v t as) : ∀ a ∈ as, ∃ xs : MuO, H a = some xs.ho := Own.some2.2 h
theorem Owns.length {xs : List V} {ts : List OT} {as : List Addr} (h : Owns G H L xs ts as) : xs.length = ts.length := (Own.both (P := fun _ _ _ => True) (Q := fun xs ts _ => xs.length = ts.length) (fun _ => trivial) (fun _ _ => trivial) (fun _ _ => trivial) (fun _ _ _ => trivial) rfl (fun _ r => congrArg (· + 1) r)).2 h
theorem Das.owns {xs : List V} {ds : List PyData} (h : Das G H L xs ds) : Owns G H L xs (ds.map OT.fz) [] := Das.ind (Q := fun xs ds => Owns G H L xs (ds.map OT.fz) []) .nil (fun h _ r => .cons (.fz h) r) h
end
end L2
namespace L2
open PySem PySem.Spec PyProof.Rows
variable {G : PySem.W.Frag}
noncomputable abbrev DEnv := List (Option OT)
noncomputable abbrev Fp := Nat → List Addr
set_option genInjectivity false in
structure MC (G : PySem.W.Frag) where
  H₀ : Hp
  as₀ : Addr → Prop
  L : Addr → Prop
  σ₀ : St
noncomputable def Foot (fp : Fp) (a : Addr) : Prop := ∃ i, a ∈ fp i
noncomputable def Lf (C : MC G) (fp : Fp) (ex : Addr → Prop) (a : Addr) : Prop := ¬ Foot fp a ∧ ¬ ex a ∧ (C.L a ∨ C.H₀ a = none)
structure Rel (C : MC G) (io : List Nat) (H : Hp) (σ : St) (δ : DEnv) (fp : Fp) (ex : Addr → Prop) : Prop where
  len : σ.length = δ.length
  own : ∀ (i : Nat) (t : OT), δ[i]? = some (some t) → ∃ v, σ[i]? = some (some v) ∧ Own G H (Lf C fp ex) v t (fp i)
  emp : ∀ i : Nat, (∀ t, δ[i]? ≠ some (some t)) → fp i = []
  nd : ∀ i, (fp i).Nodup
  dj : ∀ i j a, a ∈ fp i → a ∈ fp j → i = j
  dx : ∀ i a, a ∈ fp i → ¬ ex a
  xa : ∀ a, ex a → H a ≠ none
  fr : ∀ b o, C.H₀ b = some o → ¬ C.as₀ b → H b = some o
  al : ∀ b, H b = none → C.H₀ b = none
  new : ∀ i a, a ∈ fp i → (i ∈ io ∧ C.as₀ a) ∨ C.H₀ a = none
  io : ∀ i ∈ io, σ[i]? = C.σ₀[i]?
structure Stp (p : Bool) (H : Hp) (δ : DEnv) (fp : Fp) (H' : Hp) (δ' : DEnv) (fp' : Fp) : Prop where
  keep : ∀ b o, H b = some o → (p = true ∨ ¬ Foot fp b) → H' b = some o
  env : p = true → δ' = δ ∧ fp' = fp
  grow : ∀ a, Foot fp' a → Foot fp a ∨ H a = none
  al : ∀ b, H' b = none → H b = none
section
variable {C : MC G} {io : List Nat} {H H' H'' : Hp} {σ : St} {δ δ' δ'' : DEnv} {fp fp' fp'' : Fp} {ex ex' : Addr → Prop} {p p' c : Bool} {v : V} {d : PyData} {r : OT} {new : List Addr}
theorem Rel.foot (R : Rel C io H σ δ fp ex) {a : Addr} (h : Foot fp a) : ∃ xs : MuO, H a = some xs.ho := by
  obtain ⟨i, h⟩ := h
  by_cases q : ∃ t, δ[i]? = some (some t)
  · obtain ⟨t, q⟩ := q
    obtain ⟨v, _, o⟩ := R.own i t q
    exact o.some a h
  · rw [R.emp i (fun t z => q ⟨t, z⟩)] at h
    exact nomatch h
theorem Rel.footSome (R : Rel C io H σ δ fp ex) {a : Addr} (h : H a = none) : ¬ Foot fp a := fun z => by
  obtain ⟨xs, e⟩ := R.foot z
  rw [h] at e
  cases e
theorem Stp.refl (p : Bool) (H : Hp) (δ : DEnv) (fp : Fp) : Stp p H δ fp H δ fp := ⟨fun _ _ h _ => h, fun _ => ⟨rfl, rfl⟩, fun _ h => .inl h, fun _ h => h⟩
theorem Stp.same (h : Same H H') (hn : ∀ b, H' b = none → H b = none) : Stp p H δ fp H' δ fp := ⟨fun _ _ q _ => h _ _ q, fun _ => ⟨rfl, rfl⟩, fun _ h => .inl h, hn⟩
theorem Same.al (h : Same H H') : ∀ b, H' b = none → H b = none := fun _ q => h.free q
theorem Stp.trans (a : Stp p H δ fp H' δ' fp') (b : Stp p' H' δ' fp' H'' δ'' fp'') : Stp (p && p') H δ fp H'' δ'' fp'' where
  keep := fun x o e h => by
    rcases h with h | h
    · rw [Bool.and_eq_true] at h
      exact b.keep x o (a.keep x o e (.inl h.1)) (.inl h.2)
    · refine b.keep x o (a.keep x o e (.inr h)) (.inr fun z => ?_)
      rcases a.grow x z with z | z
      · exact h z
      · rw [e] at z; cases z
  env := fun h => by
    rw [Bool.and_eq_true] at h
    obtain ⟨e1, e2⟩ := a.env h.1
    obtain ⟨e3, e4⟩ := b.env h.2
    exact ⟨e3.trans e1, e4.trans e2⟩
  grow := fun x h => by
    rcases b.grow x h with h | h
    · exact a.grow x h
    · exact .inr (a.al x h)
  al := fun x h => a.al x (b.al x h)
theorem Rel.frameL (R : Rel C io H σ δ fp ex) (S : Stp p H δ fp H' δ' fp') (hc : p = true ∨ c = true) (hx : ∀ a, ex' a → ex a ∨ H a = none) :
    (∀ a (xs : MuO), (c = true → Lf C fp ex a) → Rd H a xs.ho → (c = true → Lf C fp' ex' a) ∧ Rd H' a xs.ho) ∧ (∀ a (xs : ImO), H a = some xs.ho → H' a = some xs.ho) := by
  have nf : ∀ a, Foot fp a → ∃ xs : MuO, H a = some xs.ho := fun a h => R.foot h
  refine ⟨fun a xs l q => ⟨fun hc' => ?_, ?_⟩, fun a xs q => S.keep a _ q (.inr fun z => ?_)⟩
  · obtain ⟨l1, l2, l3⟩ := l hc'
    refine ⟨fun z => ?_, fun z => ?_, l3⟩
    · rcases S.grow a z with z | z
      · exact l1 z
      · exact q.some z
    · rcases hx a z with z | z
      · exact l2 z
      · exact q.some z
  · have hk : p = true ∨ ¬ Foot fp a := by
      rcases hc with h | h
      · exact .inl h
      · exact .inr (l h).1
    rcases q with q | ⟨o, q⟩
    · exact .inl (S.keep a _ q hk)
    · exact .inr ⟨o, S.keep a _ q hk⟩
  · obtain ⟨ys, e⟩ := nf a z
    exact ImO.nm q e
theorem Rel.own_step (R : Rel C io H σ δ fp ex) (S : Stp p H δ fp H' δ' fp') (hc : p = true ∨ c = true) (hx : ∀ a, ex' a → ex a ∨ H a = none) (hn : ∀ a ∈ new, ex a)
    (x : Own G H (fun a => c = true → Lf C fp ex a) v r new) : Own G H' (fun a => c = true → Lf C fp' ex' a) v r new :=
  x.frame (R.frameL S hc hx).1 (R.frameL S hc hx).2 fun a m xs e => S.keep a _ e (.inr fun ⟨i, z⟩ => R.dx i a z (hn a m))
theorem Rel.drop (R : Rel C io H σ δ fp ex) (h : ∀ a, ex' a → ex a) : Rel C io H σ δ fp ex' :=
  ⟨R.len, fun i t e => by
    obtain ⟨v, e1, o⟩ := R.own i t e
    exact ⟨v, e1, o.wide fun a l _ => ⟨l.1, fun z => l.2.1 (h a z), l.2.2⟩⟩, R.emp, R.nd, R.dj, fun i a m z => R.dx i a m (h a z), fun a z => R.xa a (h a z), R.fr, R.al, R.new, R.io⟩
theorem Rel.made (R : Rel C io H σ δ fp ex) (s : Same H H') (hn : ∀ a ∈ new, H a = none ∧ H' a ≠ none) : Rel C io H' σ δ fp (fun a => ex a ∨ a ∈ new) :=
  ⟨R.len, fun i t e => by
    obtain ⟨v, e1, o⟩ := R.own i t e
    refine ⟨v, e1, (o.wide fun a l q => ⟨l.1, fun z => ?_, l.2.2⟩).same s⟩
    rcases z with z | z
    · exact l.2.1 z
    · exact q (hn a z).1, R.emp, R.nd, R.dj, fun i a m z => by
      rcases z with z | z
      · exact R.dx i a m z
      · exact R.footSome (hn a z).1 ⟨i, m⟩, fun a z => by
      rcases z with z | z
      · intro q; exact R.xa a z (s.free q)
      · exact (hn a z).2, fun b o e n => s _ _ (R.fr b o e n), fun b q => R.al b (s.free q), R.new, R.io⟩
end
noncomputable abbrev MEt := DEnv → (OT → DEnv → Prop) → Prop
noncomputable abbrev MAt := DEnv → (List OT → DEnv → Prop) → Prop
noncomputable abbrev MTt := DEnv → (Bool → DEnv → Prop) → Prop
noncomputable abbrev exu (ex : Addr → Prop) (new : List Addr) : Addr → Prop := fun a => ex a ∨ a ∈ new
structure RE (C : MC G) (io : List Nat) (p c : Bool) (H : Hp) (σ : St) (δ : DEnv) (fp : Fp) (ex : Addr → Prop) (H' : Hp) (v : V) (r : OT) (δ' : DEnv) (fp' : Fp) (new : List Addr) : Prop where
  rel : Rel C io H' σ δ' fp' (exu ex new)
  stp : Stp p H δ fp H' δ' fp'
  own : Own G H' (fun a => c = true → Lf C fp' (exu ex new) a) v r new
  nd : new.Nodup
  fresh : ∀ a ∈ new, H a = none
structure RA (C : MC G) (io : List Nat) (p c : Bool) (H : Hp) (σ : St) (δ : DEnv) (fp : Fp) (ex : Addr → Prop) (H' : Hp) (v : List V) (r : List OT) (δ' : DEnv) (fp' : Fp) (new : List Addr) : Prop where
  rel : Rel C io H' σ δ' fp' (exu ex new)
  stp : Stp p H δ fp H' δ' fp'
  own : Owns G H' (fun a => c = true → Lf C fp' (exu ex new) a) v r new
  nd : new.Nodup
  fresh : ∀ a ∈ new, H a = none
noncomputable def SE (G : PySem.W.Frag) (io : List Nat) (p c : Bool) (t : TE) (m : MEt) : Prop := ∀ (C : MC G) (H : Hp) (σ : St) (δ : DEnv) (fp : Fp) (ex : Addr → Prop) (K : OT → DEnv → Prop) (Q : VK), Rel C io H σ δ fp ex → m δ K →
  (∀ H' v r δ' fp' new, RE C io p c H σ δ fp ex H' v r δ' fp' new → K r δ' → Q v H') → t σ H Q
noncomputable def SA (G : PySem.W.Frag) (io : List Nat) (p c : Bool) (t : TA) (m : MAt) : Prop := ∀ (C : MC G) (H : Hp) (σ : St) (δ : DEnv) (fp : Fp) (ex : Addr → Prop) (K : List OT → DEnv → Prop) (Q : List V → Hp → Prop), Rel C io H σ δ fp ex → m δ K →
  (∀ H' v r δ' fp' new, RA C io p c H σ δ fp ex H' v r δ' fp' new → K r δ' → Q v H') → t σ H Q
noncomputable def STt (G : PySem.W.Frag) (io : List Nat) (p : Bool) (t : TT) (m : MTt) : Prop := ∀ (C : MC G) (H : Hp) (σ : St) (δ : DEnv) (fp : Fp) (ex : Addr → Prop) (K : Bool → DEnv → Prop) (Q : Bool → Hp → Prop), Rel C io H σ δ fp ex → m δ K →
  (∀ H' b δ' fp', Rel C io H' σ δ' fp' ex → Stp p H δ fp H' δ' fp' → K b δ' → Q b H') → t σ H Q
noncomputable def ME (X : Cx) (io : List Nat) (p c : Bool) (e : Expr) (m : MEt) : Prop := ∃ t, PE X e t ∧ SE X.K io p c t m
noncomputable def MA (X : Cx) (io : List Nat) (p c : Bool) (e : List Expr) (m : MAt) : Prop := ∃ t, PA X e t ∧ SA X.K io p c t m
noncomputable def MT (X : Cx) (io : List Nat) (p : Bool) (e : Expr) (m : MTt) : Prop := ∃ t, PT X e t ∧ STt X.K io p t m
noncomputable def MW (X : Cx) (io : List Nat) (p : Bool) (e : Expr) (m : MTt) : Prop := ∃ t, PW X e t ∧ STt X.K io p t m
section
variable {C : MC G} {io : List Nat} {H H' H'' : Hp} {σ : St} {δ δ' δ'' : DEnv} {fp fp' fp'' : Fp} {ex ex' : Addr → Prop} {p p' c : Bool} {v : V} {d : PyData} {r : OT} {vs : List V} {rs : List OT} {new : List Addr}
theorem Rel.newOk (R : Rel C io H σ δ fp ex) {a : Addr} (h : H a = none) : ¬ Foot fp a ∧ ¬ ex a ∧ C.H₀ a = none := ⟨R.footSome h, fun z => R.xa a z h, R.al a h⟩
theorem RE.da (R : RE C io p c H σ δ fp ex H' v r δ' fp' new) (R0 : Rel C io H σ δ fp ex) : Da G H' (fun a => c = true → Lf C fp' ex a) v r.data := by
  refine R.own.da (fun a l _ h => ?_) (fun a m _ => ?_)
  · exact ⟨(l h).1, fun z => (l h).2.1 (.inl z), (l h).2.2⟩
  · refine ⟨fun qz9 => ?_, (R0.newOk (R.fresh a m)).2.1, .inr (R0.newOk (R.fresh a m)).2.2⟩
    obtain ⟨i, z⟩ := qz9
    exact R.rel.dx i a z (.inr m)
theorem RA.das (R : RA C io p c H σ δ fp ex H' vs rs δ' fp' new) (R0 : Rel C io H σ δ fp ex) : Das G H' (fun a => c = true → Lf C fp' ex a) vs (OT.datas rs) := by
  refine R.own.das (fun a l _ h => ?_) (fun a m _ => ?_)
  · exact ⟨(l h).1, fun z => (l h).2.1 (.inl z), (l h).2.2⟩
  · refine ⟨fun qz9 => ?_, (R0.newOk (R.fresh a m)).2.1, .inr (R0.newOk (R.fresh a m)).2.2⟩
    obtain ⟨i, z⟩ := qz9
    exact R.rel.dx i a z (.inr m)
theorem RE.base (R : RE C io p c H σ δ fp ex H' v r δ' fp' new) : Rel C io H' σ δ' fp' ex := R.rel.drop fun a z => .inl z
theorem RA.base (R : RA C io p c H σ δ fp ex H' vs rs δ' fp' new) : Rel C io H' σ δ' fp' ex := R.rel.drop fun a z => .inl z
theorem exu_nil {a : Addr} : exu ex [] a ↔ ex a := by simp [exu]
theorem RE.fz (R : Rel C io H' σ δ' fp' ex) (S : Stp p H δ fp H' δ' fp') (h : Da G H' (fun a => c = true → Lf C fp' ex a) v d) : RE C io p c H σ δ fp ex H' v (.fz d) δ' fp' [] :=
  ⟨R.drop fun a z => exu_nil.mp z, S, .fz (h.wide fun a l _ hc => ⟨(l hc).1, fun z => (l hc).2.1 (exu_nil.mp z), (l hc).2.2⟩), .nil, fun a m => nomatch m⟩
theorem RE.tree {H1 : Hp} (R0 : Rel C io H σ δ fp ex) (R : Rel C io H1 σ δ' fp' ex) (S : Stp p H δ fp H1 δ' fp') (s : Same H1 H') (hn : ∀ a ∈ new, H1 a = none) (nd : new.Nodup)
    (o : Own G H' (fun a => ((c = true → Lf C fp' ex a) ∨ H1 a = none) ∧ a ∉ new) v r new) : RE C io p c H σ δ fp ex H' v r δ' fp' new := by
  refine ⟨R.made s fun a m => ⟨hn a m, fun z => ?_⟩, ?_, o.wide fun a l q hc => ?_, nd, fun a m => S.al a (hn a m)⟩
  · obtain ⟨xs, e⟩ := o.some a m
    rw [z] at e; cases e
  · have := S.trans (p' := true) (Stp.same (p := true) (δ := δ') (fp := fp') s s.al)
    rwa [Bool.and_true] at this
  · rcases l.1 with l1 | l1
    · exact ⟨(l1 hc).1, fun z => z.elim (l1 hc).2.1 l.2, (l1 hc).2.2⟩
    · exact ⟨R.footSome l1, fun z => z.elim (fun z => R.xa a z l1) l.2, .inr (R.al a l1)⟩
end
inductive ScD : V → PyData → Prop where
  | non : ScD .non .none
  | bl (b : Bool) : ScD (.bl b) (.bool b)
  | int (i : Int) : ScD (.int i) (.int i)
  | str (x : Str) : ScD (.str x) (.str x)
theorem ScD.da {H : Hp} {L : Addr → Prop} {v : V} {d : PyData} (h : ScD v d) : Da G H L v d := by
  cases h
  · exact .non
  · exact .bl _
  · exact .int _
  · exact .str _
section
variable {X : Cx} {io : List Nat} {p p' c c' : Bool} {e a b : Expr} {m ma mb : MEt} {es : List Expr}
noncomputable def mVar (i : Nat) : MEt := fun δ K => match δ[i]? with | some (some (.fz d)) => K (.fz d) δ | _ => False
noncomputable def mOwn (i : Nat) : MEt := fun δ K => match δ[i]? with | some (some t) => K (.fz t.data) δ | _ => False
noncomputable def mC (d : PyData) : MEt := fun δ K => K (.fz d) δ
theorem mv (i : Nat) {x : Str} {pos : Pos} (hN : X.N[i]? = some x := by rfl) (hv : Vis X.env.scope x := by first | exact Or.inl rfl | exact Or.inr (Or.inl rfl) | exact Or.inr (Or.inr rfl)) (hd : (x == ("__debug__" : Str)) = false := by decide)
    (hcd : (x == ("__classdict__" : Str)) = false := by decide) : ME X io true true (.Name x pos) (mVar i) := by
  refine ⟨_, pv i hN hv hd hcd, fun C H σ δ fp ex K Q R h k => ?_⟩
  unfold mVar at h
  split at h
  · rename_i d hd
    obtain ⟨v, e, o⟩ := R.own i _ hd
    refine ⟨v, e, k H v _ δ fp [] (.fz R (.refl _ _ _ _) ?_) h⟩
    generalize fp i = as at o
    cases o with
    | fz q => exact q.wide fun a l _ _ => l
  · exact h.elim
theorem mo (i : Nat) {x : Str} {pos : Pos} (hN : X.N[i]? = some x := by rfl) (hv : Vis X.env.scope x := by first | exact Or.inl rfl | exact Or.inr (Or.inl rfl) | exact Or.inr (Or.inr rfl)) (hd : (x == ("__debug__" : Str)) = false := by decide)
    (hcd : (x == ("__classdict__" : Str)) = false := by decide) : ME X io true false (.Name x pos) (mOwn i) := by
  refine ⟨_, pv i hN hv hd hcd, fun C H σ δ fp ex K Q R h k => ?_⟩
  unfold mOwn at h
  split at h
  · rename_i d hd
    obtain ⟨v, e, o⟩ := R.own i _ hd
    exact ⟨v, e, k H v _ δ fp [] (.fz R (.refl _ _ _ _) (o.da (fun a _ _ z => (nomatch z)) fun a _ z => (nomatch z))) h⟩
  · exact h.elim
theorem m_const {t : V} {d : PyData} (h : PE X e (tC t)) (s : ScD t d) : ME X io true true e (mC d) :=
  ⟨_, h, fun C H σ δ fp ex K Q R h k => k H t _ δ fp [] (.fz R (.refl _ _ _ _) s.da) h⟩
theorem mc_int {i j pos} : ME X io true true (.Constant (.int i) j pos) (mC (.int i)) := m_const pe_int (.int i)
theorem mc_bl {b j pos} : ME X io true true (.Constant (.bool b) j pos) (mC (.bool b)) := m_const pe_bl (.bl b)
theorem mc_str {x j pos} : ME X io true true (.Constant (.str x) j pos) (mC (.str x)) := m_const pe_str (.str x)
theorem SE.two {ta tb : TE} (ha : SE G io p c ta ma) (hb : SE G io p' c' tb mb) (hc : p' = true ∨ c = true) {C : MC G} {H : Hp} {σ : St} {δ : DEnv} {fp : Fp} {ex : Addr → Prop} {K : OT → OT → DEnv → Prop} {Q : V → V → Hp → Prop}
    (R : Rel C io H σ δ fp ex) (h : ma δ fun x δ1 => mb δ1 fun y δ2 => K x y δ2)
    (k : ∀ H' x y u v δ' fp', Rel C io H' σ δ' fp' ex → Stp (p && p') H δ fp H' δ' fp' → Da G H' (fun a => (c && c') = true → Lf C fp' ex a) x u.data → Da G H' (fun a => (c && c') = true → Lf C fp' ex a) y v.data → K u v δ' → Q x y H') :
    ta σ H fun x H1 => tb σ H1 fun y H2 => Q x y H2 := by
  refine ha C H σ δ fp ex _ _ R h fun H1 x u δ1 fp1 new1 r1 h1 => ?_
  refine hb C H1 σ δ1 fp1 (exu ex new1) _ _ r1.rel h1 fun H2 y v δ2 fp2 new2 r2 h2 => ?_
  have o1 := r1.rel.own_step (ex' := exu (exu ex new1) new2) r2.stp (c := c) hc (fun a z => z.imp id fun z => r2.fresh a z) (fun a m => .inr m) r1.own
  have R2 : Rel C io H2 σ δ2 fp2 ex := r2.rel.drop fun a z => .inl (.inl z)
  have q1 : Da G H2 (fun a => c = true → Lf C fp2 ex a) x u.data := by
    refine o1.da (fun a l _ z => ?_) (fun a m z => ?_)
    · exact ⟨(l z).1, fun w => (l z).2.1 (.inl (.inl w)), (l z).2.2⟩
    · have := R.newOk (r1.fresh a m)
      refine ⟨fun qz9 => ?_, this.2.1, .inr this.2.2⟩
      obtain ⟨i, w⟩ := qz9
      exact r2.rel.dx i a w (.inl (.inr m))
  have q2 := r2.da r1.rel
  refine k H2 x y u v δ2 fp2 R2 (r1.stp.trans r2.stp) (q1.wide fun a l _ z => l (by rw [Bool.and_eq_true] at z; exact z.1)) (q2.wide fun a l _ z => ?_) h2
  have l := l (by rw [Bool.and_eq_true] at z; exact z.2)
  exact ⟨l.1, fun w => l.2.1 (.inl w), l.2.2⟩
noncomputable def P2s (G : PySem.W.Frag) (r : R2) (rp : PyData → PyData → (PyData → Prop) → Prop) : Prop := ∀ (H : Hp) (L : Addr → Prop) (x y : V) (d e : PyData) (k : PyData → Prop) (Q : VK), Da G H L x d → Da G H L y e → rp d e k → (∀ v d', ScD v d' → k d' → Q v H) → r x y H Q
noncomputable def P2 (G : PySem.W.Frag) (r : R2) (rp : PyData → PyData → (OT → Prop) → Prop) : Prop := ∀ (H : Hp) (L : Addr → Prop) (x y : V) (d e : PyData) (k : OT → Prop) (Q : VK), Da G H L x d → Da G H L y e → rp d e k →
  (∀ H' v o new, Same H H' → Own G H' (fun a => (L a ∨ H a = none) ∧ a ∉ new) v o new → new.Nodup → (∀ a ∈ new, H a = none) → k o → Q v H') → r x y H Q
noncomputable def mBinS (rp : PyData → PyData → (PyData → Prop) → Prop) (ma mb : MEt) : MEt := fun δ K => ma δ fun x δ1 => mb δ1 fun y δ2 => rp x.data y.data fun d => K (.fz d) δ2
noncomputable def mBin (rp : PyData → PyData → (OT → Prop) → Prop) (ma mb : MEt) : MEt := fun δ K => ma δ fun x δ1 => mb δ1 fun y δ2 => rp x.data y.data fun d => K d δ2
theorem sBinS {r : R2} {rp} {ta tb : TE} (P : P2s G r rp) (ha : SE G io p c ta ma) (hb : SE G io p' c' tb mb) (hc : p' = true ∨ c = true) : SE G io (p && p') true (tOp r ta tb) (mBinS rp ma mb) := by
  intro C H σ δ fp ex K Q R h k
  refine SE.two (K := fun x y δ2 => rp x.data y.data fun d => K (.fz d) δ2) (Q := fun x y H2 => r x y H2 Q) ha hb hc R h fun H' x y u v δ' fp' R' S q1 q2 h' => ?_
  exact P H' _ x y _ _ _ _ q1 q2 h' fun w d' sc h'' => k H' w _ δ' fp' [] (.fz R' S sc.da) h''
theorem sBin {r : R2} {rp} {ta tb : TE} (P : P2 G r rp) (ha : SE G io p c ta ma) (hb : SE G io p' c' tb mb) (hc : p' = true ∨ c = true) : SE G io (p && p') (c && c') (tOp r ta tb) (mBin rp ma mb) := by
  intro C H σ δ fp ex K Q R h k
  refine SE.two (K := fun x y δ2 => rp x.data y.data fun d => K d δ2) (Q := fun x y H2 => r x y H2 Q) ha hb hc R h fun H' x y u v δ' fp' R' S q1 q2 h' => ?_
  exact P H' _ x y _ _ _ _ q1 q2 h' fun H2 w o new s ow nd hn h'' => k H2 w o δ' fp' new (RE.tree R R' S s hn nd ow) h''
theorem m_opS {op : Operator} {r : R2} {rp} {pos : Pos} (ho : OpR X (binaryOp op) r) (P : P2s X.K r rp) (ha : ME X io p c a ma) (hb : ME X io p' c' b mb) (hc : p' = true ∨ c = true := by first | exact Or.inl rfl | exact Or.inr rfl) : ME X io (p && p') true (.BinOp a op b pos) (mBinS rp ma mb) := by
  obtain ⟨_, A, sa⟩ := ha
  obtain ⟨_, B, sb⟩ := hb
  exact ⟨_, pe_op ho A B, sBinS P sa sb hc⟩
theorem m_cmp {op : CmpOp} {r : R2} {rp} {pos : Pos} (ho : OpR X (compareOp op) r) (P : P2s X.K r rp) (ha : ME X io p c a ma) (hb : ME X io p' c' b mb) (hc : p' = true ∨ c = true := by first | exact Or.inl rfl | exact Or.inr rfl) (hm : behindInMarks op b = false) : ME X io (p && p') true (.Compare a [op] [b] pos) (mBinS rp ma mb) := by
  obtain ⟨_, A, sa⟩ := ha
  obtain ⟨_, B, sb⟩ := hb
  exact ⟨_, pe_cmpR ho A B hm, sBinS P sa sb hc⟩
theorem m_ix {r : R2} {rp} {pos : Pos} (ho : IxR X r) (P : P2 X.K r rp) (ha : ME X io p c a ma) (hb : ME X io p' c' b mb) (hc : p' = true ∨ c = true := by first | exact Or.inl rfl | exact Or.inr rfl) (hs : PlainIx b) : ME X io (p && p') (c && c') (.Subscript a b pos) (mBin rp ma mb) := by
  obtain ⟨_, A, sa⟩ := ha
  obtain ⟨_, B, sb⟩ := hb
  exact ⟨_, pe_ix ho A B hs, sBin P sa sb hc⟩
noncomputable def kB (K : Bool → DEnv → Prop) : OT → DEnv → Prop := fun o δ => match o with | .fz (.bool b) => K b δ | _ => False
theorem sTest {t : TE} (h : SE G io p c t m) : STt G io p (tTest t) (fun δ K => m δ (kB K)) := by
  intro C H σ δ fp ex K Q R h' k
  refine h C H σ δ fp ex _ _ R h' fun H' v r δ' fp' new r1 h1 => ?_
  cases r with
  | nd ts => exact h1.elim
  | tp ts => exact h1.elim
  | dc _ _ _ => exact h1.elim
  | fz d =>
    cases d with
    | bool b =>
      cases r1.own with
      | fz q =>
        cases q
        exact ⟨b, rfl, k H' b δ' fp' r1.base r1.stp h1⟩
    | _ => exact h1.elim
theorem mt_cmp {op : CmpOp} {r : R2} {rp} {pos : Pos} (ho : OpR X (compareOp op) r) (P : P2s X.K r rp) (ha : ME X io p c a ma) (hb : ME X io p' c' b mb) (hc : p' = true ∨ c = true := by first | exact Or.inl rfl | exact Or.inr rfl) (hm : behindInMarks op b = false) :
    MT X io (p && p') (.Compare a [op] [b] pos) (fun δ K => mBinS rp ma mb δ (kB K)) := by
  obtain ⟨_, A, sa⟩ := ha
  obtain ⟨_, B, sb⟩ := hb
  exact ⟨_, pt_cmpR ho A B hm, sTest (sBinS P sa sb hc)⟩
end
end L2
namespace L2
open PySem PySem.Spec PyProof.Rows
variable {G : PySem.W.Frag}
section
variable {X : Cx} {io : List Nat} {p p' p'' c c' : Bool} {e a b : Expr} {m ma mb : MEt} {es rest : List Expr} {ta tb : MTt} {pos : Pos}
noncomputable def mNot (t : MTt) : MTt := fun δ K => t δ fun b δ' => K (!b) δ'
noncomputable def mOr (t u : MTt) : MTt := fun δ K => t δ fun b δ' => if b = true then K true δ' else u δ' K
theorem mt_not (h : MT X io p a ta) : MT X io p (.UnaryOp .Not a pos) (mNot ta) := by
  obtain ⟨_, A, sa⟩ := h
  exact ⟨_, pt_not A, fun C H σ δ fp ex K Q R h k => sa C H σ δ fp ex _ _ R h fun H' b δ' fp' R' S h' => k H' (!b) δ' fp' R' S h'⟩
theorem mw_or1 (h : MT X io p a ta) : MW X io p (.BoolOp .Or [a] pos) ta := by
  obtain ⟨_, A, sa⟩ := h
  exact ⟨_, pw_or1 A, sa⟩
theorem Stp.andL {H H' : Hp} {δ δ' : DEnv} {fp fp' : Fp} (S : Stp p H δ fp H' δ' fp') : Stp (p && p') H δ fp H' δ' fp' := by
  have := S.trans (Stp.refl p' H' δ' fp')
  exact this
theorem mw_or (h : MT X io p a ta) (g : MW X io p' (.BoolOp .Or (b :: rest) pos) tb) : MW X io (p && p') (.BoolOp .Or (a :: b :: rest) pos) (mOr ta tb) := by
  obtain ⟨_, A, sa⟩ := h
  obtain ⟨_, B, sb⟩ := g
  exact ⟨_, pw_or A B, fun C H σ δ fp ex K Q R h k => sa C H σ δ fp ex _ _ R h fun H' b δ' fp' R' S h' => by
    cases b with
    | true =>
      rw [if_pos rfl] at h' ⊢
      exact k H' true δ' fp' R' S.andL h'
    | false =>
      rw [if_neg Bool.false_ne_true] at h' ⊢
      exact sb C H' σ δ' fp' ex _ _ R' h' fun H2 b2 δ2 fp2 R2 S2 h2 => k H2 b2 δ2 fp2 R2 (S.trans S2) h2⟩
theorem MW.mt (h : MW X io p e ta) : MT X io p e ta := by
  obtain ⟨_, A, sa⟩ := h
  exact ⟨_, A.pt, sa⟩
noncomputable def truD : PyData → Option Bool
  | .none => some false
  | .bool b => some b
  | .int i => some (i != 0)
  | .list ds => some (!ds.isEmpty)
  | .tuple ds => some (!ds.isEmpty)
  | _ => none
noncomputable def mTru (m : MEt) : MTt := fun δ K => m δ fun r δ' => match truD r.data with | some b => K b δ' | none => False
theorem Das.isEmpty {H : Hp} {L : Addr → Prop} {xs : List V} {ds : List PyData} (h : Das G H L xs ds) : xs.isEmpty = ds.isEmpty := by cases h <;> rfl
theorem mt_tru (ha : ME X io p c a ma) (he : ∀ whole, isTrue a X.env whole = (do let v ← whole; standAt a.pos; holding [v] (truthy v))) : MT X io p a (mTru ma) := by
  obtain ⟨_, A, sa⟩ := ha
  exact ⟨_, pt_truK rfl A he, fun C H σ δ fp ex K' Q R h k => sa C H σ δ fp ex _ _ R h fun H' v r δ' fp' new r1 h1 => by
    have q := r1.da R
    generalize r.data = d at q h1
    cases q with
    | non => exact ⟨_, rfl, k H' _ δ' fp' r1.base r1.stp h1⟩
    | bl b => exact ⟨_, rfl, k H' _ δ' fp' r1.base r1.stp h1⟩
    | int b => exact ⟨_, rfl, k H' _ δ' fp' r1.base r1.stp h1⟩
    | str x => exact h1.elim
    | lst _ e q => exact ⟨_, .inl ⟨_, .inl e, rfl⟩, k H' _ δ' fp' r1.base r1.stp (by rw [q.isEmpty]; exact h1)⟩
    | tup e q => exact ⟨_, .inr (.inl ⟨_, .inl (.inl e), rfl⟩), k H' _ δ' fp' r1.base r1.stp (by rw [q.isEmpty]; exact h1)⟩
    | scr q => exact ⟨_, .inl ⟨_, q.sq, rfl⟩, k H' _ δ' fp' r1.base r1.stp (by simpa [truD] using h1)⟩
    | exc _ _ _ => exact h1.elim
    | fn _ => exact h1.elim
    | dic _ _ _ _ => exact h1.elim⟩
theorem Stp.cast {p p' : Bool} {H H' : Hp} {δ δ' : DEnv} {fp fp' : Fp} (h : p' = true → p = true) (S : Stp p H δ fp H' δ' fp') : Stp p' H δ fp H' δ' fp' :=
  ⟨fun b o e q => S.keep b o e (q.imp h id), fun q => S.env (h q), S.grow, S.al⟩
end
section
variable {X : Cx} {io : List Nat} {p p' p'' c c' : Bool} {e a b : Expr} {m ma mb : MEt} {es rest : List Expr} {mr : MAt} {pos : Pos}
noncomputable def mNil : MAt := fun δ K => K [] δ
noncomputable def mCons (m : MEt) (mr : MAt) : MAt := fun δ K => m δ fun r δ1 => mr δ1 fun rs δ2 => K (r :: rs) δ2
theorem ma_nil : MA X io true true [] mNil := ⟨_, pa_nil, fun C H σ δ fp ex K Q R h k => k H [] [] δ fp [] ⟨R.drop fun a z => exu_nil.mp z, .refl _ _ _ _, .nil, .nil, fun a m => nomatch m⟩ h⟩
theorem ma_cons (ha : ME X io p c e m) (hr : MA X io p' c' es mr) (hc : p' = true ∨ c = true) (hs : starEach (e :: es) X.env = (false, eval e X.env) :: starEach es X.env := by rfl) : MA X io (p && p') (c && c') (e :: es) (mCons m mr) := by
  obtain ⟨tA, A, sa⟩ := ha
  obtain ⟨tB, B, sb⟩ := hr
  refine ⟨_, pa_cons A B hs, fun C H σ δ fp ex K Q R h k => ?_⟩
  refine sa C H σ δ fp ex _ _ R h fun H1 x u δ1 fp1 new1 r1 h1 => ?_
  refine sb C H1 σ δ1 fp1 (exu ex new1) _ _ r1.rel h1 fun H2 ys us δ2 fp2 new2 r2 h2 => ?_
  have o1 := r1.rel.own_step (ex' := exu (exu ex new1) new2) r2.stp (c := c) hc (fun a z => z.imp id fun z => r2.fresh a z) (fun a m => .inr m) r1.own
  have eqx : ∀ a, exu ex (new1 ++ new2) a → exu (exu ex new1) new2 a := fun a z => by
    rcases z with z | z
    · exact .inl (.inl z)
    · rcases List.mem_append.mp z with z | z
      · exact .inl (.inr z)
      · exact .inr z
  refine k H2 (x :: ys) (u :: us) δ2 fp2 (new1 ++ new2) ⟨r2.rel.drop eqx, r1.stp.trans r2.stp, .cons (o1.wide fun a l _ z => ?_) (r2.own.wide fun a l _ z => ?_), ?_, ?_⟩ h2
  · have l := l (by rw [Bool.and_eq_true] at z; exact z.1)
    exact ⟨l.1, fun w => l.2.1 (eqx a w), l.2.2⟩
  · have l := l (by rw [Bool.and_eq_true] at z; exact z.2)
    exact ⟨l.1, fun w => l.2.1 (eqx a w), l.2.2⟩
  · refine List.nodup_append.mpr ⟨r1.nd, r2.nd, fun a m b m' z => ?_⟩
    subst z
    obtain ⟨xs, e⟩ := r1.own.some a m
    rw [r2.fresh a m'] at e
    cases e
  · intro a m
    rcases List.mem_append.mp m with m | m
    · exact r1.fresh a m
    · exact r1.stp.al a (r2.fresh a m)
noncomputable def mTup (m : MAt) : MEt := fun δ K => m δ fun rs δ' => rs.length ≤ sizeLine ∧ K (.fz (.tuple (OT.datas rs))) δ'
noncomputable def mLst (m : MAt) : MEt := fun δ K => m δ fun rs δ' => rs.length ≤ sizeLine ∧ K (.nd rs) δ'
theorem m_tup {x1} (h : MA X io p c es mr) : ME X io p c (.Tuple es x1 pos) (mTup mr) := by
  obtain ⟨tA, A, sa⟩ := h
  refine ⟨_, pe_tup A, fun C H σ δ fp ex K Q R h k => ?_⟩
  refine sa C H σ δ fp ex _ _ R h fun H1 vs rs δ1 fp1 new1 r1 h1 => ⟨by rw [r1.own.length]; exact h1.1, fun q hq => ?_⟩
  have s := same_new hq (.tup vs)
  have R1 := r1.base
  have S := r1.stp.trans (p' := true) (Stp.same (p := true) (δ := δ1) (fp := fp1) s s.al)
  rw [Bool.and_true] at S
  refine k _ _ _ δ1 fp1 [] (.fz ?_ S (.tup upd_same ((r1.das R).same s))) h1.2
  exact (R1.made (new := []) s fun a m => nomatch m).drop fun a z => .inl z
theorem m_lst (h : MA X io p c es mr) : ME X io p c (.List es pos) (mLst mr) := by
  obtain ⟨tA, A, sa⟩ := h
  refine ⟨_, pe_lst A, fun C H σ δ fp ex K Q R h k => ?_⟩
  refine sa C H σ δ fp ex _ _ R h fun H1 vs rs δ1 fp1 new1 r1 h1 => ⟨by rw [r1.own.length]; exact h1.1, fun q hq => ?_⟩
  have s := same_new hq (.lst vs)
  have S := r1.stp.trans (p' := true) (Stp.same (p := true) (δ := δ1) (fp := fp1) s s.al)
  rw [Bool.and_true] at S
  have hqn : q ∉ new1 := fun m => by
    obtain ⟨xs, e⟩ := r1.own.some q m
    rw [hq] at e; cases e
  have R2 := (r1.rel.made (new := [q]) s fun a m => by
    rcases List.mem_singleton.mp m with rfl
    exact ⟨hq, by rw [upd_same]; intro z; cases z⟩)
  have eqx : ∀ a, exu ex (q :: new1) a → exu (exu ex new1) [q] a := fun a z => by
    rcases z with z | z
    · exact .inl (.inl z)
    · rcases List.mem_cons.mp z with z | z
      · exact .inr (List.mem_singleton.mpr z)
      · exact .inl (.inr z)
  refine k _ _ _ δ1 fp1 (q :: new1) ⟨R2.drop eqx, S, .nd upd_same ((r1.own.wide fun a l w z => ?_).same s), List.nodup_cons.mpr ⟨hqn, r1.nd⟩, fun a m => ?_⟩ h1.2
  · have l := l z
    refine ⟨l.1, fun y => ?_, l.2.2⟩
    rcases eqx a y with y | y
    · exact l.2.1 y
    · rcases List.mem_singleton.mp y with rfl
      exact w hq
  · rcases List.mem_cons.mp m with rfl | m
    · exact r1.stp.al _ hq
    · exact r1.fresh a m
end
end L2
namespace L2
open PySem PySem.Spec PyProof.Rows
variable {G : PySem.W.Frag}
noncomputable def spD (G : PySem.W.Frag) (S : List PyData → (OT → Prop) → Prop) : Sp := fun vs H Q _ => ∃ L ds k, Das G H L vs ds ∧ S ds k ∧
  ∀ r v H' new, k r → Same H H' → Own G H' (fun a => (L a ∨ H a = none) ∧ a ∉ new) v r new → new.Nodup → (∀ a ∈ new, H a = none) → Q v H'
noncomputable def spI (G : PySem.W.Frag) (S : OT → List PyData → (OT → OT → Prop) → Prop) : Sp := fun vs H Q _ => ∃ L v0 t0 as vs' ds k, vs = v0 :: vs' ∧ Own G H L v0 t0 as ∧ as.Nodup ∧ (∀ a ∈ as, ¬ L a) ∧ Das G H L vs' ds ∧ S t0 ds k ∧
  ∀ r t' v H' new as', k r t' → (∀ b o, H b = some o → b ∉ as → H' b = some o) → (∀ b, H' b = none → H b = none) →
    Own G H' (fun a => (L a ∨ H a = none) ∧ a ∉ new ∧ a ∉ as') v r new → Own G H' (fun a => (L a ∨ H a = none) ∧ a ∉ new ∧ a ∉ as') v0 t' as' → (as' ++ new).Nodup → (∀ a ∈ new, H a = none) → (∀ a ∈ as', a ∈ as ∨ H a = none) → Q v H'
section
variable {X : Cx} {io : List Nat} {p p' p'' c c' : Bool} {e a b : Expr} {m ma mb : MEt} {es rest : List Expr} {mr : MAt} {pos : Pos}
variable {CX : CXT} {k : Nat} {f : Addr} {fd : FuncData} {ps : List Str} {E : XK} {x : Str} {pp : Pos}
noncomputable def mCall (S : List PyData → (OT → Prop) → Prop) (mr : MAt) : MEt := fun δ K => mr δ fun rs δ1 => S (OT.datas rs) fun r => K r δ1
theorem sCall {S} {t : TA} (sa : SA G io p c t mr) : SE G io p c (tCall (spD G S) [] E t) (mCall S mr) := by
  intro C H σ δ fp ex K Q R h kk
  refine sa C H σ δ fp ex _ _ R h fun H1 vs rs δ1 fp1 new1 r1 h1 => ?_
  rw [List.append_nil]
  refine ⟨_, _, _, r1.das R, h1, fun r v H' new kr s o nd hn => ?_⟩
  exact kk H' v r δ1 fp1 new (RE.tree R r1.base r1.stp s hn nd o) kr
theorem m_call {S} (F : FnOk X.prog X.w X.K X.mg X.base CX k f fd ps (spD X.K S)) (hr : Room k X.A) (hg : Gl X x) (hm : X.mg x = some (.ref f)) (hk : PySem.W.keepIn X.K (.ref f) = true) (hb : Binds X.K fd ps []) (hx : Passes CX X E)
    (ha : MA X io p c (e :: es) mr) (hdb : (x == ("__debug__" : Str)) = false := by decide) (he : starEach (e :: es) X.env = (false, eval e X.env) :: starEach es X.env := by rfl) (hpl : (backTo pos (starEach es X.env)).any (·.1) = false := by rfl) :
    ME X io p c (.Call (.Name x pp) (e :: es) [] pos) (mCall S mr) := by
  obtain ⟨_, A, sa⟩ := ha
  exact ⟨_, pe_call F hr hg hm hk hb .nil hx A hdb he hpl, sCall sa⟩
noncomputable def mCallI (i : Nat) (S : OT → List PyData → (OT → OT → Prop) → Prop) (mr : MAt) : MEt := fun δ K => match δ[i]? with
  | some (some _) => mr δ fun rs δ1 => match δ1[i]? with
    | some (some t) => S t (OT.datas rs) fun r t' => K r (δ1.set i (some t'))
    | _ => False
  | _ => False
noncomputable def fpu (fp : Fp) (i : Nat) (as : List Addr) : Fp := fun j => if j = i then as else fp j
theorem fpu_same {fp : Fp} {i : Nat} {as : List Addr} : fpu fp i as i = as := if_pos rfl
theorem fpu_ne {fp : Fp} {i j : Nat} {as : List Addr} (h : j ≠ i) : fpu fp i as j = fp j := if_neg h
theorem Foot.of_u {fp : Fp} {i : Nat} {as : List Addr} {a : Addr} (h : Foot (fpu fp i as) a) : a ∈ as ∨ ∃ j, j ≠ i ∧ a ∈ fp j := by
  obtain ⟨j, h⟩ := h
  by_cases e : j = i
  · subst e; rw [fpu_same] at h; exact .inl h
  · rw [fpu_ne e] at h; exact .inr ⟨j, e, h⟩
theorem Rel.change {C : MC G} {H H' : Hp} {σ : St} {δ : DEnv} {fp : Fp} {ex : Addr → Prop} {i : Nat} {t t' : OT} {v : V} {as' new : List Addr} (R : Rel C io H σ δ fp ex) (hi : δ[i]? = some (some t)) (hv : σ[i]? = some (some v))
    (keep : ∀ b o, H b = some o → b ∉ fp i → H' b = some o) (al : ∀ b, H' b = none → H b = none) (o : Own G H' (Lf C (fpu fp i as') (exu ex new)) v t' as') (nd : as'.Nodup) (new' : ∀ a ∈ as', a ∈ fp i ∨ H a = none)
    (hn : ∀ a ∈ new, H a = none ∧ H' a ≠ none ∧ a ∉ as') :
    Rel C io H' σ (δ.set i (some t')) (fpu fp i as') (exu ex new) ∧ Stp false H δ fp H' (δ.set i (some t')) (fpu fp i as') := by
  have hil : i < δ.length := (List.getElem?_eq_some_iff.mp hi).1
  have apart : ∀ j a, j ≠ i → a ∈ fp j → a ∉ as' := fun j a e m z => by
    rcases new' a z with z | z
    · exact e (R.dj j i a m z)
    · exact R.footSome z ⟨j, m⟩
  constructor
  · refine ⟨by rw [List.length_set]; exact R.len, fun j t'' e => ?_, fun j h => ?_, fun j => ?_, fun j k a h1 h2 => ?_, fun j a h z => ?_, fun a z w => z.elim (fun z => R.xa a z (al a w)) (fun z => (hn a z).2.1 w), fun b ob e n => ?_, fun b z => R.al b (al b z), fun j a h => ?_, R.io⟩
    · by_cases ej : j = i
      · subst ej
        rw [List.getElem?_set_self hil] at e
        cases e
        exact ⟨v, hv, by rw [fpu_same]; exact o⟩
      · rw [List.getElem?_set_ne (Ne.symm ej)] at e
        obtain ⟨w, e1, o1⟩ := R.own j t'' e
        refine ⟨w, e1, ?_⟩
        rw [fpu_ne ej]
        refine o1.frame (fun a xs l q => ?_) (fun a xs q => keep a _ q fun z => ?_) fun a m xs q => keep a _ q fun z => ej (R.dj j i a m z)
        · have na : a ∉ fp i := fun z => l.1 ⟨i, z⟩
          refine ⟨⟨fun z => ?_, fun z => z.elim l.2.1 fun z => q.some (hn a z).1, l.2.2⟩, ?_⟩
          · rcases z.of_u with z | ⟨k, _, z⟩
            · rcases new' a z with z | z
              · exact na z
              · exact q.some z
            · exact l.1 ⟨k, z⟩
          · rcases q with q | ⟨u, q⟩
            · exact .inl (keep a _ q na)
            · exact .inr ⟨u, keep a _ q na⟩
        · obtain ⟨ys, e⟩ := R.foot ⟨i, z⟩
          exact ImO.nm q e
    · by_cases ej : j = i
      · subst ej
        exact absurd (List.getElem?_set_self hil) (h t')
      · rw [fpu_ne ej]
        refine R.emp j fun t'' z => h t'' ?_
        rw [List.getElem?_set_ne (Ne.symm ej)]
        exact z
    · by_cases ej : j = i
      · subst ej; rw [fpu_same]; exact nd
      · rw [fpu_ne ej]; exact R.nd j
    · by_cases ej : j = i
      · subst ej
        rw [fpu_same] at h1
        by_cases ek : k = j
        · exact ek.symm
        · rw [fpu_ne ek] at h2
          exact absurd h1 (apart k a ek h2)
      · rw [fpu_ne ej] at h1
        by_cases ek : k = i
        · subst ek
          rw [fpu_same] at h2
          exact absurd h2 (apart j a ej h1)
        · rw [fpu_ne ek] at h2
          exact R.dj j k a h1 h2
    · by_cases ej : j = i
      · subst ej
        rw [fpu_same] at h
        rcases z with z | z
        · rcases new' a h with w | w
          · exact R.dx _ a w z
          · exact R.xa a z w
        · exact (hn a z).2.2 h
      · rw [fpu_ne ej] at h
        rcases z with z | z
        · exact R.dx j a h z
        · exact R.footSome (hn a z).1 ⟨j, h⟩
    · refine keep b ob (R.fr b ob e n) fun z => ?_
      rcases R.new i b z with w | w
      · exact n w.2
      · rw [e] at w; cases w
    · by_cases ej : j = i
      · subst ej
        rw [fpu_same] at h
        rcases new' a h with w | w
        · exact R.new _ a w
        · exact .inr (R.al a w)
      · rw [fpu_ne ej] at h
        exact R.new j a h
  · refine ⟨fun b ob e q => keep b ob e fun z => (q.resolve_left (by decide)) ⟨i, z⟩, fun z => (nomatch z), fun a z => ?_, al⟩
    rcases z.of_u with z | ⟨j, _, z⟩
    · exact (new' a z).imp (fun w => ⟨i, w⟩) id
    · exact .inl ⟨j, z⟩
theorem sCallI {S} {i : Nat} {t : TA} (sa : SA G io p true t mr) : SE G io false true (tCall (spI G S) [] E (tCons (tVar i) t)) (mCallI i S mr) := by
  intro C H σ δ fp ex K Q R h kk
  unfold mCallI at h
  split at h
  case h_2 => exact h.elim
  rename_i t0 hi0
  obtain ⟨v0, hv, _⟩ := R.own i t0 hi0
  refine ⟨v0, hv, ?_⟩
  refine sa C H σ δ fp ex _ _ R h fun H1 vs rs δ1 fp1 new1 r1 h1 => ?_
  show spI G S ((v0 :: vs) ++ []) H1 Q E
  rw [List.append_nil]
  split at h1
  case h_2 => exact h1.elim
  rename_i t1 hi1
  have R1 := r1.base
  obtain ⟨v1, hv1, o1⟩ := R1.own i t1 hi1
  rw [hv] at hv1
  cases hv1
  refine ⟨Lf C fp1 ex, v0, t1, fp1 i, vs, _, _, rfl, o1, R1.nd i, fun a m l => l.1 ⟨i, m⟩, (r1.das R).wide fun a l _ => l rfl, h1, ?_⟩
  intro r t' v H' new as' kr keep al orr ot nd hn ha
  have nd2 := List.nodup_append.mp nd
  have lw : ∀ a, ((Lf C fp1 ex a ∨ H1 a = none) ∧ a ∉ new ∧ a ∉ as') → H' a ≠ none → Lf C (fpu fp1 i as') (exu ex new) a := fun a l _ => by
    have hf : ¬ Foot (fpu fp1 i as') a := fun z => by
      rcases z.of_u with z | ⟨j, _, z⟩
      · exact l.2.2 z
      · rcases l.1 with l1 | l1
        · exact l1.1 ⟨j, z⟩
        · exact R1.footSome l1 ⟨j, z⟩
    rcases l.1 with l1 | l1
    · exact ⟨hf, fun z => z.elim l1.2.1 l.2.1, l1.2.2⟩
    · have := R1.newOk l1
      exact ⟨hf, fun z => z.elim this.2.1 l.2.1, .inr this.2.2⟩
  have hnn : ∀ a ∈ new, H' a ≠ none := fun a m z => by
    obtain ⟨xs, e⟩ := orr.some a m
    rw [z] at e; cases e
  obtain ⟨R2, S2⟩ := R1.change (new := new) hi1 hv keep al (ot.wide lw) nd2.1 ha (fun a m => ⟨hn a m, hnn a m, fun z => nd2.2.2 a z a m rfl⟩)
  refine kk H' v r _ _ new ⟨R2, ?_, orr.wide fun a l q _ => lw a l q, nd2.2.1, fun a m => r1.stp.al a (hn a m)⟩ kr
  exact (r1.stp.trans S2).cast fun z => nomatch z
theorem m_callI {S} {i : Nat} {y : Str} {py : Pos} (F : FnOk X.prog X.w X.K X.mg X.base CX k f fd ps (spI X.K S)) (hr : Room k X.A) (hg : Gl X x) (hm : X.mg x = some (.ref f)) (hk : PySem.W.keepIn X.K (.ref f) = true) (hb : Binds X.K fd ps []) (hx : Passes CX X E)
    (ha : MA X io p true es mr) (hN : X.N[i]? = some y := by rfl) (hv : Vis X.env.scope y := by first | exact Or.inl rfl | exact Or.inr (Or.inl rfl) | exact Or.inr (Or.inr rfl)) (hd : (y == ("__debug__" : Str)) = false := by decide)
    (hcd : (y == ("__classdict__" : Str)) = false := by decide)
    (hdb : (x == ("__debug__" : Str)) = false := by decide) (he : starEach (.Name y py :: es) X.env = (false, eval (.Name y py) X.env) :: starEach es X.env := by rfl) (hpl : (backTo pos (starEach es X.env)).any (·.1) = false := by rfl) :
    ME X io false true (.Call (.Name x pp) (.Name y py :: es) [] pos) (mCallI i S mr) := by
  obtain ⟨_, A, sa⟩ := ha
  exact ⟨_, pe_call F hr hg hm hk hb .nil hx (pa_cons (pv i hN hv hd hcd) A he) hdb he hpl, sCallI sa⟩
noncomputable def PNs (G : PySem.W.Frag) (r : List V → Hp → VK → Prop) (rp : List PyData → (PyData → Prop) → Prop) : Prop := ∀ (H : Hp) (L : Addr → Prop) (xs : List V) (ds : List PyData) (k : PyData → Prop) (Q : VK), Das G H L xs ds → rp ds k → (∀ v d', ScD v d' → k d' → Q v H) → r xs H Q
noncomputable def mBlS (rp : List PyData → (PyData → Prop) → Prop) (mr : MAt) : MEt := fun δ K => mr δ fun rs δ1 => rp (OT.datas rs) fun d => K (.fz d) δ1
theorem sBlS {r rp} {t : TA} (P : PNs G r rp) (sa : SA G io p c t mr) : SE G io p true (tCB r t) (mBlS rp mr) := fun C H σ δ fp ex K Q R h kk =>
  sa C H σ δ fp ex _ _ R h fun H1 vs rs δ1 fp1 new1 r1 h1 => P H1 _ vs _ _ _ (r1.das R) h1 fun v d' sc h2 => kk H1 v _ δ1 fp1 [] (.fz r1.base r1.stp sc.da) h2
variable {id T : String} {r : List V → Hp → VK → Prop}
theorem m_blS {rp} (P : PNs X.K r rp) (hc : CallR X (.builtin id) r) (hg : Gl X x) (hm : X.mg x = none) (hv : bootBuiltins x = some (.builtin id)) (ha : MA X io p c (e :: es) mr) (hn : x ≠ "__name__" := by decide) (hdb : (x == ("__debug__" : Str)) = false := by decide)
    (he : starEach (e :: es) X.env = (false, eval e X.env) :: starEach es X.env := by rfl) (hpl : (backTo pos (starEach es X.env)).any (·.1) = false := by rfl) : ME X io p true (.Call (.Name x pp) (e :: es) [] pos) (mBlS rp mr) := by
  obtain ⟨_, A, sa⟩ := ha
  exact ⟨_, pe_callB hc hg hm hv A hn hdb he hpl, sBlS P sa⟩
theorem m_tyS {rp} (P : PNs X.K r rp) (hc : CallR X (.type T) r) (hg : Gl X x) (hm : X.mg x = none) (hv : bootBuiltins x = some (.type T)) (ha : MA X io p c (e :: es) mr) (hn : x ≠ "__name__" := by decide) (hdb : (x == ("__debug__" : Str)) = false := by decide)
    (he : starEach (e :: es) X.env = (false, eval e X.env) :: starEach es X.env := by rfl) (hpl : (backTo pos (starEach es X.env)).any (·.1) = false := by rfl) : ME X io p true (.Call (.Name x pp) (e :: es) [] pos) (mBlS rp mr) := by
  obtain ⟨_, A, sa⟩ := ha
  exact ⟨_, pe_callTy hc hg hm hv A hn hdb he hpl, sBlS P sa⟩
end
end L2
namespace L2
open PySem PySem.Spec PyProof.Rows
variable {G : PySem.W.Frag}
mutual
noncomputable def flatD : PyData → Bool
  | .none => true
  | .bool _ => true
  | .int _ => true
  | .str _ => true
  | .tuple ds => flatDs ds
  | .list _ => false
  | .dict _ => false
noncomputable def flatDs : List PyData → Bool
  | [] => true
  | d :: ds => flatD d && flatDs ds
end
theorem Da.flat2 {H : Hp} {L L' : Addr → Prop} : (∀ {v : V} {d : PyData}, Da G H L v d → flatD d = true → Da G H L' v d) ∧ ∀ {v : List V} {d : List PyData}, Das G H L v d → flatDs d = true → Das G H L' v d :=
  Da.both (fun _ => .non) (fun b _ => .bl b) (fun i _ => .int i) (fun x _ => .str x) (fun _ _ _ h => by rw [flatD] at h; cases h) (fun e r h => .tup e (r (by rw [flatD] at h; exact h))) (fun k _ => .scr k) (fun c n e _ => .exc c n e) (fun k _ => .fn k) (fun _ _ _ _ h => by rw [dcD, flatD] at h; cases h) (fun _ => .nil)
    (fun k r h => by rw [flatDs, Bool.and_eq_true] at h; exact .cons (k h.1) (r h.2))
theorem Da.flat {H : Hp} {L L' : Addr → Prop} {v : V} {d : PyData} (h : Da G H L v d) (f : flatD d = true) : Da G H L' v d := Da.flat2.1 h f
set_option genInjectivity false in
structure EndsM where
  nx : DEnv → Prop
  rt : OT → DEnv → Prop
  bk : DEnv → Prop := fun _ => False
  ct : DEnv → Prop := fun _ => False
noncomputable abbrev MSt := EndsM → DEnv → Prop
noncomputable abbrev Kp (H : Hp) (fp : Fp) (H' : Hp) (fp' : Fp) : Prop := Stp false H [] fp H' [] fp'
theorem Stp.kp {p : Bool} {H H' : Hp} {δ δ' : DEnv} {fp fp' : Fp} (S : Stp p H δ fp H' δ' fp') : Kp H fp H' fp' := ⟨fun b o e q => S.keep b o e (.inr (q.resolve_left (by decide))), fun z => (nomatch z), S.grow, S.al⟩
theorem Kp.trans {H H1 H2 : Hp} {fp fp1 fp2 : Fp} (a : Kp H fp H1 fp1) (b : Kp H1 fp1 H2 fp2) : Kp H fp H2 fp2 := Stp.trans a b
theorem Kp.refl (H : Hp) (fp : Fp) : Kp H fp H fp := Stp.refl _ _ _ _
structure RelEnds (C : MC G) (io : List Nat) (ex : Addr → Prop) (H : Hp) (fp : Fp) (D : EndsM) (D' : Ends) : Prop where
  nx : ∀ H' σ' δ' fp', Rel C io H' σ' δ' fp' ex → Kp H fp H' fp' → D.nx δ' → D'.nx σ' H'
  bk : ∀ H' σ' δ' fp', Rel C io H' σ' δ' fp' ex → Kp H fp H' fp' → D.bk δ' → D'.bk σ' H'
  ct : ∀ H' σ' δ' fp', Rel C io H' σ' δ' fp' ex → Kp H fp H' fp' → D.ct δ' → D'.ct σ' H'
  rt : ∀ H' σ' v r δ' fp' new, Rel C io H' σ' δ' fp' (exu ex new) → Own G H' (Lf C fp' (exu ex new)) v r new → new.Nodup → (∀ a ∈ new, C.H₀ a = none) → D.rt r δ' → D'.rt v H'
theorem RelEnds.shift {C : MC G} {io : List Nat} {ex : Addr → Prop} {H H1 : Hp} {fp fp1 : Fp} {D : EndsM} {D' : Ends} (E : RelEnds C io ex H fp D D') (k : Kp H fp H1 fp1) : RelEnds C io ex H1 fp1 D D' :=
  ⟨fun H' σ' δ' fp' R q => E.nx H' σ' δ' fp' R (k.trans q), fun H' σ' δ' fp' R q => E.bk H' σ' δ' fp' R (k.trans q), fun H' σ' δ' fp' R q => E.ct H' σ' δ' fp' R (k.trans q), E.rt⟩
noncomputable def SS (G : PySem.W.Frag) (io : List Nat) (t : TS) (m : MSt) : Prop := ∀ (C : MC G) (H : Hp) (σ : St) (δ : DEnv) (fp : Fp) (ex : Addr → Prop) (D : EndsM) (D' : Ends), Rel C io H σ δ fp ex → m D δ → RelEnds C io ex H fp D D' → t D' σ H
noncomputable def MS (X : Cx) (io : List Nat) (st : Stmt) (m : MSt) : Prop := ∃ t, PS X st t ∧ SS X.K io t m
noncomputable def MSs (X : Cx) (io : List Nat) (st : List Stmt) (m : MSt) : Prop := ∃ t, PSs X st t ∧ SS X.K io t m
section
variable {X : Cx} {io : List Nat} {p p' p'' c c' : Bool} {e a b : Expr} {m ma mb : MEt} {es rest : List Expr} {mr : MAt} {pos : Pos} {st : Stmt} {sts : List Stmt} {u w : MSt} {mt : MTt}
noncomputable def mNext : MSt := fun D δ => D.nx δ
noncomputable def Hold (w : MSt) (D : EndsM) (δ : DEnv) : Prop := w D δ
noncomputable def mSeq (u w : MSt) : MSt := fun D δ => u { D with nx := Hold w D } δ
theorem mss_nil : MSs X io [] mNext := ⟨_, pss_nil, fun C H σ δ fp ex D D' R h E => E.nx H σ δ fp R (.refl _ _) h⟩
theorem mss_one (h : MS X io st u) : MSs X io [st] u := by
  obtain ⟨_, A, s⟩ := h
  exact ⟨_, pss_one A, s⟩
theorem mss_cons (h : MS X io st u) (g : MSs X io sts w) : MSs X io (st :: sts) (mSeq u w) := by
  obtain ⟨_, A, s⟩ := h
  obtain ⟨tb, B, s'⟩ := g
  exact ⟨_, pss_cons A B, fun C H σ δ fp ex D D' R h E => s C H σ δ fp ex _ _ R h ⟨fun H1 σ1 δ1 fp1 R1 k1 h1 => s' C H1 σ1 δ1 fp1 ex D D' R1 h1 (E.shift k1), E.bk, E.ct, E.rt⟩⟩
noncomputable def mRet (m : MEt) : MSt := fun D δ => m δ fun r δ' => D.rt r δ'
theorem ms_ret (he : ME X io p true e m) : MS X io (.Return (some e) pos) (mRet m) := by
  obtain ⟨_, A, s⟩ := he
  exact ⟨_, ps_ret A, fun C H σ δ fp ex D D' R h E => s C H σ δ fp ex _ _ R h fun H' v r δ' fp' new r1 h1 => E.rt H' σ v r δ' fp' new r1.rel (r1.own.wide fun a l _ => l rfl) r1.nd (fun a m => (R.newOk (r1.fresh a m)).2.2) h1⟩
noncomputable def mIfS (t : MTt) (u w : MSt) : MSt := fun D δ => t δ fun b δ' => if b = true then u D δ' else w D δ'
theorem ms_if {cnd : Expr} {ss ss' : List Stmt} (hc : MT X io p cnd mt) (ha : MSs X io ss u) (hb : MSs X io ss' w) : MS X io (.If cnd ss ss' pos) (mIfS mt u w) := by
  obtain ⟨_, T, s⟩ := hc
  obtain ⟨_, A, sa⟩ := ha
  obtain ⟨_, B, sb⟩ := hb
  exact ⟨_, ps_if T A B, fun C H σ δ fp ex D D' R h E => s C H σ δ fp ex _ _ R h fun H' b δ' fp' R' S h' => by
    cases b with
    | true =>
      rw [if_pos rfl] at h' ⊢
      exact sa C H' σ δ' fp' ex D D' R' h' (E.shift S.kp)
    | false =>
      rw [if_neg Bool.false_ne_true] at h' ⊢
      exact sb C H' σ δ' fp' ex D D' R' h' (E.shift S.kp)⟩
theorem Rel.put {C : MC G} {H : Hp} {σ : St} {δ : DEnv} {fp : Fp} {ex : Addr → Prop} {i : Nat} {v : V} {r : OT} {new : List Addr} (R : Rel C io H σ δ fp (exu ex new)) (hio : i ∉ io) (o : Own G H (Lf C fp (exu ex new)) v r new) (nd : new.Nodup)
    (hn : ∀ a ∈ new, C.H₀ a = none ∧ ¬ ex a) : ∃ fp', Rel C io H (σ.set i (some v)) (δ.set i (some r)) fp' ex ∧ ∀ a, Foot fp' a → Foot fp a ∨ a ∈ new := by
  by_cases hil : i < δ.length
  case neg =>
    refine ⟨fp, ?_, fun a h => .inl h⟩
    have hl := R.len
    rw [List.set_eq_of_length_le (show δ.length ≤ i by omega), List.set_eq_of_length_le (show σ.length ≤ i by omega)]
    exact R.drop fun a z => .inl z
  have hsl : i < σ.length := by rw [R.len]; exact hil
  have sub : ∀ a, Foot (fpu fp i new) a → Foot fp a ∨ a ∈ new := fun a z => by
    rcases z.of_u with z | ⟨j, _, z⟩
    · exact .inr z
    · exact .inl ⟨j, z⟩
  have lw : ∀ a, Lf C fp (exu ex new) a → Lf C (fpu fp i new) ex a := fun a l => ⟨fun z => (sub a z).elim l.1 fun z => l.2.1 (.inr z), fun z => l.2.1 (.inl z), l.2.2⟩
  refine ⟨fpu fp i new, ⟨by rw [List.length_set, List.length_set]; exact R.len, fun j t' e => ?_, fun j h => ?_, fun j => ?_, fun j k a h1 h2 => ?_, fun j a h z => ?_, fun a z => R.xa a (.inl z), R.fr, R.al, fun j a h => ?_, fun j hj => ?_⟩, sub⟩
  · by_cases ej : j = i
    · subst ej
      rw [List.getElem?_set_self hil] at e
      cases e
      exact ⟨v, List.getElem?_set_self hsl, by rw [fpu_same]; exact o.wide fun a l _ => lw a l⟩
    · rw [List.getElem?_set_ne (Ne.symm ej)] at e
      obtain ⟨w, e1, o1⟩ := R.own j t' e
      exact ⟨w, by rw [List.getElem?_set_ne (Ne.symm ej)]; exact e1, by rw [fpu_ne ej]; exact o1.wide fun a l _ => lw a l⟩
  · by_cases ej : j = i
    · subst ej; exact absurd (List.getElem?_set_self hil) (h r)
    · rw [fpu_ne ej]
      exact R.emp j fun t' z => h t' (by rw [List.getElem?_set_ne (Ne.symm ej)]; exact z)
  · by_cases ej : j = i
    · subst ej; rw [fpu_same]; exact nd
    · rw [fpu_ne ej]; exact R.nd j
  · by_cases ej : j = i
    · subst ej
      rw [fpu_same] at h1
      by_cases ek : k = j
      · exact ek.symm
      · rw [fpu_ne ek] at h2
        exact absurd (.inr h1) (R.dx k a h2)
    · rw [fpu_ne ej] at h1
      by_cases ek : k = i
      · subst ek
        rw [fpu_same] at h2
        exact absurd (.inr h2) (R.dx j a h1)
      · rw [fpu_ne ek] at h2
        exact R.dj j k a h1 h2
  · by_cases ej : j = i
    · subst ej
      rw [fpu_same] at h
      exact (hn a h).2 z
    · rw [fpu_ne ej] at h
      exact R.dx j a h (.inl z)
  · by_cases ej : j = i
    · subst ej
      rw [fpu_same] at h
      exact .inr (hn a h).1
    · rw [fpu_ne ej] at h
      exact R.new j a h
  · have ej : j ≠ i := fun z => hio (z ▸ hj)
    rw [List.getElem?_set_ne (Ne.symm ej)]
    exact R.io j hj
theorem RE.put {C : MC G} {H H' : Hp} {σ : St} {δ δ' : DEnv} {fp fp' : Fp} {ex : Addr → Prop} {i : Nat} {v : V} {r : OT} {new : List Addr} (R : RE C io p true H σ δ fp ex H' v r δ' fp' new) (R0 : Rel C io H σ δ fp ex) (hio : i ∉ io) :
    ∃ fp2, Rel C io H' (σ.set i (some v)) (δ'.set i (some r)) fp2 ex ∧ Kp H fp H' fp2 := by
  obtain ⟨fp2, R2, g⟩ := R.rel.put hio (R.own.wide fun a l _ => l rfl) R.nd fun a m => ⟨(R0.newOk (R.fresh a m)).2.2, (R0.newOk (R.fresh a m)).2.1⟩
  refine ⟨fp2, R2, fun b o e q => R.stp.keep b o e (.inr (q.resolve_left (by decide))), fun z => (nomatch z), fun a z => ?_, R.stp.al⟩
  rcases g a z with z | z
  · exact R.stp.grow a z
  · exact .inr (R.fresh a z)
theorem RE.fzc {C : MC G} {H H' : Hp} {σ : St} {δ δ' : DEnv} {fp fp' : Fp} {ex : Addr → Prop} {v : V} {r : OT} {new : List Addr} (R : RE C io p c H σ δ fp ex H' v r δ' fp' new) (R0 : Rel C io H σ δ fp ex) :
    RE C io p c H σ δ fp ex H' v (.fz r.data) δ' fp' [] := .fz R.base R.stp (R.da R0)
theorem RE.fzs {C : MC G} {H H' : Hp} {σ : St} {δ δ' : DEnv} {fp fp' : Fp} {ex : Addr → Prop} {v : V} {r : OT} {new : List Addr} (R : RE C io p c H σ δ fp ex H' v r δ' fp' new) (R0 : Rel C io H σ δ fp ex) (h : flatD r.data = true) :
    RE C io p true H σ δ fp ex H' v (.fz r.data) δ' fp' [] := .fz R.base R.stp ((R.da R0).flat h)
noncomputable def mSet (i : Nat) (m : MEt) : MSt := fun D δ => m δ fun r δ' => D.nx (δ'.set i (some (.fz r.data)))
noncomputable def mSetS (i : Nat) (m : MEt) : MSt := fun D δ => m δ fun r δ' => flatD r.data = true ∧ D.nx (δ'.set i (some (.fz r.data)))
noncomputable def mSetO (i : Nat) (m : MEt) : MSt := fun D δ => m δ fun r δ' => D.nx (δ'.set i (some r))
section
variable {i : Nat} {x : Str} {px : Pos}
theorem sSet {t : TE} (s : SE G io p true t m) (hio : i ∉ io) : SS G io (tAsg t (gName i)) (mSet i m) := fun C H σ δ fp ex D D' R h E => s C H σ δ fp ex _ _ R h fun H' v r δ' fp' new r1 h1 => by
  obtain ⟨fp2, R2, k2⟩ := (r1.fzc R).put R hio
  exact E.nx H' _ _ fp2 R2 k2 h1
theorem sSetS {t : TE} (s : SE G io p c t m) (hio : i ∉ io) : SS G io (tAsg t (gName i)) (mSetS i m) := fun C H σ δ fp ex D D' R h E => s C H σ δ fp ex _ _ R h fun H' v r δ' fp' new r1 h1 => by
  obtain ⟨fp2, R2, k2⟩ := (r1.fzs R h1.1).put R hio
  exact E.nx H' _ _ fp2 R2 k2 h1.2
theorem sSetO {t : TE} (s : SE G io p true t m) (hio : i ∉ io) : SS G io (tAsg t (gName i)) (mSetO i m) := fun C H σ δ fp ex D D' R h E => s C H σ δ fp ex _ _ R h fun H' v r δ' fp' new r1 h1 => by
  obtain ⟨fp2, R2, k2⟩ := r1.put R hio
  exact E.nx H' _ _ fp2 R2 k2 h1
theorem ms_set (hN : X.N.Nodup) (hi : X.N[i]? = some x) (hx : Loc X.env.scope x) (he : ME X io p true e m) (hio : i ∉ io := by decide) (hs : swapsWith e (some (.Name x px)) pos.line X.env = pure false := by rfl) (hf : X.fn x = true ∨ X.env.scope.names.lookup x = some .local := by first | exact .inl rfl | exact .inr rfl | assumption) :
    MS X io (.Assign [.Name x px] e pos) (mSet i m) := by
  obtain ⟨_, A, s⟩ := he
  exact ⟨_, ps_set hN hi hx A hs hf, sSet s hio⟩
theorem ms_setS (hN : X.N.Nodup) (hi : X.N[i]? = some x) (hx : Loc X.env.scope x) (he : ME X io p c e m) (hio : i ∉ io := by decide) (hs : swapsWith e (some (.Name x px)) pos.line X.env = pure false := by rfl) (hf : X.fn x = true ∨ X.env.scope.names.lookup x = some .local := by first | exact .inl rfl | exact .inr rfl | assumption) :
    MS X io (.Assign [.Name x px] e pos) (mSetS i m) := by
  obtain ⟨_, A, s⟩ := he
  exact ⟨_, ps_set hN hi hx A hs hf, sSetS s hio⟩
theorem ms_setO (hN : X.N.Nodup) (hi : X.N[i]? = some x) (hx : Loc X.env.scope x) (he : ME X io p true e m) (hio : i ∉ io := by decide) (hs : swapsWith e (some (.Name x px)) pos.line X.env = pure false := by rfl) (hf : X.fn x = true ∨ X.env.scope.names.lookup x = some .local := by first | exact .inl rfl | exact .inr rfl | assumption) :
    MS X io (.Assign [.Name x px] e pos) (mSetO i m) := by
  obtain ⟨_, A, s⟩ := he
  exact ⟨_, ps_set hN hi hx A hs hf, sSetO s hio⟩
end
noncomputable def mWhile (t : MTt) (u : MSt) : MSt := fun D δ => ∃ W : Nat → DEnv → Prop, (∃ n, W n δ) ∧ ∀ n δ, W n δ → t δ fun b δ' => if b = true then ∃ N : DEnv → Prop, (∀ δ', N δ' → ∃ n', n' < n ∧ W n' δ') ∧ u { D with nx := N, ct := N, bk := D.nx } δ' else D.nx δ'
theorem ms_while {cnd : Expr} {ss : List Stmt} (hp : PassesOwn (model X.prog X.w) X.A X.env X.xe) (hc : MT X io p cnd mt) (ha : MSs X io ss u) : MS X io (.While cnd ss [] pos) (mWhile mt u) := by
  obtain ⟨_, T, s⟩ := hc
  obtain ⟨_, A, sa⟩ := ha
  refine ⟨_, ps_while hp T A, fun C H σ δ fp ex D D' R h E => ?_⟩
  obtain ⟨W, ⟨n0, w0⟩, turn⟩ := h
  refine ⟨fun n σ' H' => ∃ δ' fp', Rel C io H' σ' δ' fp' ex ∧ Kp H fp H' fp' ∧ W n δ', ⟨n0, δ, fp, R, .refl _ _, w0⟩, ?_⟩
  rintro n σ1 H1 ⟨δ1, fp1, R1, k1, w1⟩
  refine s C H1 σ1 δ1 fp1 ex _ _ R1 (turn n δ1 w1) fun H2 b δ2 fp2 R2 S2 h2 => ?_
  have k2 := k1.trans S2.kp
  cases b with
  | true =>
    rw [if_pos rfl] at h2 ⊢
    obtain ⟨N, hN, h2⟩ := h2
    refine ⟨fun σ' H' => ∃ δ' fp', Rel C io H' σ' δ' fp' ex ∧ Kp H fp H' fp' ∧ N δ', fun σ' H' ⟨δ', fp', R', k', n'⟩ => ?_, ?_⟩
    · obtain ⟨n1, hn1, w1⟩ := hN δ' n'
      exact ⟨n1, hn1, δ', fp', R', k', w1⟩
    · refine sa C H2 σ1 δ2 fp2 ex _ _ R2 h2 ⟨fun H' σ' δ' fp' R' k' n' => ⟨δ', fp', R', k2.trans k', n'⟩, fun H' σ' δ' fp' R' k' n' => E.nx H' σ' δ' fp' R' (k2.trans k') n', fun H' σ' δ' fp' R' k' n' => ⟨δ', fp', R', k2.trans k', n'⟩, E.rt⟩
  | false =>
    rw [if_neg Bool.false_ne_true] at h2 ⊢
    exact E.nx H2 σ1 δ2 fp2 R2 k2 h2
end
end L2
namespace L2
open PySem PySem.Spec PyProof.Rows
variable {G : PySem.W.Frag}
noncomputable def startD (N : List Str) (ds : List PyData) : DEnv := ds.map (fun d => some (.fz d)) ++ List.replicate (N.length - ds.length) none
noncomputable def startI (N : List Str) (t : OT) (ds : List PyData) : DEnv := some t :: (ds.map (fun d => some (.fz d)) ++ List.replicate (N.length - (ds.length + 1)) none)
section
variable {H : Hp} {L : Addr → Prop} {vs : List V} {ds : List PyData} {N : List Str}
theorem startD_at {i : Nat} {t : OT} {n : Nat} (h : (ds.map (fun d => some (.fz d)) ++ List.replicate n none : DEnv)[i]? = some (some t)) : ∃ d, ds[i]? = some d ∧ t = .fz d := by
  rw [List.getElem?_append] at h
  split at h
  · rw [List.getElem?_map] at h
    cases e : ds[i]? with
    | none => rw [e] at h; cases h
    | some d => rw [e] at h; cases h; exact ⟨d, rfl, rfl⟩
  · rw [List.getElem?_replicate] at h
    split at h
    · cases h
    · cases h
theorem Rel.entry (h : Das G H L vs ds) : Rel (G := G) ⟨H, fun _ => False, L, start N vs⟩ [] H (start N vs) (startD N ds) (fun _ => []) (fun _ => False) := by
  refine ⟨?_, fun i t e => ?_, fun _ _ => rfl, fun _ => .nil, fun i j a m => (nomatch m), fun i a m => (nomatch m), fun a z => z.elim, fun b o e _ => e, fun b e => e, fun i a m => (nomatch m), fun i m => nomatch m⟩
  · unfold start startD
    simp [h.length]
  · obtain ⟨d, e', rfl⟩ := startD_at e
    obtain ⟨x, e1, q⟩ := h.get e'
    refine ⟨x, ?_, .fz (q.wide fun a l _ => ⟨fun ⟨j, z⟩ => (nomatch z), fun z => z, .inl l⟩)⟩
    unfold L2.start
    rw [List.getElem?_append_left (by rw [List.length_map]; exact (List.getElem?_eq_some_iff.mp e1).1), List.getElem?_map, e1]
    rfl
variable {P : Program} {w : World} {K : PySem.W.Frag} {mg : Str → Option Value} {base : Heap}
noncomputable def endsD (k : OT → Prop) : EndsM := { nx := fun _ => k (.fz .none), rt := fun r _ => k r }
theorem Fun.okD {x qual : Str} {st : Stmt} {f : Addr} {fd : FuncData} {N ps : List Str} {n : Nat} {S : List PyData → (OT → Prop) → Prop} (F : Fun K x qual st f fd) (Sc : FnScope N ps (defScope st)) (len : ∀ ds k, S ds k → ds.length = ps.length)
    (hbody : ∀ (cdv : Value) (A : Around) (outer : List Env) (s : Shared) (H : Hp) (E : XK), Room n (A.deeper (envOfC qual (defScope st) s.heap.objs.size f cdv)) →
      ∃ m, MSs (cxOf CX0 P w K mg base N qual (defScope st) f cdv A outer s H E).nox [] (defBody st) m ∧ ∀ ds k, S ds k → m (endsD k) (startD N ds)) : FnOk P w K mg base CX0 (n + 1) f fd ps (spD K S) := by
  refine F.ok Sc (fun vs H Q E h => ?_) (fun cdv A outer s H vs Q E hr h => ?_)
  · obtain ⟨L, ds, k, h1, h2, _⟩ := h
    rw [h1.length]
    exact len ds k h2
  · obtain ⟨L, ds, k, h1, h2, h3⟩ := h
    obtain ⟨m, ⟨t, A1, s1⟩, q⟩ := hbody cdv A outer s H E hr
    refine ⟨t, A1, s1 ⟨H, fun _ => False, L, start N vs⟩ H _ _ _ _ (endsD k) _ (Rel.entry h1) (q ds k h2) ⟨fun H' σ' δ' fp' R _ hk => ?_, fun _ _ _ _ _ _ z => z.elim, fun _ _ _ _ _ _ z => z.elim, fun H' σ' v r δ' fp' new R o nd hn hk => ?_⟩⟩
    · exact h3 _ .non H' [] hk (fun b o e => R.fr b o e id) (.fz .non) .nil fun a m => nomatch m
    · refine h3 r v H' new hk (fun b o e => R.fr b o e id) (o.wide fun a l _ => ⟨?_, fun z => l.2.1 (.inr z)⟩) nd hn
      exact l.2.2
theorem Rel.entryI {v0 : V} {t0 : OT} {as : List Addr} (o : Own G H L v0 t0 as) (nd : as.Nodup) (hL : ∀ a ∈ as, ¬ L a) (h : Das G H L vs ds) :
    Rel (G := G) ⟨H, fun a => a ∈ as, L, start N (v0 :: vs)⟩ [0] H (start N (v0 :: vs)) (startI N t0 ds) (fun i => if i = 0 then as else []) (fun _ => False) := by
  have lw : ∀ a, L a → H a ≠ none → Lf (G := G) ⟨H, fun a => a ∈ as, L, L2.start N (v0 :: vs)⟩ (fun i => if i = 0 then as else []) (fun _ => False) a := fun a l _ => ⟨fun q91 => by
    obtain ⟨i, z⟩ := q91
    dsimp only at z
    split at z
    · exact hL a z l
    · exact (nomatch z), fun z => z, .inl l⟩
  have sub : ∀ i a, a ∈ (if i = 0 then as else []) → i = 0 ∧ a ∈ as := fun i a m => by
    split at m
    · exact ⟨by assumption, m⟩
    · exact nomatch m
  refine ⟨?_, fun i t e => ?_, fun i h => ?_, fun i => ?_, fun i j a m m' => (sub i a m).1.trans (sub j a m').1.symm, fun i a m z => z, fun a z => z.elim, fun b o e _ => e, fun b e => e, fun i a m => .inl ⟨by rw [(sub i a m).1]; exact List.mem_singleton.mpr rfl, (sub i a m).2⟩, fun i _ => rfl⟩
  · unfold L2.start L2.startI
    simp [h.length]
  · cases i with
    | zero =>
      have e' : t0 = t := by
        unfold L2.startI at e
        simpa using e
      subst e'
      exact ⟨v0, rfl, o.wide lw⟩
    | succ i =>
      have e' : (ds.map (fun d => some (.fz d)) ++ List.replicate (N.length - (ds.length + 1)) none : DEnv)[i]? = some (some t) := e
      obtain ⟨d, e2, rfl⟩ := startD_at e'
      obtain ⟨x, e1, q⟩ := h.get e2
      refine ⟨x, ?_, .fz (q.wide lw)⟩
      show (vs.map some ++ _)[i]? = _
      rw [List.getElem?_append_left (by rw [List.length_map]; exact (List.getElem?_eq_some_iff.mp e1).1), List.getElem?_map, e1]
      rfl
  · split
    · subst i
      exact absurd rfl (h t0)
    · rfl
  · split
    · exact nd
    · exact .nil
noncomputable def endsI (k : OT → OT → Prop) : EndsM := { nx := fun δ => match δ[0]? with | some (some t) => k (.fz .none) t | _ => False, rt := fun r δ => match δ[0]? with | some (some t) => k r t | _ => False }
theorem Fun.okI {x qual : Str} {st : Stmt} {f : Addr} {fd : FuncData} {N ps : List Str} {n : Nat} {S : OT → List PyData → (OT → OT → Prop) → Prop} (F : Fun K x qual st f fd) (Sc : FnScope N ps (defScope st)) (len : ∀ t ds k, S t ds k → ds.length + 1 = ps.length)
    (hbody : ∀ (cdv : Value) (A : Around) (outer : List Env) (s : Shared) (H : Hp) (E : XK), Room n (A.deeper (envOfC qual (defScope st) s.heap.objs.size f cdv)) →
      ∃ m, MSs (cxOf CX0 P w K mg base N qual (defScope st) f cdv A outer s H E).nox [0] (defBody st) m ∧ ∀ t ds k, S t ds k → m (endsI k) (startI N t ds)) : FnOk P w K mg base CX0 (n + 1) f fd ps (spI K S) := by
  refine F.ok Sc (fun vs H Q E h => ?_) (fun cdv A outer s H vs Q E hr h => ?_)
  · obtain ⟨L, v0, t0, as, vs', ds, k, rfl, _, _, _, h1, h2, _⟩ := h
    rw [List.length_cons, h1.length]
    exact len t0 ds k h2
  · obtain ⟨L, v0, t0, as, vs', ds, k, rfl, o0, nd0, hL, h1, h2, h3⟩ := h
    obtain ⟨m, ⟨t, A1, s1⟩, q⟩ := hbody cdv A outer s H E hr
    have fin : ∀ H' σ' v r δ' fp' new, Rel (G := K) ⟨H, fun a => a ∈ as, L, L2.start N (v0 :: vs')⟩ [0] H' σ' δ' fp' (exu (fun _ => False) new) → Own K H' (Lf (G := K) ⟨H, fun a => a ∈ as, L, L2.start N (v0 :: vs')⟩ fp' (exu (fun _ => False) new)) v r new → new.Nodup → (∀ a ∈ new, H a = none) →
        (match δ'[0]? with | some (some t) => k r t | _ => False) → Q v H' := by
      intro H' σ' v r δ' fp' new R o nd hn hk
      split at hk
      case h_2 => exact hk.elim
      rename_i t' e'
      obtain ⟨u, eu, ou⟩ := R.own 0 t' e'
      have hio := R.io 0 (by simp)
      rw [eu] at hio
      have : u = v0 := by
        have e2 : (L2.start N (v0 :: vs'))[0]? = some (some v0) := rfl
        have hio' : some (some u) = (L2.start N (v0 :: vs'))[0]? := hio
        rw [e2] at hio'
        cases hio'; rfl
      subst this
      refine h3 r t' v H' new (fp' 0) hk (fun b ob e nb => R.fr b ob e nb) (fun b e => R.al b e) (o.wide fun a l _ => ⟨l.2.2, fun z => l.2.1 (.inr z), fun z => l.1 ⟨0, z⟩⟩) (ou.wide fun a l _ => ⟨l.2.2, fun z => l.2.1 (.inr z), fun z => l.1 ⟨0, z⟩⟩) ?_ hn fun a m => ?_
      · exact List.nodup_append.mpr ⟨R.nd 0, nd, fun a m b m' z => by subst z; exact R.dx 0 a m (.inr m')⟩
      · rcases R.new 0 a m with z | z
        · exact .inl z.2
        · exact .inr z
    refine ⟨t, A1, s1 ⟨H, fun a => a ∈ as, L, L2.start N (v0 :: vs')⟩ H _ _ _ _ (endsI k) _ (Rel.entryI o0 nd0 hL h1) (q t0 ds k h2) ⟨fun H' σ' δ' fp' R _ hk => ?_, fun _ _ _ _ _ _ z => z.elim, fun _ _ _ _ _ _ z => z.elim, fun H' σ' v r δ' fp' new R o nd hn hk => fin H' σ' v r δ' fp' new R o nd hn hk⟩⟩
    exact fin H' σ' .non (.fz .none) δ' fp' [] (R.drop fun a z => exu_nil.mp z) (.fz .non) .nil (fun a m => nomatch m) hk
end
noncomputable abbrev MGt := PyData → DEnv → (DEnv → Prop) → Prop
noncomputable abbrev MGst := List PyData → DEnv → (DEnv → Prop) → Prop
noncomputable def SG (G : PySem.W.Frag) (io : List Nat) (c : Bool) (t : TG) (g : MGt) : Prop := ∀ (C : MC G) (H : Hp) (σ : St) (δ : DEnv) (fp : Fp) (ex : Addr → Prop) (v : V) (d : PyData) (k : DEnv → Prop) (Q : St → Hp → Prop), Rel C io H σ δ fp ex → Da G H (fun a => c = true → Lf C fp ex a) v d → g d δ k →
  (∀ σ' δ' fp', Rel C io H σ' δ' fp' ex → Kp H fp H fp' → k δ' → Q σ' H) → t v σ H Q
noncomputable def MG (X : Cx) (io : List Nat) (c : Bool) (tg : Expr) (g : MGt) : Prop := ∃ t, PG X tg t ∧ SG X.K io c t g
section
variable {X : Cx} {io : List Nat} {c : Bool} {pos : Pos} {i : Nat} {x : Str}
noncomputable def dName (i : Nat) : MGt := fun d δ k => k (δ.set i (some (.fz d)))
theorem Rel.putD {C : MC G} {H : Hp} {σ : St} {δ : DEnv} {fp : Fp} {ex : Addr → Prop} {v : V} {d : PyData} (R : Rel C io H σ δ fp ex) (hio : i ∉ io) (q : Da G H (Lf C fp ex) v d) :
    ∃ fp', Rel C io H (σ.set i (some v)) (δ.set i (some (.fz d))) fp' ex ∧ Kp H fp H fp' := by
  obtain ⟨fp', R', g⟩ := (R.drop fun a z => exu_nil.mp z).put (new := []) hio (.fz (q.wide fun a l _ => ⟨l.1, fun z => l.2.1 (exu_nil.mp z), l.2.2⟩)) .nil (fun a m => nomatch m)
  exact ⟨fp', R', fun b o e _ => e, fun z => (nomatch z), fun a z => (g a z).imp id fun z => (nomatch z), fun b e => e⟩
theorem mg_name (hN : X.N.Nodup) (hi : X.N[i]? = some x := by rfl) (hx : Loc X.env.scope x := by first | exact Or.inl rfl | exact Or.inr rfl) (hio : i ∉ io := by decide) (hf : X.fn x = true ∨ X.env.scope.names.lookup x = some .local := by first | exact .inl rfl | exact .inr rfl | assumption) : MG X io true (.Name x pos) (dName i) :=
  ⟨_, pg_name hN hi hx hf, fun C H σ δ fp ex v d k Q R q h kk => by
    obtain ⟨fp', R', k'⟩ := R.putD hio (q.wide fun a l _ => l rfl)
    exact kk _ _ fp' R' k' h⟩
theorem Rel.kp_das {C : MC G} {H H' : Hp} {σ : St} {δ : DEnv} {fp fp' : Fp} {ex : Addr → Prop} {vs : List V} {ds : List PyData} (R : Rel C io H σ δ fp ex) (S : Kp H fp H' fp') (h : Das G H (Lf C fp ex) vs ds) : Das G H' (Lf C fp' ex) vs ds := by
  have S' : Stp false H δ fp H' δ fp' := ⟨S.keep, fun z => (nomatch z), S.grow, S.al⟩
  obtain ⟨f1, f2⟩ := R.frameL (c := true) (ex' := ex) S' (.inr rfl) fun a z => .inl z
  exact h.frame (fun a xs l q => ⟨(f1 a xs (fun _ => l) q).1 rfl, (f1 a xs (fun _ => l) q).2⟩) f2
end
end L2
namespace L2
open PySem PySem.Spec PyProof.Rows
variable {G : PySem.W.Frag}
noncomputable def IterOk (C : MC G) (fp : Fp) (ex : Addr → Prop) (H1 : Hp) (c : Bool) (J : It) (ds : List PyData) : Prop := ∀ H' : Hp, (∀ b o, H1 b = some o → (c = false ∨ ¬ Foot fp b) → H' b = some o) → ∀ i : Nat,
  (∀ d, ds[i]? = some d → J.go i H' ∧ ∀ x H'', J.yld i H' x H'' → Same H' H'' ∧ Da G H'' (fun a => c = true → (Lf C fp ex a ∧ H1 a ≠ none)) x d) ∧ (ds[i]? = none → J.stop i H')
noncomputable abbrev MIt := DEnv → (List PyData → DEnv → Prop) → Prop
noncomputable def SI (G : PySem.W.Frag) (io : List Nat) (p c : Bool) (t : TI) (m : MIt) : Prop := ∀ (C : MC G) (H : Hp) (σ : St) (δ : DEnv) (fp : Fp) (ex : Addr → Prop) (K : List PyData → DEnv → Prop) (Q : It → Hp → Prop), Rel C io H σ δ fp ex → m δ K →
  (∀ J H1 ds δ1 fp1, Rel C io H1 σ δ1 fp1 ex → Stp p H δ fp H1 δ1 fp1 → IterOk C fp1 ex H1 c J ds → K ds δ1 → Q J H1) → t σ H Q
noncomputable def MI (X : Cx) (io : List Nat) (p c : Bool) (tg iter : Expr) (m : MIt) : Prop := ∃ t, PI X tg iter t ∧ SI X.K io p c t m
section
variable {X : Cx} {io : List Nat} {p c : Bool} {e a b tg : Expr} {m : MEt} {mr : MAt} {K : PySem.W.Frag}
noncomputable def iL (m : MEt) : MIt := fun δ K => m δ fun r δ' => match r.data with | .list ds => K ds δ' | _ => False
theorem Rel.kept {C : MC G} {H H' : Hp} {σ : St} {δ : DEnv} {fp : Fp} {ex : Addr → Prop} (R : Rel C io H σ δ fp ex) (kp : ∀ b o, H b = some o → (c = false ∨ ¬ Foot fp b) → H' b = some o) :
    (∀ a (xs : MuO), (c = true → Lf C fp ex a) → Rd H a xs.ho → (c = true → (Lf C fp ex a ∧ H a ≠ none)) ∧ Rd H' a xs.ho) ∧ (∀ a (xs : ImO), H a = some xs.ho → H' a = some xs.ho) := by
  refine ⟨fun a xs l q => ⟨fun hc => ⟨l hc, q.some⟩, ?_⟩, fun a xs q => kp a _ q (.inr fun z => ?_)⟩
  · have hk : c = false ∨ ¬ Foot fp a := by
      cases c with
      | false => exact .inl rfl
      | true => exact .inr (l rfl).1
    rcases q with q | ⟨o, q⟩
    · exact .inl (kp a _ q hk)
    · exact .inr ⟨o, kp a _ q hk⟩
  · obtain ⟨ys, e⟩ := R.foot z
    exact ImO.nm q e
theorem mi_list (h : ME X io p c e m) : MI X io p c tg e (iL m) := by
  obtain ⟨_, A, s⟩ := h
  exact ⟨_, pi_listK rfl A, fun C H σ δ fp ex K' Q R h kk => s C H σ δ fp ex _ _ R h fun H1 v r δ1 fp1 new r1 h1 => by
    have q := r1.da R
    generalize r.data = d at q h1
    cases q with
    | lst l e qs =>
      refine ⟨_, rfl, ⟨_, .inl e⟩, kk _ H1 _ δ1 fp1 r1.base r1.stp (fun H' kp i => ?_) h1⟩
      obtain ⟨f1, f2⟩ := r1.base.kept kp
      have e' := (f1 _ (.lst _) l e).2
      have qs' := qs.frame f1 f2
      refine ⟨fun d hd => ?_, fun hd => ?_⟩
      · obtain ⟨x, hx, qx⟩ := qs'.get hd
        refine ⟨⟨_, x, .inl e', hx⟩, fun y H'' hy => ?_⟩
        obtain ⟨rfl, hy⟩ := hy
        have := hy _ (.inl e')
        rw [hx] at this
        cases this
        exact ⟨Same.refl _, qx⟩
      · exact ⟨_, .inl e', by rw [qs'.length]; exact List.getElem?_eq_none_iff.mp hd⟩
    | scr ks =>
      refine ⟨_, rfl, ⟨_, ks.sq⟩, kk _ H1 _ δ1 fp1 r1.base r1.stp (fun H' kp i => ?_) h1⟩
      refine ⟨fun d hd => ?_, fun hd => ?_⟩
      · obtain ⟨x, hx, qx⟩ := (Das.ints (G := X.K) (H := H') (L := fun a => c = true → (Lf C fp1 ex a ∧ H1 a ≠ none)) _).get hd
        refine ⟨⟨_, x, ks.sq, hx⟩, fun y H'' hy => ?_⟩
        obtain ⟨rfl, hy⟩ := hy
        have := hy _ ks.sq
        rw [hx] at this
        cases this
        exact ⟨Same.refl _, qx⟩
      · refine ⟨_, ks.sq, ?_⟩
        have := List.getElem?_eq_none_iff.mp hd
        simpa using this
    | _ => exact h1.elim⟩
noncomputable def rngD (lo : Int) (n : Nat) : List PyData := (List.range n).map fun (i : Nat) => PyData.int (lo + (i : Int))
@[simp] theorem rngD_length (lo : Int) (n : Nat) : (rngD lo n).length = n := by simp [rngD]
theorem rngD_get {lo : Int} {n i : Nat} {d : PyData} (h : (rngD lo n)[i]? = some d) : i < n ∧ d = .int (lo + i) := by
  have hi : i < n := by
    have := (List.getElem?_eq_some_iff.mp h).1
    simpa using this
  unfold rngD at h
  rw [List.getElem?_map, List.getElem?_range hi] at h
  cases h
  exact ⟨hi, rfl⟩
theorem iter_rng {C : MC G} {fp : Fp} {ex : Addr → Prop} {H1 : Hp} {lo : Int} {n : Nat} : IterOk C fp ex H1 true (Itr lo n) (rngD lo n) := fun H' _ i => by
  refine ⟨fun d hd => ?_, fun hd => ?_⟩
  · obtain ⟨hi, rfl⟩ := rngD_get hd
    refine ⟨hi, fun x H'' hy => ?_⟩
    obtain ⟨rfl, rfl⟩ := hy
    exact ⟨Same.refl _, .int _⟩
  · have := List.getElem?_eq_none_iff.mp hd
    show n ≤ i
    simpa using this
noncomputable def iR1 (mr : MAt) : MIt := fun δ K => mr δ fun rs δ' => match OT.datas rs with | [.int j] => (-(2 ^ 62) ≤ j ∧ j < 2 ^ 62) ∧ K (rngD 0 j.toNat) δ' | _ => False
theorem mi_range1 {p' pos : Pos} (hg : Gl X "range") (hm : X.mg "range" = none) (ha : MA X io p c [a] mr) (hs : starEach [a] X.env = [(false, eval a X.env)] := by rfl) : MI X io p true tg (.Call (.Name "range" p') [a] [] pos) (iR1 mr) := by
  obtain ⟨_, A, s⟩ := ha
  exact ⟨_, pi_range1 hg hm A hs, fun C H σ δ fp ex K' Q R h kk => s C H σ δ fp ex _ _ R h fun H1 vs rs δ1 fp1 new r1 h1 => by
    have q := r1.das R
    generalize OT.datas rs = d at q h1
    split at h1
    case h_2 => exact h1.elim
    cases q with
    | cons q1 q2 =>
      cases q1
      cases q2
      exact ⟨_, rfl, h1.1.1, h1.1.2, kk _ H1 _ δ1 fp1 r1.base r1.stp iter_rng h1.2⟩⟩
theorem IterOk.at {C : MC G} {fp fp' : Fp} {ex : Addr → Prop} {H1 H' H'' : Hp} {J : It} {ds : List PyData} {x : V} {d : PyData} (g : ∀ a, Foot fp' a → Foot fp a ∨ H1 a = none) (h : Da G H'' (fun a => true = true → (Lf C fp ex a ∧ H1 a ≠ none)) x d) : Da G H'' (fun a => true = true → Lf C fp' ex a) x d :=
  h.wide fun a l _ z => ⟨fun w => (g a w).elim (l z).1.1 (l z).2, (l z).1.2.1, (l z).1.2.2⟩
noncomputable def mForB (ds : List PyData) (g : MGt) (u : MSt) (D : EndsM) (δ1 : DEnv) : Prop := ∃ I : Nat → DEnv → Prop, I 0 δ1 ∧ (∀ (i : Nat) (d : PyData) (δ' : DEnv), ds[i]? = some d → I i δ' → g d δ' fun δ2 => u { D with nx := I (i + 1), ct := I (i + 1), bk := D.nx } δ2) ∧ ∀ δ', I ds.length δ' → D.nx δ'
noncomputable def mFor (mi : MIt) (g : MGt) (u : MSt) : MSt := fun D δ => mi δ fun ds δ1 => mForB ds g u D δ1
theorem Rel.mk0 {C : MC G} {H H' : Hp} {σ : St} {δ : DEnv} {fp : Fp} {ex : Addr → Prop} (R : Rel C io H σ δ fp ex) (s : Same H H') : Rel C io H' σ δ fp ex := (R.made (new := []) s fun a m => nomatch m).drop fun a z => .inl z
theorem ms_for {iter : Expr} {body : List Stmt} {mi : MIt} {g : MGt} {u : MSt} {pos : Pos} (hp : PassesOwn (model X.prog X.w) X.A X.env X.xe) (hc : X.calm = true) (hi : MI X io p true tg iter mi) (hg : MG X io true tg g) (hb : MSs X io body u)
    (hs : ∀ x, foldedSetIterable iter X.env x = pure x := by intro _; rfl) : MS X io (.For tg iter body [] pos) (mFor mi g u) := by
  obtain ⟨_, A, s⟩ := hi
  obtain ⟨_, G, sg⟩ := hg
  obtain ⟨_, B, sb⟩ := hb
  refine ⟨_, ps_for hp hc A G B hs, fun C H σ δ fp ex D D' R h E => s C H σ δ fp ex _ _ R h fun J H1 ds δ1 fp1 R1 S1 it h1 => ?_⟩
  obtain ⟨I, h0, turn, fin⟩ := h1
  refine ⟨fun i n σ' H' => n = ds.length - i ∧ i ≤ ds.length ∧ ∃ δ' fp', Rel C io H' σ' δ' fp' ex ∧ Kp H1 fp1 H' fp' ∧ I i δ', ⟨ds.length, rfl, Nat.zero_le _, δ1, fp1, R1, .refl _ _, h0⟩, ?_⟩
  rintro i n σ2 H2 ⟨rfl, hle, δ2, fp2, R2, k2, i2⟩
  have itk := it H2 (fun b o e q => k2.keep b o e (.inr (q.resolve_left (by decide)))) i
  by_cases hlt : i < ds.length
  · have hd : ds[i]? = some ds[i] := List.getElem?_eq_getElem hlt
    obtain ⟨go, yl⟩ := itk.1 _ hd
    refine .inr ⟨go, fun σ' H' => ∃ δ' fp', Rel C io H' σ' δ' fp' ex ∧ Kp H1 fp1 H' fp' ∧ I (i + 1) δ', fun σ' H' ⟨δ', fp', R', k', i'⟩ => ⟨ds.length - (i + 1), by omega, rfl, hlt, δ', fp', R', k', i'⟩, fun x H3 hy => ?_⟩
    obtain ⟨s3, q3⟩ := yl x H3 hy
    have R3 := R2.mk0 s3
    have k3 : Kp H1 fp1 H3 fp2 := k2.trans ⟨fun b o e _ => s3 _ _ e, fun z => (nomatch z), fun a z => .inl z, s3.al⟩
    refine sg C H3 σ2 δ2 fp2 ex x _ _ _ R3 (IterOk.at (H' := H2) (J := J) (ds := ds) k2.grow q3) (turn i _ δ2 hd i2) fun σ4 δ4 fp4 R4 k4 h4 => ?_
    have k5 := k3.trans k4
    refine sb C H3 σ4 δ4 fp4 ex _ _ R4 h4 ⟨fun H' σ' δ' fp' R' k' n' => ⟨δ', fp', R', k5.trans k', n'⟩, fun H' σ' δ' fp' R' k' n' => E.nx H' σ' δ' fp' R' (S1.kp.trans (k5.trans k')) n', fun H' σ' δ' fp' R' k' n' => ⟨δ', fp', R', k5.trans k', n'⟩, E.rt⟩
  · have e : i = ds.length := by omega
    subst e
    exact .inl ⟨itk.2 (by simp), E.nx H2 σ2 δ2 fp2 R2 (S1.kp.trans k2) (fin δ2 i2)⟩
end
section
variable {X : Cx} {io : List Nat} {p c : Bool} {e tg : Expr} {m : MEt} {mt : MTt} {g : MGt} {ifs : List Expr}
end
end L2
namespace L2
open PySem PySem.Spec PyProof.Rows
variable {G : PySem.W.Frag}
noncomputable def blk (n : Nat) (caps : List Nat) (δ : DEnv) : DEnv := List.replicate n none ++ caps.map fun i => (δ[i]?).getD none
noncomputable def blkFp (n : Nat) (caps : List Nat) (fp : Fp) : Fp := fun k => if k < n then [] else match caps[k - n]? with | some i => fp i | none => []
noncomputable def blkIo (n : Nat) (caps : List Nat) : List Nat := (List.range caps.length).map (· + n)
noncomputable def blkC (C : MC G) (H1 : Hp) (fp : Fp) (σ0 : St) : MC G := ⟨H1, Foot fp, fun a => (C.L a ∨ C.H₀ a = none) ∧ ¬ Foot fp a, σ0⟩
noncomputable def blkEx (ex : Addr → Prop) (D : Addr) (fp fpb : Fp) (a : Addr) : Prop := ex a ∨ a = D ∨ (Foot fp a ∧ ¬ Foot fpb a)
section
variable {C : MC G} {io : List Nat} {H1 H' : Hp} {σ : St} {δ : DEnv} {fp : Fp} {ex : Addr → Prop} {own : List Str} {caps : List Nat} {D : Addr} {n : Nat}
theorem Owns.snoc {L : Addr → Prop} {xs : List V} {rs : List OT} {as bs : List Addr} {x : V} {r : OT} (h : Owns G H' L xs rs as) (k : Own G H' L x r bs) : Owns G H' L (xs ++ [x]) (rs ++ [r]) (as ++ bs) :=
  Owns.rec (motive_1 := fun _ _ _ _ => True) (motive_2 := fun xs rs as _ => Owns G H' L (xs ++ [x]) (rs ++ [r]) (as ++ bs)) (fun _ => trivial) (fun _ _ _ => trivial) (fun _ _ _ => trivial) (fun _ _ _ => trivial) (by have := Owns.cons k .nil; rwa [List.append_nil] at this) (fun k _ _ ih => by rw [List.append_assoc]; exact .cons k ih) h
end
structure BlkFin (C : MC G) (H1 : Hp) (fp1 : Fp) (ex : Addr → Prop) (n : Nat) (caps : List Nat) (σ0 : St) (D : Addr) (pb : Bool) (H' : Hp) (σ' : St) (δ' : DEnv) (fp' : Fp) (ys : List V) (rs : List OT) (new : List Addr) : Prop where
  keep : ∀ b o, H1 b = some o → (pb = true ∨ ¬ Foot (blkFp n caps fp1) b) → H' b = some o
  al : ∀ b, H' b = none → H1 b = none
  dat : H' D = some (.lst ys)
  rel : Rel (blkC C H1 fp1 σ0) (blkIo n caps) H' σ' δ' fp' (exu (blkEx ex D fp1 (blkFp n caps fp1)) new)
  grow : ∀ a, Foot fp' a → Foot (blkFp n caps fp1) a ∨ H1 a = none
  own : Owns G H' (fun a => true = true → Lf (blkC C H1 fp1 σ0) fp' (exu (blkEx ex D fp1 (blkFp n caps fp1)) new) a) ys rs new
  nd : new.Nodup
  fresh : ∀ a ∈ new, H1 a = none ∧ a ≠ D
section
variable {io : List Nat} {p c pt pe ci : Bool} {g : MGt} {mt : MTt} {me : MEt} {own : List Str} {caps : List Nat}
end
end L2
namespace L2
open PySem PySem.Spec PyProof.Rows
variable {G : PySem.W.Frag}
section
variable {X : Cx} {io : List Nat} {p p' c pt pe ci : Bool} {g : MGt} {mt : MTt} {me m : MEt} {mi : MIt} {own : List Str} {caps : List Nat} {e : Expr}
variable {N' : List Str} {sc : Scope} {tg elt iter : Expr} {ifs : List Expr} {pos : Pos}
section
variable {i : Nat} {y : Str} {py spos : Pos}
end
end
end L2
namespace L2
open PySem PySem.Spec PyProof.Rows
variable {G : PySem.W.Frag}
section
variable {X : Cx} {pins : List (Addr × Obj)} {σ : St} {H : Hp} {s : Shared} {l : Addr} {xs : List V}
end
noncomputable def asI (d : PyData) (k : Int → Prop) : Prop := match d with | .int i => k i | _ => False
section
variable {H : Hp} {L : Addr → Prop} {v : V} {d : PyData}
theorem Da.intInv {k : Int → Prop} (q : Da G H L v d) (h : asI d k) : ∃ i, v = .int i ∧ k i := by
  cases q with
  | int b => exact ⟨b, rfl, h⟩
  | _ => exact h.elim
end
noncomputable def d2I (C : Int → Int → Prop) (g : Int → Int → PyData) : PyData → PyData → (PyData → Prop) → Prop := fun d e k => asI d fun i => asI e fun j => C i j ∧ k (g i j)
noncomputable def d2I0 (g : Int → Int → PyData) : PyData → PyData → (PyData → Prop) → Prop := fun d e k => asI d fun i => asI e fun j => k (g i j)
theorem p2_int {C : Int → Int → Prop} {f : Int → Int → Int} : P2s G (rI C fun i j => .int (f i j)) (d2I C fun i j => .int (f i j)) := fun H L x y d e k Q hx hy h kk => by
  obtain ⟨i, rfl, h⟩ := hx.intInv h
  obtain ⟨j, rfl, h⟩ := hy.intInv h
  exact ⟨i, j, rfl, rfl, h.1, kk _ _ (.int _) h.2⟩
structure MulOk (i j : Int) : Prop where
  ok : IntMulOk i j
structure DvOk (i j : Int) : Prop where
  ok : DivOk i j
structure PwOk (i j : Int) : Prop where
  ok : CPow i j
theorem p2_mul {f : Int → Int → Int} : P2s G (rI IntMulOk fun i j => .int (f i j)) (d2I MulOk fun i j => .int (f i j)) := fun H L x y d e k Q hx hy h kk => by
  obtain ⟨i, rfl, h⟩ := hx.intInv h
  obtain ⟨j, rfl, h⟩ := hy.intInv h
  exact ⟨i, j, rfl, rfl, h.1.ok, kk _ _ (.int _) h.2⟩
theorem p2_div {f : Int → Int → Int} : P2s G (rI DivOk fun i j => .int (f i j)) (d2I DvOk fun i j => .int (f i j)) := fun H L x y d e k Q hx hy h kk => by
  obtain ⟨i, rfl, h⟩ := hx.intInv h
  obtain ⟨j, rfl, h⟩ := hy.intInv h
  exact ⟨i, j, rfl, rfl, h.1.ok, kk _ _ (.int _) h.2⟩
theorem p2_pow {f : Int → Int → Int} : P2s G (rI CPow fun i j => .int (f i j)) (d2I PwOk fun i j => .int (f i j)) := fun H L x y d e k Q hx hy h kk => by
  obtain ⟨i, rfl, h⟩ := hx.intInv h
  obtain ⟨j, rfl, h⟩ := hy.intInv h
  exact ⟨i, j, rfl, rfl, h.1.ok, kk _ _ (.int _) h.2⟩
theorem p2_int0 {f : Int → Int → Int} : P2s G (rI0 fun i j => .int (f i j)) (d2I0 fun i j => .int (f i j)) := fun H L x y d e k Q hx hy h kk => by
  obtain ⟨i, rfl, h⟩ := hx.intInv h
  obtain ⟨j, rfl, h⟩ := hy.intInv h
  exact ⟨i, j, rfl, rfl, kk _ _ (.int _) h⟩
theorem p2_cmp {f : Int → Int → Bool} : P2s G (rI0 fun i j => .bl (f i j)) (d2I0 fun i j => .bool (f i j)) := fun H L x y d e k Q hx hy h kk => by
  obtain ⟨i, rfl, h⟩ := hx.intInv h
  obtain ⟨j, rfl, h⟩ := hy.intInv h
  exact ⟨i, j, rfl, rfl, kk _ _ (.bl _) h⟩
section
variable {X : Cx}
noncomputable def rEqA (K : PySem.W.Frag) : R2 := fun x y H Q => ∃ (L L' : Addr → Prop) (d e : PyData), Da K H L x d ∧ Da K H L' y e ∧ Shp d ∧ Shp e ∧ Q (.bl (PyData.eqv d e)) H
noncomputable def rNeA (K : PySem.W.Frag) : R2 := fun x y H Q => ∃ (L L' : Addr → Prop) (d e : PyData), Da K H L x d ∧ Da K H L' y e ∧ Shp d ∧ Shp e ∧ Q (.bl (!PyData.eqv d e)) H
theorem op_eqA (hu : X.A.units + 64 < cLine) : OpR X (compareOp .Eq) (rEqA X.K) := by
  intro pins s σ H x y v u Q I rx ry h
  obtain ⟨L, L', d, e, h1, h2, s1, s2, q⟩ := h
  obtain ⟨as, k1⟩ := h1.reads rfl I rx (SeqAt.canLay_of_shaped s1)
  obtain ⟨bs, k2⟩ := h2.reads rfl I ry (SeqAt.canLay_of_shaped s2)
  exact eq_dataH k1 k2 s1 s2 hu ⟨.bl _, H, I, rfl, q⟩
theorem op_neA (hu : X.A.units + 64 < cLine) : OpR X (compareOp .NotEq) (rNeA X.K) := by
  intro pins s σ H x y v u Q I rx ry h
  obtain ⟨L, L', d, e, h1, h2, s1, s2, q⟩ := h
  obtain ⟨as, k1⟩ := h1.reads rfl I rx (SeqAt.canLay_of_shaped s1)
  obtain ⟨bs, k2⟩ := h2.reads rfl I ry (SeqAt.canLay_of_shaped s2)
  exact ne_dataH k1 k2 s1 s2 hu ⟨.bl _, H, I, rfl, q⟩
end
structure ShpD (d : PyData) : Prop where
  ok : Shp d
noncomputable def dEq : PyData → PyData → (PyData → Prop) → Prop := fun d e k => ShpD d ∧ ShpD e ∧ k (.bool (PyData.eqv d e))
noncomputable def dNe : PyData → PyData → (PyData → Prop) → Prop := fun d e k => ShpD d ∧ ShpD e ∧ k (.bool (!PyData.eqv d e))
theorem p2_eq : P2s G (rEqA G) dEq := fun H L x y d e k Q hx hy h kk => ⟨L, L, d, e, hx, hy, h.1.ok, h.2.1.ok, kk _ _ (.bl _) h.2.2⟩
theorem p2_ne : P2s G (rNeA G) dNe := fun H L x y d e k Q hx hy h kk => ⟨L, L, d, e, hx, hy, h.1.ok, h.2.1.ok, kk _ _ (.bl _) h.2.2⟩
noncomputable def isNoneD : PyData → Bool
  | .none => true
  | _ => false
noncomputable def ixD (d e : PyData) : Option PyData := match d, e with
  | .list ds, .int i => atI ds i
  | .tuple ds, .int i => atI ds i
  | _, _ => none
noncomputable def dIx : PyData → PyData → (OT → Prop) → Prop := fun d e k => match ixD d e with | some x => k (.fz x) | none => False
theorem Das.atI {H : Hp} {L : Addr → Prop} {xs : List V} {ds : List PyData} {i : Int} {d : PyData} (h : Das G H L xs ds) (e : L2.atI ds i = some d) : ∃ x, L2.atI xs i = some x ∧ Da G H L x d := by
  unfold L2.atI at *
  rw [h.length]
  cases q : ixN ds.length i with
  | none => rw [q] at e; cases e
  | some j =>
    rw [q] at e
    exact h.get e
theorem p2_ix : P2 G (rIx G) dIx := fun H L x y d e k Q hx hy h kk => by
  unfold dIx at h
  split at h
  case h_2 => exact h.elim
  rename_i z ez
  have fin : ∀ v, Da G H L v z → Q v H := fun v q => kk H v (.fz z) [] (Same.refl _) (.fz (q.wide fun a l _ => ⟨.inl l, fun m => nomatch m⟩)) .nil (fun a m => nomatch m) h
  cases hx with
  | lst l e1 r =>
    cases hy with
    | int i =>
      obtain ⟨v, e2, q⟩ := r.atI (show L2.atI _ i = some z from ez)
      exact .inl ⟨_, _, i, v, rfl, rfl, .inl e1, e2, fin v q⟩
    | _ => cases ez
  | tup e1 r =>
    cases hy with
    | int i =>
      obtain ⟨v, e2, q⟩ := r.atI (show L2.atI _ i = some z from ez)
      exact .inr (.inl ⟨_, _, i, v, rfl, rfl, .inl (.inl e1), e2, fin v q⟩)
    | _ => cases ez
  | scr ks =>
    cases hy with
    | int i =>
      obtain ⟨v, e2, q⟩ := (Das.ints (G := G) (H := H) (L := L) _).atI (show L2.atI _ i = some z from ez)
      exact .inl ⟨_, _, i, v, rfl, rfl, ks.sq, e2, fin v q⟩
    | _ => cases ez
  | _ => cases ez
theorem Own.list {H : Hp} {L : Addr → Prop} {p : Addr} {xs : List V} {ds : List PyData} (hp : H p = none) (h : Das G H L xs ds) : Own G (upd H p (.lst xs)) (fun a => (L a ∨ H a = none) ∧ a ∉ [p]) (.ref p) (.nd (ds.map OT.fz)) [p] :=
  .nd upd_same (((h.wide fun a l q => ⟨.inl l, fun m => q (by rw [List.mem_singleton.mp m]; exact hp)⟩).same (same_new hp _)).owns)
theorem one_new {H : Hp} {p : Addr} (hp : H p = none) : ∀ a ∈ [p], H a = none := fun a m => by rw [List.mem_singleton.mp m]; exact hp
theorem one_nd (p : Addr) : [p].Nodup := List.nodup_cons.mpr ⟨fun m => (nomatch m), .nil⟩
noncomputable def n1 (k : PyData → Prop) (ds : List PyData) : Prop := match ds with | [d] => k d | _ => False
noncomputable def n2 (k : PyData → PyData → Prop) (ds : List PyData) : Prop := match ds with | [d, e] => k d e | _ => False
theorem Das.one {H : Hp} {L : Addr → Prop} {vs : List V} {ds : List PyData} {k : PyData → Prop} (q : Das G H L vs ds) (h : n1 k ds) : ∃ v d, vs = [v] ∧ ds = [d] ∧ Da G H L v d ∧ k d := by
  cases q with
  | nil => exact h.elim
  | cons q r =>
    cases r with
    | nil => exact ⟨_, _, rfl, rfl, q, h⟩
    | cons _ _ => exact h.elim
theorem Das.two {H : Hp} {L : Addr → Prop} {vs : List V} {ds : List PyData} {k : PyData → PyData → Prop} (q : Das G H L vs ds) (h : n2 k ds) : ∃ v u d e, vs = [v, u] ∧ ds = [d, e] ∧ Da G H L v d ∧ Da G H L u e ∧ k d e := by
  cases q with
  | nil => exact h.elim
  | cons q r =>
    cases r with
    | nil => exact h.elim
    | cons q' r' =>
      cases r' with
      | nil => exact ⟨_, _, _, _, rfl, rfl, q, q', h⟩
      | cons _ _ => exact h.elim
noncomputable def lenD : PyData → Option Nat
  | .list ds => some ds.length
  | .tuple ds => some ds.length
  | _ => none
noncomputable def dLen : List PyData → (PyData → Prop) → Prop := fun ds k => n1 (fun d => match lenD d with | some n => k (.int n) | none => False) ds
theorem pn_len : PNs G (rLen G) dLen := fun H L xs ds k Q hx h kk => by
  obtain ⟨v, d, rfl, rfl, q, h⟩ := hx.one h
  cases q with
  | lst l e r => exact ⟨_, _, rfl, .inl (.inl e), by rw [r.length]; exact kk _ _ (.int _) h⟩
  | tup e r => exact ⟨_, _, rfl, .inr (.inl (.inl e)), by rw [r.length]; exact kk _ _ (.int _) h⟩
  | scr ks => exact ⟨_, _, rfl, .inl ks.sq, by rw [(Das.ints (G := G) (H := H) (L := L) _).length]; exact kk _ _ (.int _) h⟩
  | _ => exact h.elim
noncomputable def dAbs : List PyData → (PyData → Prop) → Prop := fun ds k => n1 (fun d => asI d fun i => k (.int (if i < 0 then -i else i))) ds
theorem pn_abs : PNs G (fun xs H Q => ∃ i, xs = [.int i] ∧ Q (.int (if i < 0 then -i else i)) H) dAbs := fun H L xs ds k Q hx h kk => by
  obtain ⟨v, d, rfl, rfl, q, h⟩ := hx.one h
  obtain ⟨i, rfl, h⟩ := q.intInv h
  exact ⟨i, rfl, kk _ _ (.int _) h⟩
noncomputable def dMax : List PyData → (PyData → Prop) → Prop := fun ds k => n2 (fun d e => asI d fun i => asI e fun j => k (.int (if j > i then j else i))) ds
theorem pn_max2 : PNs G (fun xs H Q => ∃ i j, xs = [.int i, .int j] ∧ Q (.int (if j > i then j else i)) H) dMax := fun H L xs ds k Q hx h kk => by
  obtain ⟨v, u, d, e, rfl, rfl, q, q', h⟩ := hx.two h
  obtain ⟨i, rfl, h⟩ := q.intInv h
  obtain ⟨j, rfl, h⟩ := q'.intInv h
  exact ⟨i, j, rfl, kk _ _ (.int _) h⟩
noncomputable def dMin : List PyData → (PyData → Prop) → Prop := fun ds k => n2 (fun d e => asI d fun i => asI e fun j => k (.int (if j < i then j else i))) ds
theorem pn_min2 : PNs G (fun xs H Q => ∃ i j, xs = [.int i, .int j] ∧ Q (.int (if j < i then j else i)) H) dMin := fun H L xs ds k Q hx h kk => by
  obtain ⟨v, u, d, e, rfl, rfl, q, q', h⟩ := hx.two h
  obtain ⟨i, rfl, h⟩ := q.intInv h
  obtain ⟨j, rfl, h⟩ := q'.intInv h
  exact ⟨i, j, rfl, kk _ _ (.int _) h⟩
noncomputable def dInt : List PyData → (PyData → Prop) → Prop := fun ds k => n1 (fun d => match d with | .int i => k (.int i) | .bool b => k (.int (if b then 1 else 0)) | _ => False) ds
theorem pn_int : PNs G (fun xs H Q => (∃ i, xs = [.int i] ∧ Q (.int i) H) ∨ ∃ k, xs = [.bl k] ∧ Q (.int (if k then 1 else 0)) H) dInt := fun H L xs ds k Q hx h kk => by
  obtain ⟨v, d, rfl, rfl, q, h⟩ := hx.one h
  cases q with
  | int i => exact .inl ⟨i, rfl, kk _ _ (.int _) h⟩
  | bl b => exact .inr ⟨b, rfl, kk _ _ (.int _) h⟩
  | _ => exact h.elim
noncomputable def itemsD : PyData → Option (List PyData)
  | .list ds => some ds
  | .tuple ds => some ds
  | _ => none
section
variable {X : Cx} {io : List Nat} {p c : Bool} {a : Expr} {ma : MEt} {pos : Pos}
noncomputable def mNeg (m : MEt) : MEt := fun δ K => m δ fun r δ' => asI r.data fun i => K (.fz (.int (-i))) δ'
theorem m_neg (ha : ME X io p c a ma) : ME X io p true (.UnaryOp .USub a pos) (mNeg ma) := by
  obtain ⟨_, A, s⟩ := ha
  exact ⟨_, pe_un un_neg A, fun C H σ δ fp ex K Q R h k => s C H σ δ fp ex _ _ R h fun H' v r δ' fp' new r1 h1 => by
    obtain ⟨i, rfl, h1⟩ := (r1.da R).intInv h1
    exact ⟨i, rfl, k H' _ _ δ' fp' [] (.fz r1.base r1.stp (.int _)) h1⟩⟩
noncomputable def isTy (T : String) : PyData → Bool
  | .none => false
  | .bool _ => T == "bool" || T == "int"
  | .int _ => T == "int"
  | .str _ => T == "str"
  | .list _ => T == "list"
  | .tuple _ => T == "tuple"
  | .dict _ => false
noncomputable def mIsi (T : String) (m : MEt) : MEt := fun δ K => m δ fun r δ' => isFnD r.data = false ∧ K (.fz (.bool (isTy T r.data))) δ'
end
end L2
namespace L2
open PySem PySem.Spec PyProof.Rows
section
variable {prog : Program} {w : World} {A : Around} {E : Value → Shared → Prop} {h : Heap} {g : Array GenState} {d : Drawn} {t : Nat} {os : OsState} {a C : Addr} {o : Obj} {K : PySem.W.Frag}
theorem xcls_ty (M : Model) (hx : h.get? a = some o) (hc : o.cls = .ref C) : PySem.W.Looks M h (typeOf (.ref a)) (.ref C) := hc ▸ (PySem.W.Looks.ld hx).andThen .now
theorem xcls_get {R : Result → Shared → Prop} (X : K.In h) (Z : ExCls K C) (hx : h.get? a = some o) (hc : o.cls = .ref C) (hq : R (.ok (.ret (.ref C))) ⟨h, g, d, t, os⟩) :
    codeAny (model prog w) A (.call (.builtin "getset_descriptor.__get__") ⟨[.builtin "object.__class__", .ref a, .ref C], []⟩) R ⟨h, g, d, t, os⟩ := by
  have L1 : PySem.W.Looks (model prog w) h (isSubtype (.ref C) (.type (".".intercalate ("object.__class__".cutAt '.').dropLast))) true := by
    rw [F.owner_object_class]
    exact PySem.W.looks_subIn X Z.isO
  have T5 : (⟨h, g, d, t, os⟩ : Shared).TypeIs (.builtin "object.__class__") "getset_descriptor" := F.typeOf_object_class
  refine codeAny_call_builtin F.slot_gs_get.plain F.entry_gs_get (F.slot_gs_get.check _ _ _ _ _ _ _ _ T5 (F.args_gs_get _ _ _) ?_)
  repeat (any_goals (first | assumption | (with_reducible refine wpAny_loadPart_at hx ?_; rw [hc]) | (with_reducible refine wpAny_bind (PySem.W.Looks.at L1 ?_)) | (with_reducible refine PySem.W.Looks.at L1 ?_) | wp_step))
  refine ⟨Code.quiet_builtin _ (by decide +kernel), codeAny_builtin F.entry_object_class ?_⟩
  repeat (any_goals (first | assumption | (with_reducible refine wpAny_loadPart_at hx ?_; rw [hc]) | wp_step))
theorem xcls_entry {tk : Tok} {Q : Fin → Shared → Prop} (X : K.In h) (Z : ExCls K C) (hx : h.get? a = some o) (hc : o.cls = .ref C) (hq : Q (.done (.ret (.ref C))) ⟨h, g, d, t, os⟩) :
    wpAny (model prog w) A (Builtin.«object.__getattribute__» ⟨[.ref a, .str "__class__" tk], []⟩) Q E ⟨h, g, d, t, os⟩ := by
  have T5 : (⟨h, g, d, t, os⟩ : Shared).TypeIs (.builtin "object.__class__") "getset_descriptor" := F.typeOf_object_class
  have g5 := F.typeOf_object_class
  have g6 := F.slot_gs_get.lookup
  have g7 := F.slot_gs_set.lookup
  have L4 := PySem.W.looks_findIn (M := model prog w) X Z.cl
  repeat (any_goals (first | assumption | (with_reducible refine wpAny_loadPart_at hx ?_; rw [hc]) | (with_reducible refine wpAny_bind (PySem.W.Looks.at L4 ?_)) | (with_reducible refine PySem.W.Looks.at L4 ?_) | wp_step))
  refine xcls_get X Z hx hc ?_
  repeat (any_goals (first | assumption | wp_step))
theorem xcls_check {M : Model} {nameV : Value} {Q : Unit → Shared → Prop} (X : K.In h) (Z : ExCls K C) (hx : h.get? a = some o) (hc : o.cls = .ref C) (hq : Q () ⟨h, g, d, t, os⟩) :
    wpAny M A (checkBuiltinCall "BaseException.__getattribute__" ⟨[.ref a, nameV], []⟩) Q E ⟨h, g, d, t, os⟩ := by
  have e1 : builtinKind "BaseException.__getattribute__" = some .slot := by decide +kernel
  have e2 : splitId "BaseException.__getattribute__" = some ("BaseException", "__getattribute__") := by decide +kernel
  have L1 := PySem.W.looks_subIn (M := M) X Z.isB
  have e3 := F.args_bexc_ga (.ref a) nameV
  simp only [checkBuiltinCall, e1, e2]
  refine wpAny_bind ?_
  unfold isInstance
  repeat (first | (with_reducible refine wpAny_loadPart_at hx ?_; rw [hc]) | (with_reducible refine wpAny_bind (PySem.W.Looks.at L1 ?_)) | (with_reducible refine PySem.W.Looks.at L1 ?_) | wp_step)
  exact hq
theorem xcls_call {tk : Tok} {R : Result → Shared → Prop} (X : K.In h) (Z : ExCls K C) (hx : h.get? a = some o) (hc : o.cls = .ref C) (hq : R (.ok (.ret (.ref C))) ⟨h, g, d, t, os⟩) :
    codeAny (model prog w) A (.call (.builtin "BaseException.__getattribute__") ⟨[.ref a, .str "__class__" tk], []⟩) R ⟨h, g, d, t, os⟩ :=
  codeAny_call_builtin F.excAttr_ValueError.ga.plain F.entry_bexc_ga (xcls_check X Z hx hc (xcls_entry X Z hx hc hq))
theorem xcls_by {tk : Tok} {fill expr : Bool} {Q : Value → Shared → Prop} (X : K.In h) (Z : ExCls K C) (hx : h.get? a = some o) (hc : o.cls = .ref C) (hq : Q (.ref C) ⟨h, g, d, t, os⟩) :
    wpAny (model prog w) A (getAttrBy (.ref a) (.str "__class__" tk) fill expr) Q E ⟨h, g, d, t, os⟩ := by
  have f3 := F.excAttr_ValueError.ga.bind (.ref a)
  have y0 : (expr && onTheHeap (Value.builtin "BaseException.__getattribute__")) = false := by cases expr <;> rfl
  have y2 : (Value.builtin "BaseException.__getattribute__" == Value.builtin "object.__getattribute__") = false := by decide +kernel
  have y1 : (onTheHeap (Value.ref C) && Value.builtin "BaseException.__getattribute__" == Value.builtin "object.__getattribute__") = false := by rw [y2]; rfl
  have L2 := PySem.W.looks_findIn (M := model prog w) X Z.ga
  have L3 := PySem.W.looks_findIn (M := model prog w) X Z.gt
  repeat (any_goals (first | assumption | (with_reducible refine wpAny_loadPart_at hx ?_; rw [hc]) | (with_reducible refine PySem.W.Looks.at L2 ?_) | (with_reducible refine PySem.W.Looks.at L3 ?_) | (with_reducible refine wpAny_bind (PySem.W.Looks.at L2 ?_)) | (with_reducible refine wpAny_bind (PySem.W.Looks.at L3 ?_)) | wp_step))
  refine xcls_call X Z hx hc ?_
  repeat (any_goals (first | assumption | wp_step))
theorem xcls_attr {Q : Option Value → Shared → Prop} (X : K.In h) (Z : ExCls K C) (hx : h.get? a = some o) (hc : o.cls = .ref C) (hq : Q (some (.ref C)) ⟨h, g, d, t + 1, os⟩) :
    wpAny (model prog w) A (getAttr? (.ref a) "__class__") Q E ⟨h, g, d, t, os⟩ := by
  unfold getAttr? getAttrBy?
  repeat (any_goals (first | assumption | with_reducible apply xcls_by X Z hx hc | wp_step))
end
theorem kitx_exc {K : PySem.W.Frag} {a C : Addr} (Z : ExCls K C) : PySem.W.KitX K (.ref a) (.ref C) (fun h => ∃ o, h.get? a = some o ∧ o.cls = .ref C) where
  ty := fun M h _ p => let ⟨_, hx, hc⟩ := p; xcls_ty M hx hc
  it := fun M h X _ => by
    have z := Z.isC
    unfold PySem.W.clsIn at z
    split at z
    · rename_i ho
      intro A' Q' E' s' k q
      unfold isType loadHead
      exact wpAny_bind (wpAny_loadPart (k _ _ (X _ _ ho)) (wpAny_pure q))
    · cases z
  ne := fun h tp dd its n sl X htp => by
    have z := Z.isC
    refine Bool.eq_false_iff.mpr fun q => ?_
    have e : C = tp := Value.ref.inj (beq_iff_eq.mp q)
    subst e
    unfold PySem.W.clsIn at z
    split at z
    · rename_i ho
      have z := (X _ _ ho).symm.trans htp
      cases z
    · cases z
  ca := fun {_ _ _ _ _ s} X p k => by
    obtain ⟨h, g, d, t, os⟩ := s
    obtain ⟨_, hx, hc⟩ := p
    exact xcls_attr X Z hx hc k
end L2
namespace L2
open PySem PySem.Spec PyProof.Rows
variable {G : PySem.W.Frag}
noncomputable def tyD : PyData → String
  | .none => "NoneType"
  | .bool _ => "bool"
  | .int _ => "int"
  | .str _ => "str"
  | .list _ => "list"
  | .tuple _ => "tuple"
  | .dict _ => "dict"
theorem kitT {K : PySem.W.Frag} {T : String} {d : PyData} (h : T = "int" ∨ T = "bool" ∨ T = "str" ∨ T = "list" ∨ T = "tuple") (hd : ∀ kvs, d ≠ .dict kvs) : PySem.W.kitOne K (.type (tyD d)) (.type T) = some (isTy T d) := by
  rcases h with rfl | rfl | rfl | rfl | rfl <;> cases d <;> first | rfl | (exact absurd rfl (hd _)) | (unfold PySem.W.kitOne PySem.W.kitCls; rfl) | (simp only [tyD, isTy]; decide +kernel)
noncomputable def rIsiD (G : PySem.W.Frag) : List V → Hp → VK → Prop := fun xs H Q => ∃ (x : V) (T : String) (L : Addr → Prop) (d : PyData), xs = [x, .ty T] ∧ Da G H L x d ∧ isFnD d = false ∧ (T = "int" ∨ T = "bool" ∨ T = "str" ∨ T = "list" ∨ T = "tuple") ∧ Q (.bl (isTy T d)) H
theorem call_isiD {X : Cx} (hK : X.K = G) : CallR X (.builtin "isinstance") (rIsiD G) := by
  subst hK
  intro pins s σ H xs us Q I r h
  obtain ⟨x, T, L, d, rfl, q, hf, hT, h⟩ := h
  obtain ⟨u, w', rfl, r1, r2⟩ := vals2 r
  cases (show w' = Value.type T from r2)
  have fin : ∀ tk : Nat, EP X pins σ Q (.bool (isTy T d)) { s with toks := tk } := fun tk => ⟨.bl _, H, I.tok tk, rfl, h⟩
  cases q with
  | non => exact isinst_ok I r1 .non (kitT (d := .none) hT fun _ z => by cases z) fin
  | bl b => exact isinst_ok I r1 (.bl b) (kitT (d := .bool b) hT fun _ z => by cases z) fin
  | int b => exact isinst_ok I r1 (.int b) (kitT (d := .int b) hT fun _ z => by cases z) fin
  | str b => exact isinst_ok I r1 (.str b) (kitT (d := .str b) hT fun _ z => by cases z) fin
  | lst l e qs =>
    rename_i ds
    rcases e with e | ⟨o, e⟩
    · exact isinst_ok I r1 (.lst e) (kitT (d := .list ds) hT fun _ z => by cases z) fin
    · exact isinst_ok I r1 (.frz e) (kitT (d := .list ds) hT fun _ z => by cases z) fin
  | tup e qs =>
    rename_i ds
    exact isinst_ok I r1 (.tup e) (kitT (d := .tuple ds) hT fun _ z => by cases z) fin
  | scr ks =>
    rename_i a ns
    cases (show u = Value.ref a from r1)
    obtain ⟨its, vs, ⟨o, n, ho, hc, hd, hs⟩, _⟩ := I.list (ks.sq (H := H))
    exact PySem.W.kia_one PySem.W.kitx_list I.kIn ⟨o, ho, hc⟩ (kitT (d := .list (ns.map PyData.int)) hT fun _ z => by cases z) (fun z => nomatch z) fin
  | exc Z hn e =>
    rename_i a C x
    cases (show u = Value.ref a from r1)
    obtain ⟨⟨o, vs, ho, hc, _⟩, _, _⟩ := (show ObjOk X.prog X.w H s.heap a (.ext (ExO C a)) from I.hok a _ e)
    refine PySem.W.kia_one (kitx_exc Z) I.kIn ⟨o, ho, hc⟩ (b := isTy T (exD x)) ?_ (fun z => nomatch z) fin
    rcases hT with rfl | rfl | rfl | rfl | rfl
    · exact Z.k1
    · exact Z.k2
    · exact Z.k3
    · exact Z.k4
    · exact Z.k5
  | fn _ => cases hf
  | dic _ _ _ _ => unfold dcD isFnD at hf; cases hf
section
variable {X : Cx} {io : List Nat} {p c p' c' : Bool} {a b e : Expr} {ma m : MEt} {pos pp p2 : Pos} {K : PySem.W.Frag}
theorem m_isi {T : Str} {T' : String} (hT : T' = "int" ∨ T' = "bool" ∨ T' = "str" ∨ T' = "list" ∨ T' = "tuple") (hg : Gl X "isinstance") (hm : X.mg "isinstance" = none) (hv : bootBuiltins "isinstance" = some (.builtin "isinstance"))
    (hg2 : Gl X T) (hm2 : X.mg T = none) (hv2 : bootBuiltins T = some (.type T')) (ha : ME X io p c a ma) (hn : T ≠ "__name__" := by decide) (hd : (T == ("__debug__" : Str)) = false := by decide)
    (he : starEach [a, .Name T p2] X.env = (false, eval a X.env) :: starEach [.Name T p2] X.env := by rfl) (he2 : starEach [.Name T p2] X.env = (false, eval (.Name T p2) X.env) :: starEach [] X.env := by rfl) (hpl : (backTo pos (starEach [.Name T p2] X.env)).any (·.1) = false := by rfl) :
    ME X io p true (.Call (.Name "isinstance" pp) [a, .Name T p2] [] pos) (mIsi T' ma) := by
  obtain ⟨_, A, s⟩ := ha
  refine ⟨_, pe_callB (call_isiD rfl) hg hm hv (pa_cons A (pa_cons (pe_bltn (v := .ty T') hg2 hm2 hv2 rfl hn hd) pa_nil he2) he) (by decide) (by decide) he hpl, ?_⟩
  intro C H σ δ fp ex K' Q R h k
  refine s C H σ δ fp ex _ _ R h fun H' v r δ' fp' new r1 h1 => ?_
  exact ⟨v, T', _, _, rfl, r1.da R, h1.1, hT, k H' _ _ δ' fp' [] (.fz r1.base r1.stp (.bl _)) h1.2⟩
noncomputable abbrev MOt := DEnv → (Option Int → DEnv → Prop) → Prop
noncomputable def cutD (ds : List PyData) (lo hi : Option Int) : List PyData := (ds.drop (HT.sIx ds.length 0 lo)).take (HT.sIx ds.length ds.length hi - HT.sIx ds.length 0 lo)
theorem Owns.set {H : Hp} {L : Addr → Prop} {x : V} {r : OT} (hr : Own G H L x r []) : ∀ {xs : List V} {ts : List OT} {as : List Addr} (j : Nat), Owns G H L xs ts as → ∃ bs, Owns G H L (xs.set j x) (ts.set j r) bs ∧ bs.Sublist as
  | _, _, _, _, .nil => ⟨[], .nil, .refl _⟩
  | _, _, _, 0, .cons k t => ⟨_, .cons hr t, by simp⟩
  | _, _, _, j + 1, .cons (as := as) k t => by
    obtain ⟨bs, o, s⟩ := Owns.set hr j t
    exact ⟨as ++ bs, .cons k o, List.Sublist.append_left s as⟩
theorem Rel.top {C : MC G} {H : Hp} {σ : St} {δ : DEnv} {fp : Fp} {ex : Addr → Prop} {i : Nat} {ts ts' : List OT} {a' : Addr} {xs ys : List V} {bs bs' : List Addr} (R : Rel C io H σ δ fp ex) (hi : δ[i]? = some (some (.nd ts))) (hv : σ[i]? = some (some (.ref a')))
    (hf : fp i = a' :: bs) (hx : H a' = some (.lst xs)) (o : Owns G H (Lf C fp ex) ys ts' bs') (hs : bs'.Sublist bs) :
    Rel C io (upd H a' (.lst ys)) σ (δ.set i (some (.nd ts'))) (fpu fp i (a' :: bs')) ex ∧ Stp false H δ fp (upd H a' (.lst ys)) (δ.set i (some (.nd ts'))) (fpu fp i (a' :: bs')) := by
  have nd := R.nd i
  rw [hf] at nd
  have hn := List.nodup_cons.mp nd
  have hm : a' ∈ fp i := by rw [hf]; exact .head _
  have ne' : ∀ a, ¬ Foot fp a → a ≠ a' := fun a h z => h ⟨i, by rw [z]; exact hm⟩
  have kp : ∀ b o, H b = some o → b ≠ a' → upd H a' (.lst ys) b = some o := fun b o e n => by rw [upd_ne n]; exact e
  have sub : ∀ a, a ∈ a' :: bs' → a ∈ fp i := fun a m => by
    rw [hf]
    rcases List.mem_cons.mp m with rfl | m
    · exact .head _
    · exact .tail _ (hs.subset m)
  have o' : Owns G (upd H a' (.lst ys)) (Lf C (fpu fp i (a' :: bs')) (exu ex [])) ys ts' bs' := by
    have f0 : ∀ a, ¬ Foot fp a → ¬ Foot (fpu fp i (a' :: bs')) a := fun a h z => by
      rcases z.of_u with z | ⟨j, _, z⟩
      · exact h ⟨i, sub a z⟩
      · exact h ⟨j, z⟩
    have f1 : ∀ a (zs : MuO), Lf C fp ex a → Rd H a zs.ho → Lf C (fpu fp i (a' :: bs')) (exu ex []) a ∧ Rd (upd H a' (.lst ys)) a zs.ho := fun a zs l q => by
      refine ⟨⟨f0 a l.1, fun z => l.2.1 (exu_nil.mp z), l.2.2⟩, ?_⟩
      rcases q with q | ⟨u, q⟩
      · exact .inl (kp a _ q (ne' a l.1))
      · exact .inr ⟨u, kp a _ q (ne' a l.1)⟩
    have f2 : ∀ a (zs : ImO), H a = some zs.ho → upd H a' (.lst ys) a = some zs.ho := fun a zs q => kp a _ q fun z => ImO.nl q (z ▸ hx)
    exact o.frame f1 f2 fun a m zs q => kp a _ q fun z => hn.1 (hs.subset (z ▸ m))
  have key := R.change (new := []) (as' := a' :: bs') (t' := .nd ts') (H' := upd H a' (.lst ys)) hi hv (fun b o e nb => kp b o e fun z => nb (by rw [z]; exact hm)) (fun b e => by
      by_cases q : b = a'
      · subst q; rw [upd_same] at e; cases e
      · rwa [upd_ne q] at e) (.nd upd_same o') (List.nodup_cons.mpr ⟨fun m => hn.1 (hs.subset m), hn.2.sublist hs⟩) (fun a m => .inl (sub a m)) (fun a m => nomatch m)
  exact ⟨key.1.drop fun a z => .inl z, key.2⟩
end
end L2
namespace L2
open PySem PySem.Spec PyProof.Rows
variable {G : PySem.W.Frag}
section
variable {X : Cx} {io : List Nat} {p c p' c' : Bool} {a b e : Expr} {ma m mi mj : MEt} {pos pp p2 apos cpos px : Pos} {K : PySem.W.Frag} {i : Nat} {x : Str}
theorem Rel.ownNd {C : MC G} {H : Hp} {σ : St} {δ : DEnv} {fp : Fp} {ex : Addr → Prop} {ts : List OT} (R : Rel C io H σ δ fp ex) (hi : δ[i]? = some (some (.nd ts))) :
    ∃ a' xs bs, σ[i]? = some (some (.ref a')) ∧ H a' = some (.lst xs) ∧ Owns G H (Lf C fp ex) xs ts bs ∧ fp i = a' :: bs := by
  obtain ⟨v, e, o⟩ := R.own i _ hi
  generalize hf : fp i = as at o
  cases o with
  | nd h r => exact ⟨_, _, _, e, h, r, rfl⟩
noncomputable def mAppend (i : Nat) (m : MEt) : MSt := fun D δ => match δ[i]? with
  | some (some (.nd _)) => m δ fun r δ1 => match δ1[i]? with
    | some (some (.nd ts)) => ts.length < sizeLine ∧ D.nx (δ1.set i (some (.nd (ts ++ [.fz r.data]))))
    | _ => False
  | _ => False
theorem ms_append (i : Nat) (he : ME X io p true e m) (hN : X.N[i]? = some x := by rfl) (hv : Vis X.env.scope x := by first | exact Or.inl rfl | exact Or.inr (Or.inl rfl) | exact Or.inr (Or.inr rfl)) (hd : (x == ("__debug__" : Str)) = false := by decide)
    (hcd : (x == ("__classdict__" : Str)) = false := by decide)
    (hbase : attributeBase (.Name x px) "append" X.env (eval (.Name x px) X.env) = eval (.Name x px) X.env := by rfl)
    (hfew : ((backTo cpos (starEach [e] X.env)).all (fun x => !x.1) && (backToKw cpos (keywordEach [] X.env)).all (fun x => x.1.isSome)
      && decide ([e].length + ([] : List Keyword).length + (if ([] : List Keyword).isEmpty then 0 else 1) < 30)) = true := by rfl)
    (hline : (apos.endLine == cpos.line) = true := by rfl) (hs : starEach [e] X.env = (false, eval e X.env) :: starEach [] X.env := by rfl) (hplain : (backTo cpos (starEach [] X.env)).any (·.1) = false := by rfl)
    (hsw : swapsWith (.Call (.Attribute (.Name x px) "append" apos) [e] [] cpos) none pos.line X.env = pure false := by rfl) :
    MS X io (.Expr (.Call (.Attribute (.Name x px) "append" apos) [e] [] cpos) pos) (mAppend i m) := by
  obtain ⟨_, A, s⟩ := he
  refine ⟨_, ps_expr (pe_bm PySem.F.plainAttrs_list PySem.F.slot_list_append PySem.F.type_list_append mt_append (pv i hN hv hd hcd) (pa_cons A pa_nil hs) hbase hfew hline hs hplain) hsw, fun C H σ δ fp ex D D' R h E => ?_⟩
  unfold mAppend at h
  split at h
  case h_2 => exact h.elim
  rename_i ts0 hi0
  obtain ⟨a', xs0, bs0, hv0, hx0, _, _⟩ := R.ownNd hi0
  refine ⟨_, hv0, .inl ⟨rfl, xs0, .inl (.inl hx0)⟩, ?_⟩
  refine s C H σ δ fp ex _ _ R h fun H1 v r δ1 fp1 new r1 h1 => ?_
  split at h1
  case h_2 => exact h1.elim
  rename_i ts1 hi1
  have R1 := r1.base
  obtain ⟨a1, xs1, bs1, hv1, hx1, o1, hf1⟩ := R1.ownNd hi1
  rw [hv0] at hv1
  cases hv1
  have q := (r1.da R).wide (L' := Lf C fp1 ex) fun a l _ => l rfl
  refine ⟨a', xs1, v, rfl, rfl, hx1, by rw [o1.length]; exact h1.1, ?_⟩
  have o2 := o1.snoc (.fz q)
  obtain ⟨R2, S2⟩ := R1.top hi1 hv0 hf1 hx1 o2 (by simp)
  exact E.nx _ σ _ _ R2 (r1.stp.kp.trans S2.kp) h1.2
noncomputable def mPut (i : Nat) (m mi : MEt) : MSt := fun D δ => m δ fun r δ1 => match δ1[i]? with
  | some (some (.nd ts)) => mi δ1 fun n _ => asI n.data fun k => match ixN ts.length k with
    | some j => D.nx (δ1.set i (some (.nd (ts.set j (.fz r.data)))))
    | none => False
  | _ => False
theorem SE.pureAfter {t : TE} {C : MC G} {H : Hp} {σ : St} {δ : DEnv} {fp : Fp} {ex : Addr → Prop} {K' : OT → DEnv → Prop} {Q : VK} (s : SE G io true c t m) (R : Rel C io H σ δ fp ex) (h : m δ K') (k : ∀ H' v r, Rel C io H' σ δ fp ex → Same H H' → Da G H' (fun a => c = true → Lf C fp ex a) v r.data → K' r δ → Q v H') : t σ H Q :=
  s C H σ δ fp ex _ _ R h fun H1 v r δ1 fp1 new r1 h1 => by
    obtain ⟨e1, e2⟩ := r1.stp.env rfl
    have q := r1.da R
    have R1 := r1.base
    rw [e1] at R1 h1
    rw [e2] at R1 q
    exact k H1 v r R1 (fun b o e => r1.stp.keep b o e (.inl rfl)) q h1
theorem ms_put (i : Nat) (he : ME X io p true e m) (hj : ME X io true c a mi) (hN : X.N[i]? = some x := by rfl) (hv : Vis X.env.scope x := by first | exact Or.inl rfl | exact Or.inr (Or.inl rfl) | exact Or.inr (Or.inr rfl)) (hd : (x == ("__debug__" : Str)) = false := by decide)
    (hcd : (x == ("__classdict__" : Str)) = false := by decide)
    (hpg : ∀ {to ti : TE}, PE X (.Name x px) to → PE X a ti → PG X (.Subscript (.Name x px) a pp) (gSub to ti rSetL) := by intro _ _ A B; exact pg_sub A B set_list)
    (hs : swapsWithSole [.Subscript (.Name x px) a pp] e pos.line X.env = pure false := by rfl) (hw : swappedStores [.Subscript (.Name x px) a pp] e X.env = pure none := by rfl)
    (h1 : (assignEach [.Subscript (.Name x px) a pp] X.env).map (·.2) = [assign (.Subscript (.Name x px) a pp) X.env] := by rfl) : MS X io (.Assign [.Subscript (.Name x px) a pp] e pos) (mPut i m mi) := by
  obtain ⟨_, A, s⟩ := he
  obtain ⟨_, B, sj⟩ := hj
  refine ⟨_, ps_asg A (hpg (pv i hN hv hd hcd) B) hs hw h1, fun C H σ δ fp ex D D' R h E => ?_⟩
  refine s C H σ δ fp ex _ _ R h fun H1 v r δ1 fp1 new r1 h1 => ?_
  have R1 := r1.base
  have q := (r1.da R).wide (L' := Lf C fp1 ex) fun a l _ => l rfl
  split at h1
  case h_2 => exact h1.elim
  rename_i ts hi
  obtain ⟨a', _, _, hv0, _⟩ := R1.ownNd hi
  refine ⟨_, hv0, ?_⟩
  refine sj.pureAfter R1 h1 fun H2 w n R2 s2 q2 h2 => ?_
  obtain ⟨k, rfl, h2⟩ := q2.intInv h2
  split at h2
  case h_2 => exact h2.elim
  rename_i j hj
  obtain ⟨a2, xs, bs, hv2, hx, o, hf⟩ := R2.ownNd hi
  rw [hv0] at hv2
  cases hv2
  obtain ⟨bs', o', hs'⟩ := Owns.set (.fz (q.same s2)) j o
  refine ⟨a', xs, k, j, rfl, rfl, hx, by rw [o.length]; exact hj, ?_⟩
  obtain ⟨R3, S3⟩ := R2.top hi hv0 hf hx o' hs'
  exact E.nx _ σ _ _ R3 (r1.stp.kp.trans (Kp.trans ⟨fun b o e _ => s2 _ _ e, fun z => (nomatch z), fun a z => .inl z, s2.al⟩ S3.kp)) h2
end
end L2
namespace L2
open PySem PySem.Spec PyProof.Rows
variable {G : PySem.W.Frag}
mutual
noncomputable def flatT : OT → Bool
  | .fz d => flatD d
  | .nd ts => flatTs ts
  | .tp ts => flatTs ts
  | .dc _ _ _ => false
noncomputable def flatTs : List OT → Bool
  | [] => true
  | t :: ts => flatT t && flatTs ts
end
section
variable {X : Cx} {io : List Nat} {p c : Bool} {e : Expr} {m : MEt}
theorem Rel.freeze {C : MC G} {H : Hp} {σ : St} {δ : DEnv} {fp : Fp} {ex : Addr → Prop} {i : Nat} {t : OT} (R : Rel C io H σ δ fp ex) (hio : i ∉ io) (hi : δ[i]? = some (some t)) : Rel C io H σ (δ.set i (some (.fz t.data))) (fpu fp i []) ex := by
  have hil : i < δ.length := (List.getElem?_eq_some_iff.mp hi).1
  have sub : ∀ j a, a ∈ fpu fp i [] j → j ≠ i ∧ a ∈ fp j := fun j a m => by
    by_cases ej : j = i
    · subst ej; rw [fpu_same] at m; exact nomatch m
    · rw [fpu_ne ej] at m; exact ⟨ej, m⟩
  have lw : ∀ a, Lf C fp ex a → Lf C (fpu fp i []) ex a := fun a l => ⟨fun ⟨j, z⟩ => l.1 ⟨j, (sub j a z).2⟩, l.2.1, l.2.2⟩
  have ln : ∀ a ∈ fp i, Lf C (fpu fp i []) ex a := fun a m => ⟨fun ⟨j, z⟩ => (sub j a z).1 (R.dj j i a (sub j a z).2 m), R.dx i a m, .inr (by
    rcases R.new i a m with z | z
    · exact absurd z.1 hio
    · exact z)⟩
  refine ⟨by rw [List.length_set]; exact R.len, fun j t' e => ?_, fun j h => ?_, fun j => ?_, fun j k a h1 h2 => R.dj j k a (sub j a h1).2 (sub k a h2).2, fun j a h z => R.dx j a (sub j a h).2 z, R.xa, R.fr, R.al, fun j a h => R.new j a (sub j a h).2, R.io⟩
  · by_cases ej : j = i
    · subst ej
      rw [List.getElem?_set_self hil] at e
      cases e
      obtain ⟨v, e1, o⟩ := R.own j t hi
      exact ⟨v, e1, by rw [fpu_same]; exact .fz (o.da (fun a l _ => lw a l) ln)⟩
    · rw [List.getElem?_set_ne (Ne.symm ej)] at e
      obtain ⟨w, e1, o⟩ := R.own j t' e
      exact ⟨w, e1, by rw [fpu_ne ej]; exact o.wide fun a l _ => lw a l⟩
  · by_cases ej : j = i
    · subst ej; rw [fpu_same]
    · rw [fpu_ne ej]
      exact R.emp j fun t' z => h t' (by rw [List.getElem?_set_ne (Ne.symm ej)]; exact z)
  · by_cases ej : j = i
    · subst ej; rw [fpu_same]; exact .nil
    · rw [fpu_ne ej]; exact R.nd j
noncomputable def mFreeze (i : Nat) (u : MSt) : MSt := fun D δ => match δ[i]? with | some (some t) => u D (δ.set i (some (.fz t.data))) | _ => False
theorem ms_freeze {st : Stmt} {u : MSt} (i : Nat) (h : MS X io st u) (hio : i ∉ io := by decide) : MS X io st (mFreeze i u) := by
  obtain ⟨_, A, s⟩ := h
  exact ⟨_, A, fun C H σ δ fp ex D D' R h E => by
    unfold mFreeze at h
    split at h
    case h_2 => exact h.elim
    rename_i t hi
    refine s C H σ _ _ ex D D' (R.freeze hio hi) h (E.shift ⟨fun b o e _ => e, fun z => (nomatch z), fun a z => ?_, fun b e => e⟩)
    rcases z.of_u with z | ⟨j, _, z⟩
    · exact nomatch z
    · exact .inl ⟨j, z⟩⟩
end
end L2
namespace L2
open PySem PySem.Spec PyProof.Rows
variable {G : PySem.W.Frag}
noncomputable def SLaw (ds : List PyData) (k : OT → Prop) : Prop := ∃ ns : List Int, ds = [.list (ns.map PyData.int)] ∧ ns.length ≤ 63 ∧ k (.fz (.bool true))
theorem law_sp {H : Hp} {a : Addr} {ns : List Int} {E : XK} (hl : ns.length ≤ 63) (h : SqL G H a (ns.map V.int)) : spD G SLaw [.ref a] H (fun v _ => v = .bl true) E := by
  refine ⟨fun _ => True, [.list (ns.map PyData.int)], fun r => r = .fz (.bool true), .cons ?_ .nil, ⟨ns, rfl, hl, rfl⟩, fun r v H' new kr s o _ _ => ?_⟩
  · rcases h with h | h
    · exact .lst trivial h (.ints ns)
    · exact .scr h
  · subst kr
    cases o with
    | fz q => cases q; rfl
section
variable {P : Program} {w : World} {mg : Str → Option Value} {base : Heap} {CX : CXT} {n : Nat} {f : Addr} {fd : FuncData} {ps : List Str}
end
end L2
namespace L2
open PySem PySem.Spec PyProof.Rows
@[simp] theorem datas_nil : OT.datas [] = [] := rfl
@[simp] theorem datas_cons (t : OT) (ts : List OT) : OT.datas (t :: ts) = t.data :: OT.datas ts := rfl
theorem atI_nn {α : Type} {xs : List α} {i : Int} (h0 : 0 ≤ i) : atI xs i = xs[i.toNat]? := by
  unfold atI ixN
  rw [if_pos h0]
  split
  · rfl
  · rename_i h
    symm
    exact List.getElem?_eq_none_iff.mpr (by omega)
@[simp] theorem atI_0 {α : Type} (x : α) (xs : List α) : atI (x :: xs) 0 = some x := by
  rw [atI_nn (by decide)]; rfl
@[simp] theorem atI_1 {α : Type} (x y : α) (xs : List α) : atI (x :: y :: xs) 1 = some y := by
  rw [atI_nn (by decide)]; rfl
@[simp] theorem atI_2 {α : Type} (x y z : α) (xs : List α) : atI (x :: y :: z :: xs) 2 = some z := by
  rw [atI_nn (by decide)]; rfl
@[simp] theorem ixD_list (ds : List PyData) (i : Int) : ixD (.list ds) (.int i) = atI ds i := rfl
@[simp] theorem ixD_tup (ds : List PyData) (i : Int) : ixD (.tuple ds) (.int i) = atI ds i := rfl
@[simp] theorem lenD_list (ds : List PyData) : lenD (.list ds) = some ds.length := rfl
@[simp] theorem lenD_tup (ds : List PyData) : lenD (.tuple ds) = some ds.length := rfl
noncomputable def rowD (r : List Rat) : PyData := .list (r.map frD)
noncomputable def tbD (T : List (List Rat)) : PyData := .list (T.map rowD)
noncomputable def rowT (r : List Rat) : OT := .nd (r.map fun q => .fz (frD q))
noncomputable def tbT (T : List (List Rat)) : OT := .nd (T.map rowT)
@[simp] theorem rowT_data (r : List Rat) : (rowT r).data = rowD r := by
  unfold rowT rowD
  rw [OT.data_nd, List.map_map]
  rfl
@[simp] theorem tbT_data (T : List (List Rat)) : (tbT T).data = tbD T := by
  unfold tbT tbD
  rw [OT.data_nd, List.map_map]
  exact congrArg PyData.list (List.map_congr_left fun r _ => rowT_data r)
noncomputable def dd (T : List (List Rat)) (i j : Nat) : Rat := (T.getD i []).getD j 0
@[simp] theorem lenD_tb (T : List (List Rat)) : lenD (tbD T) = some T.length := by unfold tbD lenD; simp
@[simp] theorem lenD_row (r : List Rat) : lenD (rowD r) = some r.length := by unfold rowD lenD; simp
@[simp] theorem flat_fr (q : Rat) : flatD (frD q) = true := by unfold frD fr; simp [flatD, flatDs]
end L2
namespace L2
open PySem PySem.Spec PyProof.Rows
end L2
namespace L2
open PySem PySem.Spec PyProof.Rows
end L2
namespace L2
open PySem PySem.Spec PyProof.Rows
end L2
namespace L2
open PySem PySem.Spec PyProof.Rows
end L2
namespace L2
open PySem PySem.Spec PyProof.Rows
end L2
namespace L2
open PySem PySem.Spec PyProof.Rows
end L2
namespace L2
open PySem PySem.Spec PyProof.Rows
end L2
namespace L2
open PySem PySem.Spec PyProof.Rows
end L2
namespace L2
open PySem PySem.Spec PyProof.Rows
end L2
namespace L2
open PySem PySem.Spec PyProof.Rows
structure Sh (n : Nat) (d : PyData) : Prop where
  lay : PyData.canLay0 d = true
  dep : PyData.depth d ≤ n
theorem Sh.shp {n : Nat} {d : PyData} (h : Sh n d) (hn : n ≤ 64 := by decide) : ShpD d := ⟨by
  show (PyData.canLay0 d && decide (PyData.depth d ≤ 64)) = true
  rw [h.lay, decide_eq_true (Nat.le_trans h.dep hn)]; rfl⟩
theorem sh_all {n : Nat} : ∀ {ds : List PyData}, (∀ d ∈ ds, Sh n d) → PyData.canLayAll0 ds = true ∧ PyData.depthAll ds ≤ n
  | [], _ => ⟨by rw [PyData.canLayAll0], by rw [PyData.depthAll]; exact Nat.zero_le _⟩
  | d :: ds, h => by
    obtain ⟨h1, h2⟩ := sh_all fun e m => h e (.tail _ m)
    have h3 := h d (.head _)
    refine ⟨by rw [PyData.canLayAll0, h3.lay, h1]; rfl, ?_⟩
    rw [PyData.depthAll]
    exact Nat.max_le.mpr ⟨h3.dep, h2⟩
theorem sh_tup {n : Nat} {ds : List PyData} (h : ∀ d ∈ ds, Sh n d) : Sh (n + 1) (.tuple ds) :=
  ⟨by rw [PyData.canLay0]; exact (sh_all h).1, by rw [PyData.depth]; exact Nat.succ_le_succ (sh_all h).2⟩
theorem sh_int (i : Int) : Sh 0 (.int i) := ⟨rfl, Nat.le_of_eq rfl⟩
end L2
namespace L2
open PySem PySem.Spec PyProof.Rows
section
variable {X : Cx} {pins : List (Addr × Obj)} {σ : St} {H : Hp} {s : Shared}
end
end L2
namespace L2
open PySem PySem.Spec PyProof.Rows
variable {G : PySem.W.Frag}
section
variable {X : Cx} {io : List Nat} {p c : Bool} {e a b tg : Expr} {m : MEt} {mr : MAt}
noncomputable def zipD (as bs : List PyData) : List PyData := (as.zip bs).map fun x => .tuple [x.1, x.2]
@[simp] theorem zipD_length (as bs : List PyData) : (zipD as bs).length = min as.length bs.length := by simp [zipD]
end
end L2
namespace L2
open PySem PySem.Spec PyProof.Rows
variable {G : PySem.W.Frag}
section
variable {X : Cx} {io : List Nat} {c1 c2 c3 : Bool} {a b e : Expr} {ma mb mc : MEt} {pos : Pos} {f g : Int → Int → Bool}
end
section
variable {X : Cx} {io : List Nat} {p c : Bool} {a b e : Expr} {ma mb m : MEt} {pos pl : Pos}
end
end L2
namespace L2
open PySem PySem.Spec PyProof.Rows
variable {G : PySem.W.Frag}
section
variable {X : Cx}
end
end L2
namespace L2
open PySem PySem.Spec PyProof.Rows PySem.SeqAt
variable {G : PySem.W.Frag}
section
variable {X : Cx} {io : List Nat} {p c : Bool} {a b e : Expr} {ma mb m : MEt} {mr : MAt} {pos pos' pl pr : Pos}
end
section
variable {X : Cx} {io : List Nat} {p c : Bool} {a b e : Expr} {ma mb m : MEt} {mr : MAt} {pos pos' pl pr : Pos}
end
end L2
namespace L2
open PySem PySem.Spec PyProof.Rows
section
variable {X : Cx} {io : List Nat} {p p' c : Bool} {a b e : Expr} {ma mb m : MEt} {pos p2 : Pos}
end
end L2
namespace L2
open PySem PySem.Spec PyProof.Rows
structure Apart (X : Cx) (pins : List (Addr × Obj)) (H : Hp) (b : Addr) : Prop where
  fr : H b = none
  new : X.s₀.heap.get? b = none
  loc : b ≠ X.env.locals
  cel : ∀ x c, X.env.cells.lookup x = some c → c ≠ b
  pin : ∀ p ∈ X.pn ++ pins, p.1 ≠ b
section
variable {X : Cx} {pins : List (Addr × Obj)} {σ : St} {H H' : Hp} {s : Shared} {h' : Heap} {b a C : Addr}
section
variable {M : Model} {A : Around} {E : Value → Shared → Prop} {Q : Unit → Shared → Prop} {ch : List Addr}
end
end
end L2
namespace L2
open PySem PySem.Spec PyProof.Rows
noncomputable abbrev MXt := DEnv → (Addr → DEnv → Prop) → Prop
section
variable {X : Cx} {io : List Nat} {p c : Bool} {e : Expr} {es : List Expr} {mr : MAt} {m : MXt} {pos : Pos} {st : Stmt} {sts a b : List Stmt} {u : MSt} {w v : MXt} {mt : MTt} {i : Nat} {x : Str}
end
end L2
namespace L2
open PySem PySem.Spec PyProof.Rows
section
variable {P : Program} {w : World} {K : PySem.W.Frag} {mg : Str → Option Value} {base : Heap}
end
section
variable {X : Cx} {io : List Nat} {p c : Bool} {e : Expr} {es : List Expr} {mr : MAt} {pos pp : Pos} {k : Nat} {f : Addr} {fd : FuncData} {ps : List Str} {x : Str}
end
section
variable {X : Cx} {pins : List (Addr × Obj)} {σ : St} {H : Hp} {s : Shared} {a C : Addr}
noncomputable abbrev Cx.suite (X : Cx) (a : Addr) : Cx := { X with A := X.A.mark (some (.ref a)), calm := false }
end
end L2
namespace L2
open PySem PySem.Spec PyProof.Rows
section
variable {X : Cx} {io : List Nat} {i : Nat} {n y : Str} {Dc : Addr} {b₀ : Stmt} {body suite : List Stmt} {pos hpos np : Pos} {u h : MSt} {x : MXt}
end
end L2
namespace L2
open PySem PySem.Spec PyProof.Rows
inductive ClsV : V → Value → Prop where
  | own (D : Addr) : ClsV (.ref D) (.ref D)
  | ty (T : String) : ClsV (.ty T) (.type T)
inductive ClsVs : List V → List Value → Prop where
  | nil : ClsVs [] []
  | cons {v : V} {c : Value} {vs : List V} {cs : List Value} : ClsV v c → ClsVs vs cs → ClsVs (v :: vs) (c :: cs)
theorem ClsVs.length : ∀ {vs : List V} {cs : List Value}, ClsVs vs cs → vs.length = cs.length
  | _, _, .nil => rfl
  | _, _, .cons _ t => by simp [t.length]
section
variable {X : Cx} {io : List Nat} {p c : Bool} {a b : Expr} {ma : MEt} {pos pp p2 : Pos}
end
end L2
namespace L2
open PySem PySem.Spec PyProof.Rows PySem.P
section
variable {prog : Program} {w : World} {A : Around} {E : Value → Shared → Prop} {s : Shared} {e t0 C : Addr} {o : Obj} {vs : Array Value} {K : PySem.W.Frag} {m : Str} {tk : Tok}
structure XText (s : Shared) (e C t0 : Addr) (m : Str) (tk : Tok) : Prop where
  ob : ∃ o vs, s.heap.get? e = some o ∧ o.cls = .ref C ∧ o.data = .fields vs ∧ vs[0]? = some (.ref t0)
  tx : s.heap.TupAt t0 [.str m tk]
end
section
variable {X : Cx} {C : Addr} {x j : Str} {jk : Nat} {np cpos pos kp p1 : Pos}
end
end L2
namespace L2
open PySem PySem.Spec PyProof.Rows
variable {G : PySem.W.Frag}
section
variable {X : Cx} {io : List Nat} {p c : Bool} {e : Expr} {m : MEt} {pos apos cpos px : Pos} {i : Nat} {x : Str}
end
end L2
namespace L2
open PySem PySem.Spec PyProof.Rows
variable {G : PySem.W.Frag}
section
variable {X : Cx} {io : List Nat} {e : Expr} {pos apos cpos px pt pl p2 : Pos} {i j : Nat} {x y : Str}
end
section
variable {X : Cx} {io : List Nat} {e : Expr} {i : Nat} {y : Str}
end
end L2
namespace L2
open PySem PySem.Spec PyProof.Rows
section
variable {X : Cx} {pins : List (Addr × Obj)} {σ : St} {H : Hp} {s : Shared} {M : Model} {A : Around} {E : Value → Shared → Prop} {Q : Unit → Shared → Prop} {C a L : Addr} {fl : Value}
end
end L2
namespace L2
open PySem PySem.Spec PyProof.Rows
section
variable {X : Cx} {io : List Nat} {p : Bool} {tg iter : Expr} {body : List Stmt} {mi : MIt} {g : MGt} {u : MSt} {x : MXt} {pos : Pos}
end
end L2
namespace L2
open PySem PySem.Spec PyProof.Rows
noncomputable abbrev FE := DEnv → Option (OT × DEnv)
noncomputable abbrev FA := DEnv → Option (List OT × DEnv)
noncomputable abbrev FT := DEnv → Option (Bool × DEnv)
noncomputable abbrev FI := DEnv → Option (List PyData × DEnv)
noncomputable abbrev FO := DEnv → Option (Option Int × DEnv)
noncomputable abbrev FG := PyData → DEnv → Option DEnv
noncomputable abbrev FGs := List PyData → DEnv → Option DEnv
noncomputable def o2 {α : Type} (f : DEnv → Option (α × DEnv)) : DEnv → (α → DEnv → Prop) → Prop := fun δ K => ∃ r δ', f δ = some (r, δ') ∧ K r δ'
noncomputable def oG (g : FG) : MGt := fun d δ k => ∃ δ', g d δ = some δ' ∧ k δ'
section
variable {X : Cx} {io : List Nat} {p c : Bool} {e tg : Expr} {es : List Expr} {m m' : MEt} {mr mr' : MAt} {mt mt' : MTt} {mi mi' : MIt} {g g' : MGt} {gs gs' : MGst} {mo mo' : MOt} {st : Stmt} {sts : List Stmt} {u u' : MSt} {eo : Option Expr}
theorem ME.weak (h : ME X io p c e m) (w : ∀ δ K, m' δ K → m δ K) : ME X io p c e m' := let ⟨t, A, s⟩ := h; ⟨t, A, fun C H σ δ fp ex K Q R h k => s C H σ δ fp ex K Q R (w δ K h) k⟩
theorem MA.weak (h : MA X io p c es mr) (w : ∀ δ K, mr' δ K → mr δ K) : MA X io p c es mr' := let ⟨t, A, s⟩ := h; ⟨t, A, fun C H σ δ fp ex K Q R h k => s C H σ δ fp ex K Q R (w δ K h) k⟩
theorem MT.weak (h : MT X io p e mt) (w : ∀ δ K, mt' δ K → mt δ K) : MT X io p e mt' := let ⟨t, A, s⟩ := h; ⟨t, A, fun C H σ δ fp ex K Q R h k => s C H σ δ fp ex K Q R (w δ K h) k⟩
theorem MW.weak (h : MW X io p e mt) (w : ∀ δ K, mt' δ K → mt δ K) : MW X io p e mt' := let ⟨t, A, s⟩ := h; ⟨t, A, fun C H σ δ fp ex K Q R h k => s C H σ δ fp ex K Q R (w δ K h) k⟩
theorem MI.weak (h : MI X io p c tg e mi) (w : ∀ δ K, mi' δ K → mi δ K) : MI X io p c tg e mi' := let ⟨t, A, s⟩ := h; ⟨t, A, fun C H σ δ fp ex K Q R h k => s C H σ δ fp ex K Q R (w δ K h) k⟩
theorem MG.weak (h : MG X io c tg g) (w : ∀ d δ K, g' d δ K → g d δ K) : MG X io c tg g' := let ⟨t, A, s⟩ := h; ⟨t, A, fun C H σ δ fp ex v d k Q R q h kk => s C H σ δ fp ex v d k Q R q (w d δ k h) kk⟩
theorem MS.weak (h : MS X io st u) (w : ∀ D δ, u' D δ → u D δ) : MS X io st u' := let ⟨t, A, s⟩ := h; ⟨t, A, fun C H σ δ fp ex D D' R h E => s C H σ δ fp ex D D' R (w D δ h) E⟩
theorem MSs.weak (h : MSs X io sts u) (w : ∀ D δ, u' D δ → u D δ) : MSs X io sts u' := let ⟨t, A, s⟩ := h; ⟨t, A, fun C H σ δ fp ex D D' R h E => s C H σ δ fp ex D D' R (w D δ h) E⟩
end
noncomputable def fVar (i : Nat) : FE := fun δ => match δ[i]? with | some (some (.fz d)) => some (.fz d, δ) | _ => none
noncomputable def fOwn (i : Nat) : FE := fun δ => match δ[i]? with | some (some t) => some (.fz t.data, δ) | _ => none
noncomputable def fC (d : PyData) : FE := fun δ => some (.fz d, δ)
noncomputable def fBinS (g : PyData → PyData → Option PyData) (a b : FE) : FE := fun δ => (a δ).bind fun p => (b p.2).bind fun q => (g p.1.data q.1.data).bind fun d => some (.fz d, q.2)
noncomputable def fBin (g : PyData → PyData → Option OT) (a b : FE) : FE := fun δ => (a δ).bind fun p => (b p.2).bind fun q => (g p.1.data q.1.data).bind fun d => some (d, q.2)
noncomputable def fUn (g : PyData → Option PyData) (a : FE) : FE := fun δ => (a δ).bind fun p => (g p.1.data).bind fun d => some (.fz d, p.2)
noncomputable def fAnd (a b : FE) : FE := fun δ => (a δ).bind fun p => match p.1.data with | .bool true => b p.2 | .bool false => some (.fz (.bool false), p.2) | _ => none
noncomputable def fOr (a b : FE) : FE := fun δ => (a δ).bind fun p => match p.1.data with | .bool true => some (.fz (.bool true), p.2) | .bool false => b p.2 | _ => none
noncomputable def fIf (t : FT) (a b : FE) : FE := fun δ => (t δ).bind fun p => if p.1 = true then a p.2 else b p.2
noncomputable def tV (e : FE) : FT := fun δ => (e δ).bind fun p => match p.1 with | .fz (.bool b) => some (b, p.2) | _ => none
noncomputable def tNo (t : FT) : FT := fun δ => (t δ).bind fun p => some (!p.1, p.2)
noncomputable def tAn (t u : FT) : FT := fun δ => (t δ).bind fun p => if p.1 = true then u p.2 else some (false, p.2)
noncomputable def tO (t u : FT) : FT := fun δ => (t δ).bind fun p => if p.1 = true then some (true, p.2) else u p.2
noncomputable def tD (e : FE) : FT := fun δ => (e δ).bind fun p => (truD p.1.data).bind fun b => some (b, p.2)
noncomputable def aNil : FA := fun δ => some ([], δ)
noncomputable def aCons (e : FE) (a : FA) : FA := fun δ => (e δ).bind fun p => (a p.2).bind fun q => some (p.1 :: q.1, q.2)
noncomputable def fTup (a : FA) : FE := fun δ => (a δ).bind fun p => if p.1.length ≤ sizeLine then some (.fz (.tuple (OT.datas p.1)), p.2) else none
noncomputable def fLst (a : FA) : FE := fun δ => (a δ).bind fun p => if p.1.length ≤ sizeLine then some (.nd p.1, p.2) else none
noncomputable def fFlat (e : FE) : FE := fun δ => (e δ).bind fun p => if flatD p.1.data = true then some (.fz p.1.data, p.2) else none
noncomputable def fFlatT (e : FE) : FE := fun δ => (e δ).bind fun p => if flatT p.1 = true then some (p.1, p.2) else none
inductive RF where
  | ok (r : OT)
  | exn (c : Str)
  | bad
noncomputable abbrev FD := List PyData → RF
noncomputable abbrev FIO := OT → List PyData → Option (OT × OT)
noncomputable def fCall (F : FD) (a : FA) : FE := fun δ => (a δ).bind fun p => match F (OT.datas p.1) with | .ok r => some (r, p.2) | _ => none
noncomputable def fCallI (i : Nat) (F : FIO) (a : FA) : FE := fun δ => match δ[i]? with
  | some (some _) => (a δ).bind fun p => match p.2[i]? with
    | some (some t) => (F t (OT.datas p.1)).bind fun q => some (q.1, p.2.set i (some q.2))
    | _ => none
  | _ => none
noncomputable def fBlS (g : List PyData → Option PyData) (a : FA) : FE := fun δ => (a δ).bind fun p => (g (OT.datas p.1)).bind fun d => some (.fz d, p.2)
noncomputable def fBl (g : List PyData → Option OT) (a : FA) : FE := fun δ => (a δ).bind fun p => (g (OT.datas p.1)).bind fun d => some (d, p.2)
noncomputable def fIsi (T : String) (e : FE) : FE := fun δ => (e δ).bind fun p => if isFnD p.1.data = true then none else some (.fz (.bool (isTy T p.1.data)), p.2)
noncomputable def oN : FO := fun δ => some (none, δ)
noncomputable def oI (e : FE) : FO := fun δ => (e δ).bind fun p => match p.1.data with | .int i => some (some i, p.2) | _ => none
noncomputable def fSl (e : FE) (lo hi : FO) : FE := fun δ => (e δ).bind fun p => (lo p.2).bind fun q => (hi q.2).bind fun r => match p.1.data with | .list ds => some (.nd ((cutD ds q.1 r.1).map OT.fz), r.2) | _ => none
noncomputable def iLst (e : FE) : FI := fun δ => (e δ).bind fun p => match p.1.data with | .list ds => some (ds, p.2) | _ => none
noncomputable def iTp (e : FE) : FI := fun δ => (e δ).bind fun p => match p.1.data with | .tuple ds => some (ds, p.2) | _ => none
noncomputable def rOk (j : Int) : Bool := decide (-(2 ^ 62) ≤ j) && decide (j < 2 ^ 62)
theorem rOk_iff {j : Int} (h : rOk j = true) : -(2 ^ 62) ≤ j ∧ j < 2 ^ 62 := by
  unfold rOk at h
  rw [Bool.and_eq_true] at h
  exact ⟨of_decide_eq_true h.1, of_decide_eq_true h.2⟩
theorem rOk_of {j : Int} (h0 : -1000000 ≤ j) (h1 : j ≤ 1000000) : rOk j = true := by
  unfold rOk
  rw [decide_eq_true (show -(2 ^ 62) ≤ j by omega), decide_eq_true (show j < 2 ^ 62 by omega)]; rfl
noncomputable def iRa (a : FA) : FI := fun δ => (a δ).bind fun p => match OT.datas p.1 with | [.int j] => if rOk j = true then some (rngD 0 j.toNat, p.2) else none | _ => none
noncomputable def iRb (a : FA) : FI := fun δ => (a δ).bind fun p => match OT.datas p.1 with | [.int i, .int j] => if (rOk i && rOk j) = true then some (rngD i (j - i).toNat, p.2) else none | _ => none
noncomputable def iZip2 (a : FA) : FI := fun δ => (a δ).bind fun p => match OT.datas p.1 with | [.list as, .list bs] => some (zipD as bs, p.2) | _ => none
noncomputable def gNm (i : Nat) : FG := fun d δ => some (δ.set i (some (.fz d)))
noncomputable def gNmS (i : Nat) : FG := fun d δ => if flatD d = true then some (δ.set i (some (.fz d))) else none
noncomputable def gNl : FGs := fun ds δ => match ds with | [] => some δ | _ => none
noncomputable def gCn (g : FG) (gs : FGs) : FGs := fun ds δ => match ds with | d :: r => (g d δ).bind (gs r) | [] => none
noncomputable def gTp (n : Nat) (gs : FGs) : FG := fun d δ => match d with | .tuple ds => if ds.length = n then gs ds δ else none | _ => none
noncomputable def gLs (n : Nat) (gs : FGs) : FG := fun d δ => match d with | .list ds => if ds.length = n then gs ds δ else none | _ => none
noncomputable def compLoop (g : FG) (t : FT) (e : FE) : List PyData → DEnv → Option (List OT × DEnv)
  | [], δ => some ([], δ)
  | d :: ds, δ => (g d δ).bind fun δ1 => (t δ1).bind fun p => if p.1 = true then (e p.2).bind fun q => (compLoop g t e ds q.2).bind fun z => some (q.1 :: z.1, z.2) else compLoop g t e ds p.2
noncomputable def fComp (n : Nat) (caps : List Nat) (it : FI) (g : FG) (t : FT) (e : FE) : FE := fun δ => (it δ).bind fun p => if p.1.length ≤ sizeLine then (compLoop g t e p.1 (blk n caps p.2)).bind fun z => some (.nd z.1, p.2) else none
noncomputable def tYes : FT := fun δ => some (true, δ)
inductive RS where
  | nx (δ : DEnv)
  | rt (r : OT) (δ : DEnv)
  | bk (δ : DEnv)
  | ct (δ : DEnv)
  | ex (c : Str) (δ : DEnv)
  | bad
noncomputable abbrev FS := DEnv → RS
noncomputable def RS.fits (D : EndsM) : RS → Prop
  | .nx δ => D.nx δ
  | .rt r δ => D.rt r δ
  | .bk δ => D.bk δ
  | .ct δ => D.ct δ
  | _ => False
noncomputable def oS (f : FS) : MSt := fun D δ => (f δ).fits D
noncomputable def fSeq (f g : FS) : FS := fun δ => match f δ with | .nx δ' => g δ' | r => r
noncomputable def fNx : FS := fun δ => .nx δ
noncomputable def fBrk : FS := fun δ => .bk δ
noncomputable def fCnt : FS := fun δ => .ct δ
noncomputable def wE (e : FE) (k : OT → DEnv → RS) : FS := fun δ => match e δ with | some (r, δ') => k r δ' | none => .bad
noncomputable def wX (F : FD) (a : FA) (k : OT → DEnv → RS) : FS := fun δ => match a δ with
  | some (rs, δ1) => match F (OT.datas rs) with
    | .ok r => k r δ1
    | .exn c => .ex c δ1
    | .bad => .bad
  | none => .bad
noncomputable def kDrop : OT → DEnv → RS := fun _ δ => .nx δ
noncomputable def kRet : OT → DEnv → RS := fun r δ => .rt r δ
noncomputable def kRetS : OT → DEnv → RS := fun r δ => if flatD r.data = true then .rt (.fz r.data) δ else .bad
noncomputable def kSet (i : Nat) : OT → DEnv → RS := fun r δ => .nx (δ.set i (some (.fz r.data)))
noncomputable def kSetS (i : Nat) : OT → DEnv → RS := fun r δ => if flatD r.data = true then .nx (δ.set i (some (.fz r.data))) else .bad
noncomputable def kSetO (i : Nat) : OT → DEnv → RS := fun r δ => .nx (δ.set i (some r))
noncomputable def kAsg (g : FG) : OT → DEnv → RS := fun r δ => match g r.data δ with | some δ' => .nx δ' | none => .bad
noncomputable def fRetN : FS := fun δ => .rt (.fz .none) δ
noncomputable def fRetO (i : Nat) : FS := fun δ => match δ[i]? with | some (some t) => .rt t (δ.set i none) | _ => .bad
noncomputable def fIfS (t : FT) (u w : FS) : FS := fun δ => match t δ with | some (b, δ') => if b = true then u δ' else w δ' | none => .bad
noncomputable def fRaise (c : Str) : FS := fun δ => .ex c δ
noncomputable def fAppend (i : Nat) (e : FE) : FS := fun δ => match δ[i]? with
  | some (some (.nd _)) => wE e (fun r δ1 => match δ1[i]? with
    | some (some (.nd ts)) => if ts.length < sizeLine then .nx (δ1.set i (some (.nd (ts ++ [.fz r.data])))) else .bad
    | _ => .bad) δ
  | _ => .bad
noncomputable def fAppendO (i : Nat) (e : FE) : FS := fun δ => match δ[i]? with
  | some (some (.nd _)) => wE e (fun r δ1 => match δ1[i]? with
    | some (some (.nd ts)) => if ts.length < sizeLine then .nx (δ1.set i (some (.nd (ts ++ [r])))) else .bad
    | _ => .bad) δ
  | _ => .bad
noncomputable def fPut (i : Nat) (e j : FE) : FS := wE e fun r δ1 => match δ1[i]? with
  | some (some (.nd ts)) => wE j (fun n _ => match n.data with
    | .int k => match ixN ts.length k with
      | some j => .nx (δ1.set i (some (.nd (ts.set j (.fz r.data)))))
      | none => .bad
    | _ => .bad) δ1
  | _ => .bad
noncomputable def fFreeze (i : Nat) (u : FS) : FS := fun δ => match δ[i]? with | some (some t) => u (δ.set i (some (.fz t.data))) | _ => .bad
noncomputable def forLoop (g : FG) (u : FS) : List PyData → DEnv → RS
  | [], δ => .nx δ
  | d :: ds, δ => match g d δ with
    | none => .bad
    | some δ1 => match u δ1 with
      | .nx δ2 => forLoop g u ds δ2
      | .ct δ2 => forLoop g u ds δ2
      | .bk δ2 => .nx δ2
      | r => r
noncomputable def fFor (it : FI) (g : FG) (u : FS) : FS := fun δ => match it δ with | some (ds, δ1) => forLoop g u ds δ1 | none => .bad
noncomputable def whileLoop (t : FT) (u : FS) : Nat → DEnv → RS
  | 0, _ => .bad
  | n + 1, δ => match t δ with
    | none => .bad
    | some (b, δ1) => if b = true then match u δ1 with
      | .nx δ2 => whileLoop t u n δ2
      | .ct δ2 => whileLoop t u n δ2
      | .bk δ2 => .nx δ2
      | .rt r δ2 => .rt r δ2
      | _ => .bad
      else .nx δ1
open Classical in
noncomputable def fWhile (t : FT) (u : FS) : FS := fun δ => if h : ∃ n, whileLoop t u n δ ≠ .bad then whileLoop t u (Classical.choose h) δ else .bad
noncomputable def startN (n : Nat) (ds : List PyData) : DEnv := ds.map (fun d => some (.fz d)) ++ List.replicate (n - ds.length) none
noncomputable def startIN (n : Nat) (t : OT) (ds : List PyData) : DEnv := some t :: (ds.map (fun d => some (.fz d)) ++ List.replicate (n - (ds.length + 1)) none)
noncomputable def RS.told : RS → RF
  | .nx _ => .ok (.fz .none)
  | .rt r _ => .ok r
  | .ex c _ => .exn c
  | _ => .bad
noncomputable def runD (np n : Nat) (S : FS) : FD := fun ds => if ds.length = np then (S (startN n ds)).told else .bad
noncomputable def RS.toldI : RS → Option (OT × OT)
  | .nx δ => match δ[0]? with | some (some t) => some (.fz .none, t) | _ => none
  | .rt r δ => match δ[0]? with | some (some t) => some (r, t) | _ => none
  | _ => none
noncomputable def runI (np n : Nat) (S : FS) : FIO := fun t ds => if ds.length + 1 = np then (S (startIN n t ds)).toldI else none
end L2
namespace L2
open PySem PySem.Spec PyProof.Rows
noncomputable def sD (F : FD) : List PyData → (OT → Prop) → Prop := fun ds k => ∃ r, F ds = .ok r ∧ k r
noncomputable def sI (F : FIO) : OT → List PyData → (OT → OT → Prop) → Prop := fun t ds k => ∃ r t', F t ds = some (r, t') ∧ k r t'
theorem bs {α β : Type} {x : Option α} {f : α → Option β} {b : β} (h : x.bind f = some b) : ∃ a, x = some a ∧ f a = some b := Option.bind_eq_some_iff.mp h
section
variable {X : Cx} {io : List Nat} {p c : Bool} {e tg : Expr} {es : List Expr} {st : Stmt} {sts : List Stmt} {eo : Option Expr} {fa fb fc : FE} {ra : FA} {ta tb : FT} {i : Nat}
theorem fe_var (h : ME X io p c e (mVar i)) : ME X io p c e (o2 (fVar i)) := h.weak fun δ K q91 => by
  obtain ⟨r, δ', h, k⟩ := q91
  unfold fVar at h; unfold mVar
  split at h
  · rename_i d hd; (try rw [hd]); cases h; exact k
  · cases h
theorem fe_own (h : ME X io p c e (mOwn i)) : ME X io p c e (o2 (fOwn i)) := h.weak fun δ K q92 => by
  obtain ⟨r, δ', h, k⟩ := q92
  unfold fOwn at h; unfold mOwn
  split at h
  · rename_i d hd; (try rw [hd]); cases h; exact k
  · cases h
theorem fe_c {d : PyData} (h : ME X io p c e (mC d)) : ME X io p c e (o2 (fC d)) := h.weak fun δ K ⟨r, δ', h, k⟩ => by cases h; exact k
noncomputable def ByS (g : PyData → PyData → Option PyData) (rp : PyData → PyData → (PyData → Prop) → Prop) : Prop := ∀ d e r k, g d e = some r → k r → rp d e k
noncomputable def ByO (g : PyData → PyData → Option OT) (rp : PyData → PyData → (OT → Prop) → Prop) : Prop := ∀ d e r k, g d e = some r → k r → rp d e k
theorem w_binS {g rp} (G : ByS g rp) {δ : DEnv} {K : OT → DEnv → Prop} (h : o2 (fBinS g fa fb) δ K) : mBinS rp (o2 fa) (o2 fb) δ K := by
  obtain ⟨r, δ', h, k⟩ := h
  obtain ⟨⟨x, δ1⟩, h1, h⟩ := bs h
  obtain ⟨⟨y, δ2⟩, h2, h⟩ := bs h
  obtain ⟨d, h3, h⟩ := bs h
  cases h
  exact ⟨x, δ1, h1, y, δ2, h2, G _ _ _ _ h3 k⟩
theorem fe_binS {g rp} (G : ByS g rp) (h : ME X io p c e (mBinS rp (o2 fa) (o2 fb))) : ME X io p c e (o2 (fBinS g fa fb)) := h.weak fun δ K z => w_binS G z
theorem w_tv {f : FE} {δ : DEnv} {K : Bool → DEnv → Prop} (h : o2 (tV f) δ K) : o2 f δ (kB K) := by
  obtain ⟨b, δ', h, k⟩ := h
  obtain ⟨⟨x, δ1⟩, h1, h⟩ := bs h
  refine ⟨x, δ1, h1, ?_⟩
  unfold kB
  try dsimp only at h ⊢
  split at h
  · cases h; exact k
  · cases h
theorem ft_cmp {g rp} (G : ByS g rp) (h : MT X io p e (fun δ K => mBinS rp (o2 fa) (o2 fb) δ (kB K))) : MT X io p e (o2 (tV (fBinS g fa fb))) := h.weak fun δ K z => w_binS G (w_tv z)
theorem fe_bin {g rp} (G : ByO g rp) (h : ME X io p c e (mBin rp (o2 fa) (o2 fb))) : ME X io p c e (o2 (fBin g fa fb)) := h.weak fun δ K h => by
  obtain ⟨r, δ', h, k⟩ := h
  obtain ⟨⟨x, δ1⟩, h1, h⟩ := bs h
  obtain ⟨⟨y, δ2⟩, h2, h⟩ := bs h
  obtain ⟨d, h3, h⟩ := bs h
  cases h
  exact ⟨x, δ1, h1, y, δ2, h2, G _ _ _ _ h3 k⟩
noncomputable def negD : PyData → Option PyData | .int i => some (.int (-i)) | _ => none
noncomputable def notD : PyData → Option PyData | .bool b => some (.bool (!b)) | _ => none
theorem fe_neg (h : ME X io p c e (mNeg (o2 fa))) : ME X io p c e (o2 (fUn negD fa)) := h.weak fun δ K h => by
  obtain ⟨r, δ', h, k⟩ := h
  obtain ⟨⟨x, δ1⟩, h1, h⟩ := bs h
  obtain ⟨d, h3, h⟩ := bs h
  cases h
  refine ⟨x, δ1, h1, ?_⟩
  dsimp only at h3 ⊢
  cases q : x.data <;> rw [q] at h3 <;> cases h3
  exact k
theorem ft_not (h : MT X io p e (mNot (o2 ta))) : MT X io p e (o2 (tNo ta)) := h.weak fun δ K h => by
  obtain ⟨r, δ', h, k⟩ := h
  obtain ⟨⟨x, δ1⟩, h1, h⟩ := bs h
  cases h
  exact ⟨x, δ1, h1, k⟩
theorem ft_or (h : MW X io p e (mOr (o2 ta) (o2 tb))) : MW X io p e (o2 (tO ta tb)) := h.weak fun δ K h => by
  obtain ⟨r, δ', h, k⟩ := h
  obtain ⟨⟨x, δ1⟩, h1, h⟩ := bs h
  refine ⟨x, δ1, h1, ?_⟩
  try dsimp only at h ⊢
  split at h
  · rename_i q; rw [if_pos q]; cases h; exact k
  · rename_i q; rw [if_neg q]; exact ⟨r, δ', h, k⟩
theorem ft_tru (h : MT X io p e (mTru (o2 fa))) : MT X io p e (o2 (tD fa)) := h.weak fun δ K h => by
  obtain ⟨r, δ', h, k⟩ := h
  obtain ⟨⟨x, δ1⟩, h1, h⟩ := bs h
  obtain ⟨d, h3, h⟩ := bs h
  cases h
  refine ⟨x, δ1, h1, ?_⟩
  dsimp only at h3 ⊢
  rw [h3]
  exact k
theorem fa_nil (h : MA X io p c es mNil) : MA X io p c es (o2 aNil) := h.weak fun δ K ⟨r, δ', h, k⟩ => by cases h; exact k
theorem fa_cons (h : MA X io p c es (mCons (o2 fa) (o2 ra))) : MA X io p c es (o2 (aCons fa ra)) := h.weak fun δ K h => by
  obtain ⟨r, δ', h, k⟩ := h
  obtain ⟨⟨x, δ1⟩, h1, h⟩ := bs h
  obtain ⟨⟨y, δ2⟩, h2, h⟩ := bs h
  cases h
  exact ⟨x, δ1, h1, y, δ2, h2, k⟩
theorem fe_tup (h : ME X io p c e (mTup (o2 ra))) : ME X io p c e (o2 (fTup ra)) := h.weak fun δ K h => by
  obtain ⟨r, δ', h, k⟩ := h
  obtain ⟨⟨x, δ1⟩, h1, h⟩ := bs h
  refine ⟨x, δ1, h1, ?_⟩
  dsimp only at h
  split at h
  · rename_i q; cases h; exact ⟨q, k⟩
  · cases h
theorem fe_lst (h : ME X io p c e (mLst (o2 ra))) : ME X io p c e (o2 (fLst ra)) := h.weak fun δ K h => by
  obtain ⟨r, δ', h, k⟩ := h
  obtain ⟨⟨x, δ1⟩, h1, h⟩ := bs h
  refine ⟨x, δ1, h1, ?_⟩
  dsimp only at h
  split at h
  · rename_i q; cases h; exact ⟨q, k⟩
  · cases h
theorem fe_call {F : FD} (h : ME X io p c e (mCall (sD F) (o2 ra))) : ME X io p c e (o2 (fCall F ra)) := h.weak fun δ K h => by
  obtain ⟨r, δ', h, k⟩ := h
  obtain ⟨⟨x, δ1⟩, h1, h⟩ := bs h
  refine ⟨x, δ1, h1, ?_⟩
  dsimp only at h
  split at h
  · rename_i q; cases h; exact ⟨_, q, k⟩
  · cases h
theorem fe_callI {F : FIO} (h : ME X io p c e (mCallI i (sI F) (o2 ra))) : ME X io p c e (o2 (fCallI i F ra)) := h.weak fun δ K h => by
  obtain ⟨r, δ', h, k⟩ := h
  unfold fCallI at h; unfold mCallI
  split at h
  case h_2 => cases h
  rename_i t0 q0
  (try rw [q0])
  obtain ⟨⟨x, δ1⟩, h1, h⟩ := bs h
  refine ⟨x, δ1, h1, ?_⟩
  try dsimp only at h ⊢
  split at h
  case h_2 => cases h
  rename_i t q
  (try rw [q])
  obtain ⟨⟨y, t'⟩, h2, h⟩ := bs h
  cases h
  exact ⟨_, _, h2, k⟩
theorem fe_blS {g rp} (G : ∀ ds r k, g ds = some r → k r → rp ds k) (h : ME X io p c e (mBlS rp (o2 ra))) : ME X io p c e (o2 (fBlS g ra)) := h.weak fun δ K h => by
  obtain ⟨r, δ', h, k⟩ := h
  obtain ⟨⟨x, δ1⟩, h1, h⟩ := bs h
  obtain ⟨d, h3, h⟩ := bs h
  cases h
  exact ⟨x, δ1, h1, G _ _ _ h3 k⟩
theorem fe_isi {T : String} (h : ME X io p c e (mIsi T (o2 fa))) : ME X io p c e (o2 (fIsi T fa)) := h.weak fun δ K h => by
  obtain ⟨r, δ', h, k⟩ := h
  obtain ⟨⟨x, δ1⟩, h1, h⟩ := bs h
  by_cases hf : isFnD x.data = true
  · have h' : (if isFnD x.data = true then none else some (OT.fz (.bool (isTy T x.data)), δ1)) = some (r, δ') := h
    rw [if_pos hf] at h'
    cases h'
  · have h' : (if isFnD x.data = true then none else some (OT.fz (.bool (isTy T x.data)), δ1)) = some (r, δ') := h
    rw [if_neg hf] at h'
    injection h' with h'
    injection h' with e1 e2
    subst e1 e2
    exact ⟨x, _, h1, Bool.eq_false_iff.mpr hf, k⟩
theorem fi_list (h : MI X io p c tg e (iL (o2 fa))) : MI X io p c tg e (o2 (iLst fa)) := h.weak fun δ K h => by
  obtain ⟨r, δ', h, k⟩ := h
  obtain ⟨⟨x, δ1⟩, h1, h⟩ := bs h
  refine ⟨x, δ1, h1, ?_⟩
  try dsimp only at h ⊢
  split at h
  · rename_i q; (try rw [q]); cases h; exact k
  · cases h
theorem fi_r1 (h : MI X io p c tg e (iR1 (o2 ra))) : MI X io p c tg e (o2 (iRa ra)) := h.weak fun δ K h => by
  obtain ⟨r, δ', h, k⟩ := h
  obtain ⟨⟨x, δ1⟩, h1, h⟩ := bs h
  refine ⟨x, δ1, h1, ?_⟩
  try dsimp only at h ⊢
  split at h
  case h_2 => cases h
  rename_i q
  (try rw [q])
  try dsimp only
  split at h
  · rename_i b; cases h; exact ⟨rOk_iff b, k⟩
  · cases h
theorem fg_name (h : MG X io c tg (dName i)) : MG X io c tg (oG (gNm i)) := h.weak fun d δ K ⟨δ', h, k⟩ => by cases h; exact k
end
end L2
namespace L2
open PySem PySem.Spec PyProof.Rows
section
variable {X : Cx} {io : List Nat} {p c : Bool} {e tg iter : Expr} {es : List Expr} {st : Stmt} {sts : List Stmt} {fa fb fc : FE} {ra : FA} {ta tb : FT} {i : Nat} {f g u w : FS}
theorem fs_seq (h : MSs X io sts (mSeq (oS f) (oS g))) : MSs X io sts (oS (fSeq f g)) := h.weak fun D δ h => by
  unfold oS fSeq at h; unfold mSeq oS
  cases q : f δ <;> rw [q] at h <;> exact h
theorem fss_nil (h : MSs X io sts mNext) : MSs X io sts (oS fNx) := h.weak fun D δ h => h
theorem w_wE {k : OT → DEnv → RS} {D : EndsM} {δ : DEnv} (h : oS (wE fa k) D δ) : o2 fa δ fun r δ' => (k r δ').fits D := by
  unfold oS wE at h
  split at h
  · rename_i q; exact ⟨_, _, q, h⟩
  · exact h.elim
theorem o2.imp {α : Type} {f : DEnv → Option (α × DEnv)} {δ : DEnv} {K K' : α → DEnv → Prop} (h : o2 f δ K) (k : ∀ r δ', K r δ' → K' r δ') : o2 f δ K' := let ⟨r, δ', e, q⟩ := h; ⟨r, δ', e, k r δ' q⟩
theorem ite_fits {P : Prop} [Decidable P] {a : RS} {D : EndsM} (h : (if P then a else .bad : RS).fits D) : P ∧ a.fits D := by
  split at h
  · exact ⟨‹_›, h⟩
  · exact h.elim
theorem fs_ret (h : MS X io st (mRet (o2 fa))) : MS X io st (oS (wE fa kRet)) := h.weak fun D δ h => w_wE h
theorem fs_if (h : MS X io st (mIfS (o2 ta) (oS u) (oS w))) : MS X io st (oS (fIfS ta u w)) := h.weak fun D δ h => by
  unfold oS fIfS at h
  split at h
  · rename_i b δ' q
    refine ⟨b, δ', q, ?_⟩
    split at h
    · rename_i hb; rw [if_pos hb]; exact h
    · rename_i hb; rw [if_neg hb]; exact h
  · exact h.elim
theorem fs_set (h : MS X io st (mSet i (o2 fa))) : MS X io st (oS (wE fa (kSet i))) := h.weak fun D δ h => w_wE h
theorem fs_setS (h : MS X io st (mSetS i (o2 fa))) : MS X io st (oS (wE fa (kSetS i))) := h.weak fun D δ h => (w_wE h).imp fun r δ' q => ite_fits q
theorem fs_setO (h : MS X io st (mSetO i (o2 fa))) : MS X io st (oS (wE fa (kSetO i))) := h.weak fun D δ h => w_wE h
section
variable {n : Nat} {caps : List Nat} {o q : Nat} {it : FI} {gg : FG} {t : FT} {me : FE}
end
theorem fs_append (h : MS X io st (mAppend i (o2 fa))) : MS X io st (oS (fAppend i fa)) := h.weak fun D δ h => by
  unfold oS fAppend at h; unfold mAppend
  split at h
  case h_2 => exact h.elim
  rename_i q; (try rw [q])
  refine (w_wE h).imp fun r δ' z => ?_
  split at z
  · rename_i q2; (try rw [q2]); exact ite_fits z
  · exact z.elim
theorem fs_put (h : MS X io st (mPut i (o2 fa) (o2 fb))) : MS X io st (oS (fPut i fa fb)) := h.weak fun D δ h => by
  refine (w_wE h).imp fun r δ' z => ?_
  split at z
  case h_2 => exact z.elim
  rename_i q; (try rw [q])
  refine (w_wE z).imp fun n δ2 z => ?_
  split at z
  case h_2 => exact z.elim
  rename_i k q2; (try rw [q2])
  show match ixN _ k with | some j => _ | none => _
  split at z
  · rename_i q3; (try rw [q3]); exact z
  · exact z.elim
theorem fs_freeze (h : MS X io st (mFreeze i (oS u))) : MS X io st (oS (fFreeze i u)) := h.weak fun D δ h => by
  unfold oS fFreeze at h; unfold mFreeze
  split at h
  · rename_i q; (try rw [q]); exact h
  · exact h.elim
theorem forLoop_cons {gg : FG} {d : PyData} {ds : List PyData} {δ : DEnv} : forLoop gg u (d :: ds) δ = match gg d δ with
    | none => .bad
    | some δ1 => match u δ1 with
      | .nx δ2 => forLoop gg u ds δ2
      | .ct δ2 => forLoop gg u ds δ2
      | .bk δ2 => .nx δ2
      | r => r := rfl
theorem fs_for {it : FI} {gg : FG} (h : MS X io st (mFor (o2 it) (oG gg) (oS u))) : MS X io st (oS (fFor it gg u)) := h.weak fun D δ h => by
  unfold oS fFor at h
  split at h
  case h_2 => exact h.elim
  rename_i ds δ1 q
  refine ⟨ds, δ1, q, fun i δ' => (forLoop gg u (ds.drop i) δ').fits D, by show RS.fits D (forLoop gg u (ds.drop 0) δ1); rw [List.drop_zero]; exact h, fun i d δ' hd z => ?_, fun δ' z => ?_⟩
  · obtain ⟨hi, hdi⟩ := List.getElem?_eq_some_iff.mp hd
    replace z : RS.fits D (forLoop gg u (ds.drop i) δ') := z
    rw [List.drop_eq_getElem_cons hi, hdi, forLoop_cons] at z
    split at z
    case h_1 => exact z.elim
    rename_i δ2 q2
    refine ⟨δ2, q2, ?_⟩
    unfold oS
    cases q3 : u δ2 <;> rw [q3] at z <;> (try rw [q3]) <;> exact z
  · replace z : RS.fits D (forLoop gg u (ds.drop ds.length) δ') := z
    rw [List.drop_length] at z; exact z
theorem fs_while (h : MS X io st (mWhile (o2 ta) (oS u))) : MS X io st (oS (fWhile ta u)) := h.weak fun D δ h => by
  unfold oS fWhile at h
  split at h
  case isFalse => exact h.elim
  rename_i hn
  refine ⟨fun n δ' => (whileLoop ta u n δ').fits D, ⟨_, h⟩, fun n δ' z => ?_⟩
  cases n with
  | zero => exact z.elim
  | succ n =>
    unfold whileLoop at z
    split at z
    case h_1 => exact z.elim
    rename_i b δ1 q
    refine ⟨b, δ1, q, ?_⟩
    split at z
    · rename_i hb
      rw [if_pos hb]
      refine ⟨fun δ'' => (whileLoop ta u n δ'').fits D, fun δ'' y => ⟨n, Nat.lt_succ_self n, y⟩, ?_⟩
      unfold oS
      cases q3 : u δ1 <;> rw [q3] at z <;> exact z
    · rename_i hb
      rw [if_neg hb]
      exact z
theorem whileLoop_more {n m : Nat} : ∀ {δ : DEnv}, whileLoop ta u n δ ≠ .bad → whileLoop ta u (n + m) δ = whileLoop ta u n δ := by
  induction n with
  | zero => intro δ h; exact absurd rfl h
  | succ n ih =>
    intro δ h
    rw [Nat.succ_add]
    unfold whileLoop at h ⊢
    cases q : ta δ with
    | none => rfl
    | some x =>
      obtain ⟨b, δ1⟩ := x
      rw [q] at h
      try dsimp only at h ⊢
      split
      · rename_i hb
        rw [if_pos hb] at h
        cases q3 : u δ1 <;> rw [q3] at h <;> first | exact ih h | rfl
      · rfl
theorem fWhile_eq {r : RS} {δ : DEnv} (n : Nat) (h : whileLoop ta u n δ = r) (hr : r ≠ .bad) : fWhile ta u δ = r := by
  have hn : ∃ n, whileLoop ta u n δ ≠ .bad := ⟨n, by rw [h]; exact hr⟩
  unfold fWhile
  rw [dif_pos hn]
  have h1 := Classical.choose_spec hn
  have e1 := whileLoop_more (m := n) h1
  have e2 := whileLoop_more (m := Classical.choose hn) (show whileLoop ta u n δ ≠ .bad by rw [h]; exact hr)
  rw [Nat.add_comm] at e2
  rw [← e1, e2, h]
class NoEx (f : FS) : Prop where
  no : ∀ δ cn δ', f δ ≠ .ex cn δ'
class NoExK (k : OT → DEnv → RS) : Prop where
  no : ∀ r δ cn δ', k r δ ≠ .ex cn δ'
end
section
variable {P : Program} {w : World} {K : PySem.W.Frag} {mg : Str → Option Value} {base : Heap} {x qual : Str} {st : Stmt} {f : Addr} {fd : FuncData} {N ps : List Str} {n np nn : Nat} {S : FS}
theorem RS.told_fits {r : RS} {o : OT} {k : OT → Prop} (h : r.told = .ok o) (hk : k o) : r.fits (endsD k) := by
  cases r <;> unfold RS.told at h <;> first | (cases h; exact hk) | cases h
theorem fn_okD (F : Fun K x qual st f fd) (Sc : FnScope N ps (defScope st)) (hN : N.length = nn) (hp : np = ps.length)
    (hb : ∀ (cdv : Value) (A : Around) (outer : List Env) (s : Shared) (H : Hp) (E : XK), Room n (A.deeper (envOfC qual (defScope st) s.heap.objs.size f cdv)) → MSs (cxOf CX0 P w K mg base N qual (defScope st) f cdv A outer s H E).nox [] (defBody st) (oS S)) :
    FnOk P w K mg base CX0 (n + 1) f fd ps (spD K (sD (runD np nn S))) := by
  subst hN hp
  refine F.okD Sc (fun ds k h => ?_) fun cdv A outer s H E hr => ⟨_, hb cdv A outer s H E hr, fun ds k h => ?_⟩
  · obtain ⟨r, h, _⟩ := h
    unfold runD at h
    split at h
    · assumption
    · cases h
  · obtain ⟨r, h, hk⟩ := h
    unfold runD at h
    split at h
    · exact RS.told_fits h hk
    · cases h
theorem fn_okI (F : Fun K x qual st f fd) (Sc : FnScope N ps (defScope st)) (hN : N.length = nn) (hp : np = ps.length)
    (hb : ∀ (cdv : Value) (A : Around) (outer : List Env) (s : Shared) (H : Hp) (E : XK), Room n (A.deeper (envOfC qual (defScope st) s.heap.objs.size f cdv)) → MSs (cxOf CX0 P w K mg base N qual (defScope st) f cdv A outer s H E).nox [0] (defBody st) (oS S)) :
    FnOk P w K mg base CX0 (n + 1) f fd ps (spI K (sI (runI np nn S))) := by
  subst hN hp
  refine F.okI Sc (fun t ds k h => ?_) fun cdv A outer s H E hr => ⟨_, hb cdv A outer s H E hr, fun t ds k h => ?_⟩
  · obtain ⟨r, t', h, _⟩ := h
    unfold runI at h
    split at h
    · assumption
    · cases h
  · obtain ⟨r, t', h, hk⟩ := h
    unfold runI at h
    split at h
    case isFalse => cases h
    have e : startIN N.length t ds = startI N t ds := rfl
    rw [e] at h
    show (S (startI N t ds)).fits (endsI k)
    cases q : S (startI N t ds) <;> rw [q] at h <;> unfold RS.toldI at h <;> first | cases h | skip
    · rename_i δ
      show match δ[0]? with | some (some t) => k (.fz .none) t | _ => False
      dsimp only at h
      split at h
      · rename_i z; (try rw [z]); cases h; exact hk
      · cases h
    · rename_i r' δ
      show match δ[0]? with | some (some t) => k r' t | _ => False
      dsimp only at h
      split at h
      · rename_i z; (try rw [z]); cases h; exact hk
      · cases h
end
end L2
namespace L2
open PySem PySem.Spec PyProof.Rows
noncomputable def i2 (g : Int → Int → PyData) : PyData → PyData → Option PyData := fun d e => match d, e with | .int i, .int j => some (g i j) | _, _ => none
noncomputable def i2c (c : Int → Int → Bool) (g : Int → Int → PyData) : PyData → PyData → Option PyData := fun d e => match d, e with | .int i, .int j => if c i j = true then some (g i j) else none | _, _ => none
theorem by_i2 {g : Int → Int → PyData} : ByS (i2 g) (d2I0 g) := fun d e r k h hk => by
  unfold i2 at h
  split at h
  · cases h; exact hk
  · cases h
theorem by_i2c {c : Int → Int → Bool} {C : Int → Int → Prop} {g : Int → Int → PyData} (hc : ∀ i j, c i j = true → C i j) : ByS (i2c c g) (d2I C g) := fun d e r k h hk => by
  unfold i2c at h
  split at h
  · split at h
    · cases h; exact ⟨hc _ _ ‹_›, hk⟩
    · cases h
  · cases h
noncomputable def mulB (a b : Int) : Bool := !(decide (Builtin.Int.intBits a > shortFactorBits) && decide (Builtin.Int.intBits b > shortFactorBits) && Builtin.Int.intTooBig (Builtin.Int.intBits a + Builtin.Int.intBits b))
noncomputable def divB (_ j : Int) : Bool := decide (j ≠ 0) && decide (j.natAbs.log2 < 9000)
noncomputable def modB (_ j : Int) : Bool := decide (j ≠ 0)
noncomputable def powB (i j : Int) : Bool := decide (0 ≤ j ∧ j ≤ 1000000 ∧ i.natAbs < 2 ^ 64)
theorem mulB_iff {a b : Int} : mulB a b = true ↔ IntMulOk a b := by
  unfold mulB IntMulOk
  rw [Bool.not_eq_true', Bool.not_eq_true]
noncomputable def gAdd := i2 fun i j => .int (i + j)
noncomputable def gSb := i2 fun i j => .int (i - j)
noncomputable def gMul := i2c mulB fun i j => .int (i * j)
noncomputable def gFdiv := i2c divB fun i j => .int (i.fdiv j)
noncomputable def gMod := i2c modB fun i j => .int (i.fmod j)
noncomputable def gPow := i2c powB fun i j => .int (i ^ j.toNat)
noncomputable def gLt := i2 fun i j => .bool (decide (i < j))
noncomputable def gLe := i2 fun i j => .bool (decide (i ≤ j))
noncomputable def gGt := i2 fun i j => .bool (decide (j < i))
noncomputable def gGe := i2 fun i j => .bool (decide (j ≤ i))
theorem b_add : ByS gAdd (d2I0 fun i j => .int (i + j)) := by_i2
theorem b_sub : ByS gSb (d2I0 fun i j => .int (i - j)) := by_i2
theorem b_mul : ByS gMul (d2I MulOk fun i j => .int (i * j)) := by_i2c fun i j h => ⟨mulB_iff.mp h⟩
theorem b_fdiv : ByS gFdiv (d2I DvOk fun i j => .int (i.fdiv j)) := by_i2c fun i j h => ⟨by
  unfold divB at h
  rw [Bool.and_eq_true] at h
  exact ⟨of_decide_eq_true h.1, of_decide_eq_true h.2⟩⟩
theorem b_mod : ByS gMod (d2I (fun _ j => j ≠ 0) fun i j => .int (i.fmod j)) := by_i2c fun i j h => of_decide_eq_true h
theorem b_pow : ByS gPow (d2I PwOk fun i j => .int (i ^ j.toNat)) := by_i2c fun i j h => ⟨(of_decide_eq_true h : 0 ≤ j ∧ j ≤ 1000000 ∧ i.natAbs < 2 ^ 64)⟩
theorem b_lt : ByS gLt (d2I0 fun i j => .bool (decide (i < j))) := by_i2
theorem b_gt : ByS gGt (d2I0 fun i j => .bool (decide (j < i))) := by_i2
theorem b_ge : ByS gGe (d2I0 fun i j => .bool (decide (j ≤ i))) := by_i2
noncomputable def gEq : PyData → PyData → Option PyData := fun d e => if (SeqAt.shaped d && SeqAt.shaped e) = true then some (.bool (PyData.eqv d e)) else none
noncomputable def gNe : PyData → PyData → Option PyData := fun d e => if (SeqAt.shaped d && SeqAt.shaped e) = true then some (.bool (!PyData.eqv d e)) else none
theorem b_eq : ByS gEq dEq := fun d e r k h hk => by
  unfold gEq at h
  split at h
  · rename_i q
    rw [Bool.and_eq_true] at q
    cases h
    exact ⟨⟨q.1⟩, ⟨q.2⟩, hk⟩
  · cases h
theorem b_ne : ByS gNe dNe := fun d e r k h hk => by
  unfold gNe at h
  split at h
  · rename_i q
    rw [Bool.and_eq_true] at q
    cases h
    exact ⟨⟨q.1⟩, ⟨q.2⟩, hk⟩
  · cases h
noncomputable def gIs : PyData → PyData → Option PyData := fun d e => match e with | .none => some (.bool (isNoneD d)) | _ => none
noncomputable def gIsNot : PyData → PyData → Option PyData := fun d e => match e with | .none => some (.bool (!isNoneD d)) | _ => none
noncomputable def gIx : PyData → PyData → Option OT := fun d e => (ixD d e).bind fun x => some (.fz x)
theorem b_ix : ByO gIx dIx := fun d e r k h hk => by
  obtain ⟨x, h1, h2⟩ := bs h
  cases h2
  unfold dIx
  rw [h1]
  exact hk
noncomputable def gCat : PyData → PyData → Option OT := fun d e => match d, e with | .list ds, .list es => if ds.length + es.length ≤ sizeLine then some (.nd ((ds ++ es).map OT.fz)) else none | _, _ => none
noncomputable def gLen : List PyData → Option PyData := fun ds => match ds with | [d] => (lenD d).bind fun n => some (.int n) | _ => none
theorem b_len : ∀ ds r k, gLen ds = some r → k r → dLen ds k := fun ds r k h hk => by
  unfold gLen at h
  split at h
  · obtain ⟨n, h1, h2⟩ := bs h
    cases h2
    show match lenD _ with | some n => _ | none => _
    rw [h1]
    exact hk
  · cases h
noncomputable def gAbs : List PyData → Option PyData := fun ds => match ds with | [.int i] => some (.int (if i < 0 then -i else i)) | _ => none
theorem b_abs : ∀ ds r k, gAbs ds = some r → k r → dAbs ds k := fun ds r k h hk => by
  unfold gAbs at h
  split at h
  · cases h; exact hk
  · cases h
noncomputable def gMax : List PyData → Option PyData := fun ds => match ds with | [.int i, .int j] => some (.int (if j > i then j else i)) | _ => none
theorem b_max : ∀ ds r k, gMax ds = some r → k r → dMax ds k := fun ds r k h hk => by
  unfold gMax at h
  split at h
  · cases h; exact hk
  · cases h
noncomputable def gMin : List PyData → Option PyData := fun ds => match ds with | [.int i, .int j] => some (.int (if j < i then j else i)) | _ => none
theorem b_min : ∀ ds r k, gMin ds = some r → k r → dMin ds k := fun ds r k h hk => by
  unfold gMin at h
  split at h
  · cases h; exact hk
  · cases h
noncomputable def gInt : List PyData → Option PyData := fun ds => match ds with | [.int i] => some (.int i) | [.bool b] => some (.int (if b then 1 else 0)) | _ => none
theorem b_int : ∀ ds r k, gInt ds = some r → k r → dInt ds k := fun ds r k h hk => by
  unfold gInt at h
  split at h
  · cases h; exact hk
  · cases h; exact hk
  · cases h
noncomputable def gList : List PyData → Option OT := fun ds => match ds with | [d] => (itemsD d).bind fun es => some (.nd (es.map OT.fz)) | _ => none
noncomputable def intsD : List PyData → Option (List Int)
  | [] => some []
  | .int i :: r => (intsD r).bind fun l => some (i :: l)
  | _ :: _ => none
@[simp] theorem intsD_map : ∀ ns : List Int, intsD (ns.map PyData.int) = some ns
  | [] => rfl
  | n :: ns => by rw [List.map_cons, intsD, intsD_map ns]; rfl
section
variable {X : Cx} {io : List Nat} {p c : Bool} {e tg : Expr} {es : List Expr} {st : Stmt} {fa fb fc : FE} {ra : FA} {i : Nat}
noncomputable def fLR1 (a : FA) : FE := fun δ => (a δ).bind fun p => match OT.datas p.1 with | [.int j] => if rOk j = true ∧ j.toNat ≤ sizeLine then some (.nd ((rngD 0 j.toNat).map OT.fz), p.2) else none | _ => none
noncomputable def fRep (a b : FE) : FE := fun δ => (a δ).bind fun p => (b p.2).bind fun q => match q.1.data with | .int k => if rOk k = true ∧ k.toNat ≤ sizeLine then some (.nd (List.replicate k.toNat (.fz p.1.data)), p.2) else none | _ => none
end
end L2
namespace L2
open PySem PySem.Spec PyProof.Rows
variable {G : PySem.W.Frag}
section
variable {X : Cx} {io : List Nat} {p c : Bool} {e a b : Expr} {es : List Expr} {m ma mb : MEt} {mr : MAt} {pos apos cpos px py pt sp kp : Pos} {i j : Nat} {x y : Str} {fa fb : FE} {ra : FA} {st : Stmt}
noncomputable def fTupO (a : FA) : FE := fun δ => (a δ).bind fun p => if p.1.length ≤ sizeLine then some (.tp p.1, p.2) else none
noncomputable def fAppAt (i c : Nat) (e : FE) : FS := fun δ => match δ[i]? with
  | some (some (.tp ts)) => match ts[c]? with
    | some (.nd us) => wE e (fun r _ => if us.length < sizeLine then .nx (δ.set i (some (.tp (ts.set c (.nd (us ++ [.fz r.data])))))) else .bad) δ
    | _ => .bad
  | _ => .bad
noncomputable def mPar (i j : Nat) (mr : MAt) : MSt := fun D δ => mr δ fun rs δ1 => ∃ d e, OT.datas rs = [d, e] ∧ D.nx ((δ1.set i (some (.fz d))).set j (some (.fz e)))
theorem ms_par {kt k2 : Nat} {pt2 : Pos} (hc : X.calm = true) (hN : X.N.Nodup) (hi : X.N[i]? = some x) (hj : X.N[j]? = some y) (hij : i ≠ j) (hx : X.env.scope.names.lookup x = some .local) (hy : X.env.scope.names.lookup y = some .local) (ha : MA X io p true [a, b] mr)
    (hi' : i ∉ io := by decide) (hj' : j ∉ io := by decide)
    (hw : swappedStores [.Tuple [.Name x px, .Name y py] kt pt] (.Tuple [a, b] k2 pt2) X.env = pure (some [x, y]) := by rfl)
    (hs : swapsWithSole [.Tuple [.Name x px, .Name y py] kt pt] (.Tuple [a, b] k2 pt2) pos.line X.env = pure false := by rfl) :
    MS X io (.Assign [.Tuple [.Name x px, .Name y py] kt pt] (.Tuple [a, b] k2 pt2) pos) (mPar i j mr) := by
  obtain ⟨_, A, s⟩ := ha
  refine ⟨_, ps_par hc hN hi hj hij hx hy A hw hs, fun C H σ δ fp ex D D' R h E => ?_⟩
  refine s C H σ δ fp ex _ _ R h fun H1 vs rs δ1 fp1 new r1 h1 => ?_
  obtain ⟨d, e, hd, h1⟩ := h1
  have q := (r1.das R).wide (L' := Lf C fp1 ex) fun a l _ => l rfl
  rw [hd] at q
  cases q with
  | cons q1 q =>
    cases q with
    | cons q2 q =>
      cases q
      obtain ⟨fp2, R2, k2⟩ := r1.base.putD hi' q1
      have z := r1.base.kp_das k2 (.cons q2 .nil)
      cases z with
      | cons q2' _ =>
        obtain ⟨fp3, R3, k3⟩ := R2.putD hj' q2'
        exact ⟨_, _, rfl, E.nx _ _ _ fp3 R3 (r1.stp.kp.trans (k2.trans k3)) h1⟩
noncomputable def fPar (i j : Nat) (a : FA) : FS := fun δ => match a δ with
  | some (rs, δ1) => match OT.datas rs with
    | [d, e] => .nx ((δ1.set i (some (.fz d))).set j (some (.fz e)))
    | _ => .bad
  | none => .bad
theorem fs_par (h : MS X io st (mPar i j (o2 ra))) : MS X io st (oS (fPar i j ra)) := h.weak fun D δ h => by
  unfold oS fPar at h
  split at h
  case h_2 => exact h.elim
  rename_i rs δ1 q
  refine ⟨rs, δ1, q, ?_⟩
  split at h
  · rename_i q2; exact ⟨_, _, q2, h⟩
  · exact h.elim
end
class NoStar (e : Expr) : Prop where
  h : ∀ es env, starEach (e :: es) env = (false, eval e env) :: starEach es env
instance nx_Name {x : Str} {p : Pos} : NoStar (.Name x p) := ⟨fun _ _ => rfl⟩
instance nx_Constant {x k} {p : Pos} : NoStar (.Constant x k p) := ⟨fun _ _ => rfl⟩
instance nx_BinOp {a o b} {p : Pos} : NoStar (.BinOp a o b p) := ⟨fun _ _ => rfl⟩
instance nx_Compare {a o b} {p : Pos} : NoStar (.Compare a o b p) := ⟨fun _ _ => rfl⟩
instance nx_Call {f a k} {p : Pos} : NoStar (.Call f a k p) := ⟨fun _ _ => rfl⟩
instance nx_Tuple {a k} {p : Pos} : NoStar (.Tuple a k p) := ⟨fun _ _ => rfl⟩
instance nx_Subscript {a b} {p : Pos} : NoStar (.Subscript a b p) := ⟨fun _ _ => rfl⟩
theorem fa_cons2 {X : Cx} {io : List Nat} {p p' c c' p2 c2 : Bool} {e : Expr} {es : List Expr} {fa : FE} {ra : FA} [NoStar e] (ha : ME X io p c e (o2 fa)) (hr : MA X io p' c' es (o2 ra)) (hc : p' = true ∨ c = true := by first | exact Or.inl rfl | exact Or.inr rfl) (h2 : (p && p') = p2 := by rfl) (h3 : (c && c') = c2 := by rfl) : MA X io p2 c2 (e :: es) (o2 (aCons fa ra)) :=
  h2 ▸ h3 ▸ fa_cons (ma_cons ha hr hc (NoStar.h es X.env))
theorem fe_as {X : Cx} {io : List Nat} {p p' c c' : Bool} {e : Expr} {m : MEt} (h : ME X io p c e m) (h2 : p = p' := by rfl) (h3 : c = c' := by rfl) : ME X io p' c' e m := h2 ▸ h3 ▸ h
end L2
namespace L2
open PySem PySem.Spec PyProof.Rows
variable {G : PySem.W.Frag}
section
variable {X : Cx} {io : List Nat} {p c : Bool} {e a b : Expr} {es : List Expr} {m ma mb : MEt} {mr : MAt} {pos apos cpos px py pt sp kp : Pos} {i j : Nat} {x y : Str} {fa fb : FE} {ra : FA} {st : Stmt} {u : FS}
end
end L2
namespace L2
open PySem PySem.Spec PyProof.Rows
structure Gives (P : Program) (w : World) (it : Addr) (f : List Addr) (St : Heap → Prop) (x : Value) (St' : Heap → Prop) : Prop where
  mem : it ∈ f
  run : ∀ {A : Around} {E : Value → Shared → Prop} {s : Shared} {Q : Value → Shared → Prop}, St s.heap → (∀ h', St' h' → Heap.SameBut it s.heap h' → Q x { s with heap := h' }) → wpAny (model P w) A (Builtin.SmallTypes.nextOf (.ref it)) Q E s
  keep : ∀ h h', (∀ c ∈ f, ∀ o, h.get? c = some o → h'.get? c = some o) → St h → St h'
  keep' : ∀ h h', (∀ c ∈ f, ∀ o, h.get? c = some o → h'.get? c = some o) → St' h → St' h'
structure NoMore (P : Program) (w : World) (it : Addr) (f : List Addr) (St : Heap → Prop) : Prop where
  mem : it ∈ f
  run : ∀ {A : Around} {E : Value → Shared → Prop} {s : Shared} {Q : Value → Shared → Prop}, A.handled = none → St s.heap → (∀ h' e, Heap.ExtBut it s.heap h' → (∃ o, h'.get? e = some o ∧ o.cls = .type "StopIteration") → E (.ref e) { s with heap := h' }) → wpAny (model P w) A (Builtin.SmallTypes.nextOf (.ref it)) Q E s
  keep : ∀ h h', (∀ c ∈ f, ∀ o, h.get? c = some o → h'.get? c = some o) → St h → St h'
structure ZA (z TI TO i1 i2 : Addr) (f1 f2 : List Addr) : Prop where
  TIz : TI ≠ z
  TOz : TO ≠ z
  a1 : ∀ c ∈ f1, c ≠ z ∧ c ≠ TO ∧ c ≠ i2
  a2 : ∀ c ∈ f2, c ≠ z ∧ c ≠ TO ∧ c ≠ i1
section
variable {P : Program} {w : World} {A : Around} {E : Value → Shared → Prop} {s : Shared}
end
noncomputable abbrev zT1 (h : Heap) (a : Addr) : Heap := h.push { cls := .type "tuple_iterator", data := .fields #[.ref a, .int 0 0] }
noncomputable abbrev zT2 (h : Heap) (a b : Addr) : Heap := (zT1 h a).push { cls := .type "tuple_iterator", data := .fields #[.ref b, .int 0 0] }
noncomputable abbrev zT3 (h : Heap) (a b : Addr) : Heap := (zT2 h a b).push { cls := .type "tuple", data := .seq #[.ref h.objs.size, .ref (zT1 h a).objs.size] }
noncomputable abbrev zT4 (h : Heap) (a b : Addr) : Heap := (zT3 h a b).push { cls := .type "tuple", data := .seq #[.none, .none] }
noncomputable abbrev zT5 (h : Heap) (a b : Addr) : Heap := (zT4 h a b).push { cls := .type "zip", data := .fields #[.none, .bool false, .bool false, .ref (zT2 h a b).objs.size, .ref (zT3 h a b).objs.size] }
section
variable {P : Program} {w : World} {A : Around} {E : Value → Shared → Prop} {s : Shared}
end
section
variable {X : Cx} {io : List Nat} {p c : Bool} {a b : Expr} {mr : MAt}
end
end L2
namespace L2
open PySem PySem.Spec PyProof.Rows
section
variable {X : Cx} {e : Expr} {te : TE} {lo hi : Option Expr} {se : Expr} {tl th ts : TO} {pos p2 : Pos}
end
section
variable {X : Cx} {io : List Nat} {p c : Bool} {a e : Expr} {ma : MEt} {lo hi : Option Expr} {se : Expr} {ml mh ms : MOt} {pos p2 : Pos} {fa : FE}
end
end L2
namespace L2
open PySem PySem.Spec PyProof.Rows
section
variable {X : Cx} {io : List Nat} {c1 c2 c3 c4 p : Bool} {a b e d : Expr} {ma mb mc md : MEt} {pos : Pos} {f g h : Int → Int → Bool} {ta tb tc td : TE} {fa fb fc fd : FE} {G : PySem.W.Frag}
end
end L2
namespace L2
open PySem PySem.Spec PyProof.Rows
variable {G : PySem.W.Frag}
section
variable {X : Cx} {io : List Nat} {p c : Bool} {a b e : Expr} {mr : MAt} {ra : FA} {i : Nat}
noncomputable def isFn (y : Str) (d : PyData) : Bool := match d with | .dict [(.str x, .bool true)] => decide (x = y) | _ => false
end
section
variable {X : Cx} {io : List Nat} {p c : Bool} {a : Expr} {mr : MAt} {ra : FA}
end
end L2
namespace L2
open PySem PySem.Spec PyProof.Rows
variable {G : PySem.W.Frag}
noncomputable def ItB (t : Bool) (h : Heap) (it a : Addr) (i : Nat) : Prop := match t with | true => IsTupIter h it a i | false => h.IsListIter it a i
theorem ItB.at {t : Bool} {h h' : Heap} {it a : Addr} {i : Nat} (x : ItB t h it a i) (k : ∀ o, h.get? it = some o → h'.get? it = some o) : ItB t h' it a i := by
  cases t with
  | false => exact Heap.IsListIter.at x k
  | true =>
    obtain ⟨o, ho, r⟩ := x
    exact ⟨o, k o ho, r⟩
section
variable {P : Program} {w : World}
end
section
variable {X : Cx} {io : List Nat} {p c : Bool} {a b : Expr} {mr : MAt} {ra : FA}
end
end L2
namespace L2
open PySem PySem.Spec PyProof.Rows PySem.W
noncomputable def kGood {α : Type} (n : Nat) (P : α → Prop) : KasT α → Prop
  | .ret a => P a
  | .ask i j k => i < n ∧ j < n ∧ ∀ b, kGood n P (k b)
theorem kGood.bind {α β : Type} {n : Nat} {P : α → Prop} {R : β → Prop} {f : α → KasT β} (hf : ∀ a, P a → kGood n R (f a)) {t : KasT α} (h : kGood n P t) : kGood n R (t.bind f) := by
  induction t with
  | ret a => exact hf a h
  | ask i j k ih => exact ⟨h.1, h.2.1, fun b => ih b (h.2.2 b)⟩
noncomputable def kP (n : Nat) (p : Array Nat) : Prop := p.toList.Perm (List.range n)
theorem kP.at {n : Nat} {p : Array Nat} (h : kP n p) (h0 : 0 < n) (i : Nat) : p.getD i 0 < n := by
  by_cases c : i < p.size
  · have e : p.getD i 0 = p[i] := by simp [Array.getD, c]
    rw [e]
    exact List.mem_range.mp (h.mem_iff.mp (Array.getElem_mem_toList c))
  · have e : p.getD i 0 = 0 := by simp [Array.getD, c]
    rw [e]; exact h0
end L2
namespace L2
open PySem PySem.Spec PyProof.Rows PySem.W PySem.SeqAt
open AutoSeq1 (wpAny_loadPart')
open MeetsSeq MeetsSeq2 MeetsSeq3 SeqRoads2
section
variable {prog : Program} {w : World} {A : Around} {E : Value → Shared → Prop} {s : Shared}
end
section
variable {prog : Program} {w : World} {A : Around} {E : Value → Shared → Prop} {s : Shared}
end
end L2
namespace L2
open PySem PySem.Spec PyProof.Rows PySem.W
section
variable {prog : Program} {w : World} {A : Around} {E : Value → Shared → Prop} {s : Shared}
end
end L2
namespace L2
open PySem PySem.Spec PyProof.Rows PySem.W
variable {G : PySem.W.Frag}
structure SKey {α : Type} (kd : PyData → Option α) (lt : α → α → Bool) : Prop where
  lay : ∀ d k, kd d = some k → d.canLay0 = true
  run : ∃ κ : SortKind, (∀ (prog : Program) (w : World) (A : Around) (E : Value → Shared → Prop) (s : Shared) (vs : List Value) (ds : List PyData) (as : List Addr) (Q : SortKind → Shared → Prop), 2 ≤ vs.length → ReadsAll s.heap vs ds as → (∀ d ∈ ds, ∃ k, kd d = some k) → Q κ s → wpAny (model prog w) A (keyKind' vs.toArray) Q E s) ∧
    ∀ (prog : Program) (w : World) (A : Around) (E : Value → Shared → Prop) (s : Shared) (u v : Value) (d e : PyData) (as bs : List Addr) (k m : α) (C : Bool → Shared → Prop), A.units + 32 < cLine → Reads s.heap u d as → Reads s.heap v e bs → kd d = some k → kd e = some m → C (lt k m) s → wpAny (model prog w) A (keyLt' κ u v) C E s
theorem layT_ints (ns : List Int) : Sh 1 (.tuple (ns.map PyData.int)) := sh_tup fun d m => by
  obtain ⟨x, _, rfl⟩ := List.mem_map.mp m
  exact sh_int x
end L2
namespace L2
open PySem PySem.Spec PyProof.Rows PySem.W
variable {G : PySem.W.Frag}
noncomputable def lk {α : Type} (kd : PyData → Option α) (lt : α → α → Bool) (es : List PyData) : Nat → Nat → Bool := fun i j => ((kd (es.getD i .none)).bind fun a => (kd (es.getD j .none)).map fun b => lt a b).getD false
section
variable {X : Cx} {α : Type} {kd : PyData → Option α} {lt : α → α → Bool}
end
end L2
namespace L2
open PySem PySem.Spec PyProof.Rows
variable {G : PySem.W.Frag}
end L2
namespace L2
open PySem PySem.Spec PyProof.Rows
section
variable {X : Cx} {tg : Expr} {io : List Nat} {p c : Bool} {a b d e : Expr} {mr : MAt} {ra : FA}
end
end L2
namespace L2
open PySem PySem.Spec PyProof.Rows
section
variable {prog : Program} {w : World} {A : Around} {R : Result → Shared → Prop} {I : Addr} {fp wr : List Addr} {n : Nat} {P : Nat → Value → Prop} {St : Nat → Heap → Prop}
end
section
variable {prog : Program} {w : World} {A : Around} {E : Value → Shared → Prop} {s : Shared}
end
section
variable {X : Cx} {p c : Bool} {io : List Nat} {e kw : Expr} {pp pos kp : Pos} {t : TA} {mr : MAt}
end
end L2
namespace L2
open PySem PySem.Spec PyProof.Rows
noncomputable def tbl (P : List Nat) (led : Bool) : SetTable := { mask := 7, place := P.toArray, dummies := #[], finger := 0, led, moves := 0, plain := true }
noncomputable def hT (k : List Int) : Int := reduceHash (Builtin.Tuple.tupleHashOf (k.map hashInt))
noncomputable def hAt (ks : List (List Int)) (i : Nat) : Int := (ks[i]?.map hT).getD 0
noncomputable def putT (P : List Nat) (j : Nat) : List Nat := ((tbl P false).put j).1.place.toList
noncomputable def putI (P : List Nat) (j : Nat) : Nat := ((tbl P false).put j).2
noncomputable def insL (ks : List (List Int)) (p : Nat) (k : List Int) : List (List Int) := ks.take p ++ k :: ks.drop p
noncomputable def addT (P : List Nat) (ks : List (List Int)) (k : List Int) : Option (List Nat × List (List Int)) :=
  match (tbl P false).probe (hAt ks) (hT k) ((tbl P false).probeStart (hT k)) with
  | some (.empty j none) => if (tbl (putT P j) false).tooFull = false ∧ (putT P j).length = ks.length + 1 ∧ ks.length ≤ 6 ∧ putI P j ≤ ks.length then some (putT P j, insL ks (putI P j) k) else none
  | some (.candidate _ i _) => if ks[i]? = some k then some (P, ks) else none
  | _ => none
noncomputable def grow (K : List (List Int)) : Nat → List (List Nat × List (List Int)) → List (List Nat × List (List Int))
  | 0, S => S
  | n + 1, S => grow K n (S ++ (S.flatMap fun s => K.filterMap fun k => addT s.1 s.2 k).filter fun s => !S.contains s)
noncomputable def K2 : List (List Int) := [[0, 0], [0, 1], [1, 0], [1, 1]]
noncomputable def S2 : List (List Nat × List (List Int)) := (grow K2 4 [([], [])]).eraseDups
section
variable {prog : Program} {w : World} {A : Around} {E : Value → Shared → Prop} {s : Shared}
inductive KeysIn (U : Addr → List Int → Prop) : List (List Int) → List (Int × Value) → Prop
  | nil : KeysIn U [] []
  | cons {k : List Int} {a : Addr} {ks : List (List Int)} {l : List (Int × Value)} (h : U a k) (t : KeysIn U ks l) : KeysIn U (k :: ks) ((hT k, .ref a) :: l)
theorem KeysIn.hash {U : Addr → List Int → Prop} {ks : List (List Int)} {l : List (Int × Value)} (h : KeysIn U ks l) : l.map (·.1) = ks.map hT := by
  induction h with
  | nil => rfl
  | cons _ _ ih => rw [List.map_cons, List.map_cons, ih]
noncomputable abbrev IK (prog : Program) (w : World) (h : Heap) (k : List Int) (a : Addr) : Prop := IsTupleKey (intKind prog w) h k a
theorem items_int {ks : List Int} {vs : List Value} (h : ItemsAre (intKind prog w) ks vs) : ∀ v ∈ vs, ∃ i t, v = .int i t := by
  induction h with
  | nil => exact fun _ m => nomatch m
  | cons h _ ih =>
    intro v hv
    rcases List.mem_cons.mp hv with rfl | hv
    · obtain ⟨t, e⟩ := Value.isInt_shape h
      exact ⟨_, t, e⟩
    · exact ih v hv
theorem KeysIn.at {U : Addr → List Int → Prop} {ks : List (List Int)} {es : Array (Int × Value)} (h : KeysIn U ks es.toList) (i : Nat) : (es[i]?.map (·.1)).getD 0 = hAt ks i := by
  unfold hAt
  rw [← List.getElem?_map, ← h.hash, List.getElem?_map, Array.getElem?_toList]
end
section
variable {prog : Program} {w : World} {A : Around} {R : Result → Shared → Prop} {I : Addr} {fp wr : List Addr} {n : Nat} {Pv : Nat → Value → Prop} {St : Nat → Heap → Prop}
end
end L2
namespace L2
open PySem PySem.Spec PyProof.Rows
section
variable {prog : Program} {w : World} {A : Around} {E : Value → Shared → Prop} {s : Shared}
end
end L2
namespace L2
open PySem PySem.Spec PyProof.Rows
inductive Tups (H : Hp) : List V → List (List Int) → Prop
  | nil : Tups H [] []
  | cons {a : Addr} {k : List Int} {xs : List V} {ks : List (List Int)} (h : H a = some (.tup (k.map V.int))) (t : Tups H xs ks) : Tups H (.ref a :: xs) (k :: ks)
section
variable {X : Cx} {p c : Bool} {io : List Nat} {a e : Expr} {pos pos' pl pr : Pos} {t : TA} {mr : MAt} {ra : FA}
end
end L2
namespace L2
open PySem PySem.Spec PyProof.Rows
section
variable {G : PySem.W.Frag} {io : List Nat} {p pt pe : Bool} {own : List Str} {caps : List Nat} {g : MGt} {mt : MTt} {me : MEt} {i : Nat}
end
section
variable {X : Cx} {io : List Nat} {p pt pe : Bool} {own : List Str} {caps : List Nat} {N' : List Str} {sc : Scope} {i : Nat} {x : Str} {px : Pos} {tg elt : Expr} {ifs : List Expr} {g : MGt} {mt : MTt} {me : MEt} {pos : Pos}
end
end L2
namespace L2
open PySem PySem.Spec PyProof.Rows
section
variable {X : Cx} {G : PySem.W.Frag}
end
end L2
namespace L2
open PySem PySem.Spec PyProof.Rows
noncomputable abbrev IsTri (h : Heap) (T : Addr) (a b c : Value) : Prop := h.get? T = some { cls := .type "tuple", data := .seq #[a, b, c] }
structure Z3A (z TI TO i1 i2 i3 : Addr) (f1 f2 f3 : List Addr) : Prop where
  TIz : TI ≠ z
  TOz : TO ≠ z
  a1 : ∀ c ∈ f1, c ≠ z ∧ c ≠ TO ∧ c ≠ i2 ∧ c ≠ i3
  a2 : ∀ c ∈ f2, c ≠ z ∧ c ≠ TO ∧ c ≠ i1 ∧ c ≠ i3
  a3 : ∀ c ∈ f3, c ≠ z ∧ c ≠ TO ∧ c ≠ i1 ∧ c ≠ i2
section
variable {P : Program} {w : World} {A : Around} {E : Value → Shared → Prop} {s : Shared}
end
noncomputable abbrev z3A (h : Heap) (a : Addr) : Heap := h.push { cls := .type "list_iterator", data := .fields #[.ref a, .int 0 0] }
noncomputable abbrev z3B (h : Heap) (a b : Addr) : Heap := z3A (z3A h a) b
noncomputable abbrev z3C (h : Heap) (a b c : Addr) : Heap := z3A (z3B h a b) c
noncomputable abbrev z3D (h : Heap) (a b c : Addr) : Heap := (z3C h a b c).push { cls := .type "tuple", data := .seq #[.ref h.objs.size, .ref (z3A h a).objs.size, .ref (z3B h a b).objs.size] }
noncomputable abbrev z3E (h : Heap) (a b c : Addr) : Heap := (z3D h a b c).push { cls := .type "tuple", data := .seq #[.none, .none, .none] }
noncomputable abbrev z3F (h : Heap) (a b c : Addr) : Heap := (z3E h a b c).push { cls := .type "zip", data := .fields #[.none, .bool false, .bool false, .ref (z3C h a b c).objs.size, .ref (z3D h a b c).objs.size] }
section
variable {P : Program} {w : World} {A : Around} {E : Value → Shared → Prop} {s : Shared}
end
section
variable {X : Cx} {io : List Nat} {p c : Bool} {a b e : Expr} {mr : MAt} {ra : FA}
end
end L2
namespace L2
open PySem PySem.Spec PyProof.Rows
variable {G : PySem.W.Frag}
end L2
namespace L2
open PySem PySem.Spec PyProof.Rows
variable {G : PySem.W.Frag}
section
variable {X : Cx} {io : List Nat} {p c : Bool} {e : Expr} {m : MEt} {pos apos cpos px : Pos} {i : Nat} {x : Str} {st : Stmt} {fa : FE}
end
end L2
namespace L2
open PySem PySem.Spec PyProof.Rows
noncomputable def Up (xs : List Nat) : Prop := xs.Pairwise (· < ·)
structure Tb (b : Bool) (t : SetTable) : Prop where
  led : t.led = b
  up : t.plain = true → Up t.place.toList
end L2
namespace L2
open PySem PySem.Spec PyProof.Rows
section
variable {prog : Program} {w : World} {A : Around} {E : Value → Shared → Prop} {s : Shared} {b : Bool}
end
end L2
namespace L2
open PySem PySem.Spec PyProof.Rows
section
variable {prog : Program} {w : World} {A : Around} {R : Result → Shared → Prop} {I : Addr} {fp wr : List Addr} {n : Nat} {Pv : Nat → Value → Prop} {St : Nat → Heap → Prop} {b : Bool}
end
section
variable {prog : Program} {w : World} {A : Around} {E : Value → Shared → Prop} {s : Shared}
end
end L2
namespace L2
open PySem PySem.Spec PyProof.Rows
section
variable {prog : Program} {w : World} {A : Around} {E : Value → Shared → Prop} {s : Shared}
end
end L2
namespace L2
open PySem PySem.Spec PyProof.Rows
section
variable {prog : Program} {w : World} {A : Around} {E : Value → Shared → Prop} {s : Shared}
end
end L2
namespace L2
open PySem PySem.Spec PyProof.Rows
section
variable {prog : Program} {w : World} {A : Around} {E : Value → Shared → Prop} {s : Shared}
end
end L2
namespace L2
open PySem PySem.Spec PyProof.Rows
section
variable {prog : Program} {w : World} {A : Around} {E : Value → Shared → Prop} {s : Shared}
end
end L2
namespace L2
open PySem PySem.Spec PyProof.Rows
section
variable {prog : Program} {w : World} {A : Around} {E : Value → Shared → Prop} {s : Shared}
end
end L2
namespace L2
open PySem PySem.Spec PyProof.Rows
section
variable {prog : Program} {w : World} {A : Around} {E : Value → Shared → Prop} {s : Shared}
end
end L2
namespace L2
open PySem PySem.Spec PyProof.Rows
section
variable {prog : Program} {w : World} {A : Around} {E : Value → Shared → Prop} {s : Shared}
end
end L2
namespace L2
open PySem PySem.Spec PyProof.Rows
section
variable {X : Cx} {p c : Bool} {io : List Nat} {a e : Expr} {pos pos' pl pr : Pos} {t : TA} {mr : MAt} {ra : FA}
end
end L2
namespace L2
open PySem PySem.Spec PyProof.Rows
section
variable {X : Cx} {io : List Nat} {st : Stmt} {ra : FA}
end
end L2
namespace L2
open PySem PySem.Spec PyProof.Rows
section
variable {κ : Type} [DecidableEq κ]
noncomputable def valV (kvs : List (κ × V)) (k : κ) : Option V := (kvs.find? fun kv => decide (kv.1 = k)).map (·.2)
noncomputable def putK (kvs : List (κ × V)) (k : κ) (v : V) : List (κ × V) :=
  if (kvs.any fun kv => decide (kv.1 = k)) = true then kvs.map (fun kv => if kv.1 = k then (kv.1, v) else kv) else kvs ++ [(k, v)]
theorem valV_pos {p : κ × V} {r : List (κ × V)} {k : κ} (e : p.1 = k) : valV (p :: r) k = some p.2 := by simp [valV, List.find?_cons, e]
theorem valV_neg {p : κ × V} {r : List (κ × V)} {k : κ} (e : ¬ p.1 = k) : valV (p :: r) k = valV r k := by simp [valV, List.find?_cons, e]
theorem valV_any (k : κ) : ∀ kvs : List (κ × V), (kvs.any fun kv => decide (kv.1 = k)) = (valV kvs k).isSome
  | [] => rfl
  | p :: r => by
    rw [List.any_cons]
    by_cases e : p.1 = k
    · simp only [valV_pos e, decide_eq_true e, Bool.true_or, Option.isSome_some]
    · rw [valV_neg e, decide_eq_false e, Bool.false_or]; exact valV_any k r
theorem length_putK (kvs : List (κ × V)) (k : κ) (v : V) : (putK kvs k v).length ≤ kvs.length + 1 := by
  unfold putK
  split
  · rw [List.length_map]; omega
  · rw [List.length_append, List.length_cons, List.length_nil]; omega
theorem RelO.isSome_eq {o : Option V} {u : Option Value} (r : RelO o u) : o.isSome = u.isSome := by
  cases o with
  | none => cases u with
    | none => rfl
    | some _ => exact (show False from r).elim
  | some _ => cases u with
    | none => exact (show False from r).elim
    | some _ => rfl
theorem RelO.getD {o : Option V} {u : Option Value} {d : V} {d' : Value} (r : RelO o u) (rd : RelV d d') : RelV (o.getD d) (u.getD d') := by
  cases o with
  | none => cases u with
    | none => exact rd
    | some _ => exact (show False from r).elim
  | some _ => cases u with
    | none => exact (show False from r).elim
    | some _ => exact r
theorem KV.val {kvs : List (κ × V)} {vs : List (κ × Value)} (r : KV kvs vs) (k : κ) : RelO (valV kvs k) (valueAt vs k) := by
  unfold KV at r
  induction r with
  | nil => exact True.intro
  | @cons p q ps qs h t ih =>
    obtain ⟨h1, h2⟩ := h
    by_cases e : p.1 = k
    · have e' : q.1 = k := h1.symm.trans e
      have b : valueAt (q :: qs) k = some q.2 := by simp [valueAt, List.find?_cons, e']
      rw [valV_pos e, b]; exact h2
    · have e' : ¬ q.1 = k := fun z => e (h1.trans z)
      have b : valueAt (q :: qs) k = valueAt qs k := by simp [valueAt, List.find?_cons, e']
      rw [valV_neg e, b]; exact ih
theorem KV.any {kvs : List (κ × V)} {vs : List (κ × Value)} (r : KV kvs vs) (k : κ) : (kvs.any fun kv => decide (kv.1 = k)) = vs.any fun kv => decide (kv.1 = k) := by
  unfold KV at r
  induction r with
  | nil => rfl
  | cons h t ih => rw [List.any_cons, List.any_cons, ih, h.1]
theorem KV.repl {kvs : List (κ × V)} {vs : List (κ × Value)} (r : KV kvs vs) (k : κ) {y : V} {u : Value} (ry : RelV y u) :
    KV (kvs.map fun kv => if kv.1 = k then (kv.1, y) else kv) (vs.map fun kv => if kv.1 = k then (kv.1, u) else kv) := by
  unfold KV at r ⊢
  induction r with
  | nil => exact .nil
  | @cons p q ps qs h t ih =>
    rw [List.map_cons, List.map_cons]
    refine .cons ?_ ih
    obtain ⟨h1, h2⟩ := h
    by_cases e : p.1 = k
    · rw [if_pos e, if_pos (h1.symm.trans e)]; exact ⟨h1, ry⟩
    · rw [if_neg e, if_neg (fun z => e (h1.trans z))]; exact ⟨h1, h2⟩
theorem KV.put {kvs : List (κ × V)} {vs : List (κ × Value)} (r : KV kvs vs) (k : κ) {y : V} {u : Value} (ry : RelV y u) : KV (putK kvs k y) (stored vs k u) := by
  unfold putK stored
  rw [r.any k]
  by_cases e : (vs.any fun kv => decide (kv.1 = k)) = true
  · rw [if_pos e, if_pos e]; exact r.repl k ry
  · rw [if_neg e, if_neg e]; exact Paired.snoc r ⟨rfl, ry⟩
theorem KV.length {kvs : List (κ × V)} {vs : List (κ × Value)} (r : KV kvs vs) : kvs.length = vs.length := Paired.length r
end
theorem kV_is {P : Program} {w : World} {k : Key} {u : Value} (r : RelV (kV k) u) : (mixKind P w).is k u = true := by
  cases k with
  | inl i => obtain ⟨t, e⟩ := (show ∃ t, u = Value.int i t from r); subst e; exact mixKind_int P w i t
  | inr x => obtain ⟨t, e⟩ := (show ∃ t, u = Value.str x t from r); subst e; exact mixKind_str P w x t
theorem items_are {P : Program} {w : World} : ∀ {ks : List Key} {us : List Value}, Vals (ks.map kV) us → ItemsAre (mixKind P w) ks us
  | [], _, r => by rw [List.map_nil] at r; cases r; exact .nil
  | k :: ks, _, r => by
    rw [List.map_cons] at r
    cases r with
    | cons h t => exact .cons (kV_is h) (items_are t)
noncomputable abbrev KT (H : Hp) : List (List Key × V) → List (List Key × Addr × Value) → Prop := Paired fun p q => p.1 = q.1 ∧ H q.2.1 = some (.tup (p.1.map kV)) ∧ RelV p.2 q.2.2
theorem KT.val {H : Hp} {kvs : List (List Key × V)} {xs : List (List Key × Addr × Value)} (r : KT H kvs xs) (k : List Key) : RelO (valV kvs k) ((atKey xs k).map (·.2)) := by
  induction r with
  | nil => exact True.intro
  | @cons p q ps qs h t ih =>
    obtain ⟨h1, _, h2⟩ := h
    by_cases e : p.1 = k
    · have e' : q.1 = k := h1.symm.trans e
      have b : atKey (q :: qs) k = some q.2 := by simp [atKey, List.find?_cons, e']
      rw [valV_pos e, b]; exact h2
    · have e' : ¬ q.1 = k := fun z => e (h1.trans z)
      have b : atKey (q :: qs) k = atKey qs k := by simp [atKey, List.find?_cons, e']
      rw [valV_neg e, b]; exact ih
theorem KT.repl {H : Hp} {kvs : List (List Key × V)} {xs : List (List Key × Addr × Value)} (r : KT H kvs xs) (k : List Key) {y : V} {u : Value} (ry : RelV y u) :
    KT H (kvs.map fun kv => if kv.1 = k then (kv.1, y) else kv) (xs.map (putAt k u)) := by
  induction r with
  | nil => exact .nil
  | @cons p q ps qs h t ih =>
    rw [List.map_cons, List.map_cons]
    refine .cons ?_ ih
    obtain ⟨h1, h2, h3⟩ := h
    unfold putAt
    by_cases e : p.1 = k
    · rw [if_pos e, if_pos (h1.symm.trans e)]; exact ⟨h1, h2, ry⟩
    · rw [if_neg e, if_neg (fun z => e (h1.trans z))]; exact ⟨h1, h2, h3⟩
theorem KT.put {H : Hp} {kvs : List (List Key × V)} {xs : List (List Key × Addr × Value)} (r : KT H kvs xs) (k : List Key) {b : Addr} {y : V} {u : Value} (hb : H b = some (.tup (k.map kV))) (ry : RelV y u) :
    KT H (putK kvs k y) (storedH xs k b u) := by
  have e : (kvs.any fun kv => decide (kv.1 = k)) = (atKey xs k).isSome := by
    rw [valV_any, (r.val k).isSome_eq, Option.isSome_map]
  unfold putK storedH
  rw [e]
  by_cases q : (atKey xs k).isSome = true
  · rw [if_pos q, if_pos q]; exact r.repl k ry
  · rw [if_neg q, if_neg q]; exact Paired.snoc r ⟨rfl, hb, ry⟩
theorem KT.keeps {H H' : Hp} {kvs : List (List Key × V)} {xs : List (List Key × Addr × Value)} (r : KT H kvs xs) (ht : ∀ b ys, H b = some (.tup ys) → H' b = some (.tup ys)) : KT H' kvs xs :=
  Paired.mapP r fun _ _ z => ⟨z.1, ht _ _ z.2.1, z.2.2⟩
section
variable {P : Program} {w : World} {H : Hp} {h : Heap} {a : Addr}
theorem rd_of {u : HO} (ok : HOk P w H h) (e : Rd H a u) : ObjOk P w H h a u := e.ok ok
theorem dk_rd {kvs : List (Key × V)} (ok : HOk P w H h) (e : Rd H a (.dK kvs)) : kvs.length ≤ sizeLine ∧ (a == sysModules) = false ∧ ∃ vs, KV kvs vs ∧ h.DictOf (mixKind P w) a vs :=
  show ObjOk P w H h a (.dK kvs) from rd_of ok e
theorem dk_of {kvs : List (Key × V)} (ok : HOk P w H h) (e : H a = some (.dK kvs)) : kvs.length ≤ sizeLine ∧ (a == sysModules) = false ∧ ∃ vs, KV kvs vs ∧ h.DictOf (mixKind P w) a vs := dk_rd ok (.inl e)
theorem key_of {ks : List Key} (ok : HOk P w H h) (e : H a = some (.tup (ks.map kV))) : (tupleKind (mixKind P w)).is h ks a := by
  obtain ⟨_, its, r, o, h1, h2, n, h3⟩ := (show ObjOk P w H h a (.tup (ks.map kV)) from ok a _ e)
  exact ⟨o, its.toArray, n, h1, h2, h3, by simpa using items_are r⟩
theorem dt_rd {kvs : List (List Key × V)} (ok : HOk P w H h) (e : Rd H a (.dT kvs)) : kvs.length ≤ sizeLine ∧ (a == sysModules) = false ∧
    ∃ xs, KT H kvs xs ∧ h.DictOfH (tupleKind (mixKind P w)) a xs := by
  obtain ⟨z, y, xs, r, o, es, ep, h1, h2, h3, h4, h5⟩ := (show ObjOk P w H h a (.dT kvs) from rd_of ok e)
  refine ⟨z, y, xs, r, o, es, ep, h1, h2, h3, h4, fun x hx => ?_, h5⟩
  have all : ∀ {l : List (List Key × V)} {m : List (List Key × Addr × Value)}, KT H l m → ∀ x ∈ m, (tupleKind (mixKind P w)).is h x.1 x.2.1 := by
    intro l m q
    induction q with
    | nil => intro x hx; exact nomatch hx
    | @cons p q ps qs hq t ih =>
      intro x hx
      rcases List.mem_cons.mp hx with e | hx
      · subst e
        exact key_of ok (by rw [← hq.1]; exact hq.2.1)
      · exact ih x hx
  exact all r x hx
theorem dt_of {kvs : List (List Key × V)} (ok : HOk P w H h) (e : H a = some (.dT kvs)) : kvs.length ≤ sizeLine ∧ (a == sysModules) = false ∧
    ∃ xs, KT H kvs xs ∧ h.DictOfH (tupleKind (mixKind P w)) a xs := dt_rd ok (.inl e)
end
noncomputable def DGet (H : Hp) (a : Addr) (y : V) (r : Option V) : Prop :=
  (∃ kvs k, Rd H a (.dK kvs) ∧ y = kV k ∧ r = valV kvs k) ∨ ∃ kvs k b, Rd H a (.dT kvs) ∧ y = .ref b ∧ H b = some (.tup (k.map kV)) ∧ r = valV kvs k
noncomputable def DPut (H : Hp) (a : Addr) (y v : V) (H' : Hp) : Prop :=
  (∃ kvs k, H a = some (.dK kvs) ∧ y = kV k ∧ kvs.length < sizeLine ∧ H' = upd H a (.dK (putK kvs k v))) ∨
  ∃ kvs k b, H a = some (.dT kvs) ∧ y = .ref b ∧ H b = some (.tup (k.map kV)) ∧ kvs.length < sizeLine ∧ H' = upd H a (.dT (putK kvs k v))
theorem DGet.k {H : Hp} {a : Addr} {kvs : List (Key × V)} {k : Key} (e : H a = some (.dK kvs)) : DGet H a (kV k) (valV kvs k) := .inl ⟨kvs, k, .inl e, rfl, rfl⟩
theorem DGet.t {H : Hp} {a b : Addr} {kvs : List (List Key × V)} {k : List Key} (e : H a = some (.dT kvs)) (eb : H b = some (.tup (k.map kV))) : DGet H a (.ref b) (valV kvs k) := .inr ⟨kvs, k, b, .inl e, rfl, eb, rfl⟩
theorem DPut.k {H : Hp} {a : Addr} {kvs : List (Key × V)} {k : Key} {v : V} (e : H a = some (.dK kvs)) (hl : kvs.length < sizeLine) : DPut H a (kV k) v (upd H a (.dK (putK kvs k v))) := .inl ⟨kvs, k, e, rfl, hl, rfl⟩
theorem DPut.t {H : Hp} {a b : Addr} {kvs : List (List Key × V)} {k : List Key} {v : V} (e : H a = some (.dT kvs)) (eb : H b = some (.tup (k.map kV))) (hl : kvs.length < sizeLine) :
    DPut H a (.ref b) v (upd H a (.dT (putK kvs k v))) := .inr ⟨kvs, k, b, e, rfl, eb, hl, rfl⟩
section
variable {X : Cx} {pins : List (Addr × Obj)} {σ : St} {H : Hp} {s : Shared} {a : Addr} {y v : V} {u r : Value} {o : Option V} {A : Around} {E : Value → Shared → Prop}
theorem Inv.big (I : Inv X pins σ H s) : sysModules < s.heap.objs.size := by
  have h : mainGlobals < s.heap.objs.size := (I.mod.glob.keeps I.bk).lt
  exact Nat.lt_trans (by decide) h
theorem d_write {h' : Heap} {t' : Nat} {ob : HO} (I : Inv X pins σ H s) (mu : Mut (H a)) (hs : Heap.SameBut a s.heap h') (he : ∃ q, h'.get? a = some q) (new : ObjOk X.prog X.w (upd H a ob) h' a ob) :
    Inv X pins σ (upd H a ob) { s with heap := h', toks := t' } :=
  I.write (x := a) (e := a) mu (.inl rfl) (fun b q hb z => (hs.2 b hb).trans z) he new
theorem dk_new {P : Program} {w : World} {H' : Hp} {h' : Heap} {kvs : List (Key × V)} {vs : List (Key × Value)} (z : kvs.length ≤ sizeLine) (hd : (a == sysModules) = false) (rel : KV kvs vs) (dd : h'.DictOf (mixKind P w) a vs) :
    ObjOk P w H' h' a (.dK kvs) := ⟨z, hd, vs, rel, dd⟩
theorem d_setItem {H' : Hp} {Q : Unit → Shared → Prop} (hu : A.units + 1 < cLine) (I : Inv X pins σ H s) (g : DPut H a y v H') (ry : RelV y u) (rv : RelV v r) (h : ∀ s', Inv X pins σ H' s' → Q () s') :
    wpAny (model X.prog X.w) A (setItem (.ref a) u r) Q E s := by
  rcases g with ⟨kvs, k, e, ey, l, eH⟩ | ⟨kvs, k, b, e, ey, eb, l, eH⟩
  · subst ey eH
    obtain ⟨z, hd, vs, rel, dd⟩ := dk_of I.hok e
    have hz : vs.length ≤ sizeLine := by rw [← rel.length]; exact z
    have hl : (putK kvs k v).length ≤ sizeLine := by have := length_putK kvs k v; omega
    refine wpAny_setItem_pairs (hsz := hz) (kV_is ry) dd fun h' dd' hs => h _ ?_
    have he : ∃ q, h'.get? a = some q := let ⟨q, _, _, hq, _⟩ := dd'; ⟨q, hq⟩
    exact d_write I (by rw [e]; exact True.intro) hs he (dk_new hl hd (rel.put k rv) dd')
  · subst ey eH
    cases (show u = Value.ref b from ry)
    obtain ⟨z, hd, xs, rel, dd⟩ := dt_of I.hok e
    have hz : xs.length ≤ sizeLine := by rw [← Paired.length rel]; exact z
    have hl : (putK kvs k v).length ≤ sizeLine := by have := length_putK kvs k v; omega
    refine wpAny_setItem_heap (hsz := hz) (tupleKind_room_in1 hu) (key_of I.hok eb) dd fun h' dd' hs => h _ ?_
    obtain ⟨q, es, ep, hq, h2, h3, h4, _, h5⟩ := dd'
    refine d_write I (by rw [e]; exact True.intro) hs ⟨q, hq⟩ ⟨hl, hd, _, (rel.put k eb rv).keeps fun c ys ec => ?_, q, es, ep, hq, h2, h3, h4, h5⟩
    rw [upd_ne (ne_of ec e (fun z => nomatch z))]
    exact ec
end
section
variable {X : Cx} {pins : List (Addr × Obj)} {σ : St} {H : Hp} {s : Shared} {a : Addr} {kvs : List (Key × V)} {k : Key} {u : Value} {A : Around} {E : Value → Shared → Prop}
end
noncomputable def sDPut (td ty tv : TE) : TS := fun D σ H => tv σ H fun v H1 => td σ H1 fun x H2 => ty σ H2 fun y H3 => ∃ a H4, x = .ref a ∧ DPut H3 a y v H4 ∧ D.nx σ H4
section
variable {X : Cx} {o i e value : Expr} {pos pos' tpos : Pos} {td ty tv : TE}
theorem ps_dput (hu : X.A.units + 1 < cLine) (ho : PE X o td) (hi : PE X i ty) (hv : PE X value tv) (hs : swapsWith value (some (.Subscript o i pos')) pos.line X.env = pure false) :
    PS X (.Assign [.Subscript o i pos'] value pos) (sDPut td ty tv) := by
  intro pins s σ H D I h
  refine wpAny_Assign_Subscript (thn (hv pins s σ H _ I h) fun r s1 ⟨v, H1, I1, rv, q1⟩ => thn (ho pins s1 σ H1 _ I1 q1) fun u s2 ⟨x, H2, I2, rx, q2⟩ => thn (hi pins s2 σ H2 _ I2 q2) fun iv s3 ⟨y, H3, I3, ry, a, H4, ex, g, q3⟩ => ?_) hs
  subst ex
  obtain rfl : u = Value.ref a := rx
  exact d_setItem hu I3 g ry rv fun s4 I4 => ⟨σ, H4, I4, q3⟩
end
theorem dk_empty {P : Program} {w : World} {H : Hp} (h : Heap) (hb : sysModules < h.objs.size) : ObjOk P w H (h.push { cls := .type "dict", data := .dict #[] }) h.objs.size (.dK []) :=
  ⟨Nat.zero_le _, beq_eq_false_iff_ne.mpr (Ne.symm (Nat.ne_of_lt hb)), [], .nil, Heap.DictOf.new h⟩
noncomputable def tDNewK : TE := fun _ H Q => ∀ p, H p = none → Q (.ref p) (upd H p (.dK []))
section
variable {X : Cx} {pos : Pos}
theorem pe_dnewK : PE X (.Dict [] [] pos) tDNewK := fun pins s σ H Q I h =>
  wpAny_Dict_empty ⟨.ref s.heap.objs.size, _, I.laid (a := s.heap.objs.size) (o := .dK []) (t' := s.toks) (fun _ _ q => Heap.get?_push_of_some _ q) (Nat.le_refl _) (dk_empty s.heap I.big), rfl, h _ (I.hok.fresh (Nat.le_refl _))⟩
end
noncomputable abbrev VV : List (V × V) → List (Value × Value) → Prop := Paired fun p q => RelV p.1 q.1 ∧ RelV p.2 q.2
structure M1 (X : Cx) (o : Expr) (m : Str) (apos : Pos) (e : Expr) (cpos : Pos) : Prop where
  base : attributeBase o m X.env (eval o X.env) = eval o X.env
  few : ((backTo cpos (starEach [e] X.env)).all (fun x => !x.1) && (backToKw cpos (keywordEach [] X.env)).all (fun x => x.1.isSome)
    && decide (([e] : List Expr).length + ([] : List Keyword).length + (if ([] : List Keyword).isEmpty then 0 else 1) < 30)) = true
  line : (apos.endLine == cpos.line) = true
  trees : backTo cpos (starEach [e] X.env) = [(false, eval e X.env)]
structure M2 (X : Cx) (o : Expr) (m : Str) (apos : Pos) (e f : Expr) (cpos : Pos) : Prop where
  base : attributeBase o m X.env (eval o X.env) = eval o X.env
  few : ((backTo cpos (starEach [e, f] X.env)).all (fun x => !x.1) && (backToKw cpos (keywordEach [] X.env)).all (fun x => x.1.isSome)
    && decide (([e, f] : List Expr).length + ([] : List Keyword).length + (if ([] : List Keyword).isEmpty then 0 else 1) < 30)) = true
  line : (apos.endLine == cpos.line) = true
  trees : backTo cpos (starEach [e, f] X.env) = [(false, eval e X.env), (false, eval f X.env)]
noncomputable def IsD (H : Hp) (a : Addr) : Prop := (∃ kvs, Rd H a (.dK kvs)) ∨ ∃ kvs, Rd H a (.dT kvs)
theorem isD_at {X : Cx} {pins : List (Addr × Obj)} {σ : St} {H : Hp} {s : Shared} {a : Addr} (I : Inv X pins σ H s) (d : IsD H a) :
    s.TypeIs (.ref a) "dict" ∧ (∀ b, Value.ref a = .ref b → ∃ ob, s.heap.get? b = some ob ∧ ob.dict = none) ∧ (a == sysModules) = false := by
  rcases d with ⟨kvs, e⟩ | ⟨kvs, e⟩
  · obtain ⟨_, hd, vs, _, dd⟩ := dk_rd I.hok e
    refine ⟨dd.typeIs, fun b q => ?_, hd⟩
    cases q
    obtain ⟨ob, _, _, h1, h2, _⟩ := dd
    exact ⟨ob, h1, h2.2.1⟩
  · obtain ⟨_, hd, xs, _, dd⟩ := dt_rd I.hok e
    refine ⟨dd.typeIs, fun b q => ?_, hd⟩
    cases q
    obtain ⟨ob, _, _, h1, h2, _⟩ := dd
    exact ⟨ob, h1, h2.2.1⟩
section
variable {X : Cx} {pins : List (Addr × Obj)} {σ : St} {H : Hp} {s : Shared} {a : Addr} {y d : V} {u r : Value} {o : Option V} {A : Around} {E : Value → Shared → Prop}
theorem d_get2 {Q : Value → Shared → Prop} (hu : A.units + 1 < cLine) (I : Inv X pins σ H s) (g : DGet H a y o) (ry : RelV y u) (rd : RelV d r) (h : ∀ w' s', Inv X pins σ H s' → RelV (o.getD d) w' → Q w' s') :
    wpAny (model X.prog X.w) A (call (.builtin "dict.get") [.ref a, u, r]) Q E s := by
  rcases g with ⟨kvs, k, e, ey, l⟩ | ⟨kvs, k, b, e, ey, eb, l⟩
  · subst ey
    obtain ⟨z, hd, vs, rel, dd⟩ := dk_rd I.hok e
    refine call_meetsIn PySem.F.slot_dict_get dd.typeIs PySem.F.entry_dict_get (PySem.F.args_dict_get_3 _ _ _) (meets_dict_get_default (mixKind X.prog X.w) a (kV_is ry) hd r) ⟨_, dd.mapOf, h _ _ (I.tok _) ?_⟩
    rw [l]
    exact (rel.val k).getD rd
  · subst ey
    cases (show u = Value.ref b from ry)
    obtain ⟨z, hd, xs, rel, dd⟩ := dt_rd I.hok e
    refine call_meetsIn PySem.F.slot_dict_get dd.typeIs PySem.F.entry_dict_get (PySem.F.args_dict_get_3 _ _ _) (meetsH_dict_get_default (tupleKind (mixKind X.prog X.w)) a b hd r) ⟨tupleKind_room_in1 hu, k, xs, key_of I.hok eb, dd, h _ _ (I.tok _) ?_⟩
    rw [l]
    exact (rel.val k).getD rd
end
noncomputable def tDGet2 (td ty tx : TE) : TE := fun σ H Q => td σ H fun x H1 => ∃ a, x = .ref a ∧ IsD H1 a ∧ ty σ H1 fun y H2 => tx σ H2 fun z H3 => ∃ o, DGet H3 a y o ∧ Q (o.getD z) H3
section
variable {X : Cx} {o e f : Expr} {apos cpos : Pos} {td ty tx : TE}
theorem pe_dget2 (hu : X.A.units + 1 < cLine) (ho : PE X o td) (he : PE X e ty) (hf : PE X f tx) (m : M2 X o "get" apos e f cpos) : PE X (.Call (.Attribute o "get" apos) [e, f] [] cpos) (tDGet2 td ty tx) := by
  intro pins s σ H Q I h
  refine wpAny_Call_method m.base m.few m.line PySem.F.plainAttrs_dict PySem.F.slot_dict_get PySem.F.type_dict_get (thn (ho pins s σ H _ I h) fun u s1 ⟨x, H1, I1, rx, a, ex, d, q1⟩ => ?_)
  subst ex
  obtain rfl : u = Value.ref a := rx
  obtain ⟨t1, t2, _⟩ := isD_at I1 d
  refine ⟨t1, t2, ?_⟩
  rw [m.trees]
  refine Calls.callWith_builtin rfl (Calls.evalArgs_plain (Calls.spliced_cons (thn (he pins s1 σ H1 _ I1 q1) fun iv s2 ⟨y, H2, I2, ry, q2⟩ =>
    Calls.spliced_cons (thn (hf pins s2 σ H2 _ I2 q2) fun fv s3 ⟨z, H3, I3, rz, ov, g, q3⟩ => Calls.spliced_nil ?_))))
  exact d_get2 hu I3 g ry rz fun w' s4 I4 rw' => ⟨_, H3, I4, rw', q3⟩
end
end L2
namespace L2
open PySem PySem.Spec PyProof.Rows
variable {G : PySem.W.Frag}
noncomputable def kyOf1 : PyData → Option Key
  | .int i => some (.inl i)
  | .str x => some (.inr x)
  | _ => none
noncomputable def kyOfs : List PyData → Option (List Key)
  | [] => some []
  | d :: ds => (kyOf1 d).bind fun k => (kyOfs ds).bind fun ks => some (k :: ks)
noncomputable def kyOf : PyData → Option KY
  | .tuple ds => (kyOfs ds).map .inr
  | d => (kyOf1 d).map .inl
noncomputable def isTK : KY → Bool
  | .inl _ => false
  | .inr _ => true
theorem kyOf1_D (k : Key) : kyOf1 (keyD k) = some k := by cases k <;> rfl
theorem kyOfs_D (ks : List Key) : kyOfs (ks.map keyD) = some ks := by
  induction ks with
  | nil => rfl
  | cons k ks ih => rw [List.map_cons, kyOfs, kyOf1_D, ih]; rfl
theorem kyOf_D (k : KY) : kyOf (kyD k) = some k := by
  cases k with
  | inl k => cases k <;> rfl
  | inr ks => show (kyOfs (ks.map keyD)).map (Sum.inr : List Key → KY) = _; rw [kyOfs_D]; rfl
noncomputable def dVal (k : KY) : List KY → List PyData → Option PyData
  | [], _ => none
  | _ :: _, [] => none
  | j :: ks, d :: ds => if j = k then some d else dVal k ks ds
noncomputable def dRep (k : KY) (x : PyData) : List KY → List PyData → List PyData
  | [], ds => ds
  | _ :: _, [] => []
  | j :: ks, d :: ds => (if j = k then x else d) :: dRep k x ks ds
noncomputable def dHas (k : KY) (ks : List KY) : Bool := ks.any fun j => decide (j = k)
noncomputable def dPutK (k : KY) (ks : List KY) : List KY := if dHas k ks = true then ks else ks ++ [k]
noncomputable def dPutV (k : KY) (x : PyData) (ks : List KY) (ds : List PyData) : List PyData := if dHas k ks = true then dRep k x ks ds else ds ++ [x]
section
variable {H : Hp} {L : Addr → Prop} {κ : Type} [DecidableEq κ] {f : κ → KY}
noncomputable def RelD (G : PySem.W.Frag) (H : Hp) (L : Addr → Prop) (a : Option V) (b : Option PyData) : Prop := (∃ v d, a = some v ∧ b = some d ∧ Da G H L v d) ∨ (a = none ∧ b = none)
theorem look (hf : ∀ a b, f a = f b → a = b) (k : κ) (kvs : List (κ × V)) : ∀ ds, Das G H L (kvs.map (·.2)) ds → RelD G H L (valV kvs k) (dVal (f k) (kvs.map fun p => f p.1) ds) := by
  induction kvs with
  | nil => exact fun ds _ => .inr ⟨rfl, rfl⟩
  | cons p kvs ih =>
    intro ds h
    cases h with
    | cons h r =>
      rename_i d ds
      show RelD G H L _ (if f p.1 = f k then some d else dVal (f k) (kvs.map fun p => f p.1) ds)
      by_cases e : p.1 = k
      · rw [valV_pos e, if_pos (congrArg f e)]
        exact .inl ⟨_, _, rfl, rfl, h⟩
      · rw [valV_neg e, if_neg fun z => e (hf _ _ z)]
        exact ih _ r
theorem anyK (hf : ∀ a b, f a = f b → a = b) (k : κ) (kvs : List (κ × V)) : (kvs.any fun kv => decide (kv.1 = k)) = dHas (f k) (kvs.map fun p => f p.1) := by
  unfold dHas
  rw [List.any_map]
  refine congrArg (List.any kvs) (funext fun p => ?_)
  exact decide_eq_decide.mpr ⟨congrArg f, hf _ _⟩
theorem repK (k : κ) (v : V) (kvs : List (κ × V)) : (kvs.map (fun kv => if kv.1 = k then (kv.1, v) else kv)).map (fun p => f p.1) = kvs.map fun p => f p.1 := by
  rw [List.map_map]
  refine List.map_congr_left fun p _ => ?_
  show f (if p.1 = k then (p.1, v) else p).1 = f p.1
  by_cases c : p.1 = k
  · rw [if_pos c]
  · rw [if_neg c]
theorem repV (hf : ∀ a b, f a = f b → a = b) (k : κ) {v : V} {x : PyData} (hv : Da G H L v x) (kvs : List (κ × V)) : ∀ ds, Das G H L (kvs.map (·.2)) ds → Das G H L ((kvs.map (fun kv => if kv.1 = k then (kv.1, v) else kv)).map (·.2)) (dRep (f k) x (kvs.map fun p => f p.1) ds) := by
  induction kvs with
  | nil => intro ds h; cases h; exact .nil
  | cons p kvs ih =>
    intro ds h
    cases h with
    | cons h r =>
      rename_i d ds
      refine .cons ?_ (ih _ r)
      show Da G H L (if p.1 = k then (p.1, v) else p).2 (if f p.1 = f k then x else d)
      by_cases e : p.1 = k
      · rw [if_pos e, if_pos (congrArg f e)]; exact hv
      · rw [if_neg e, if_neg fun z => e (hf _ _ z)]; exact h
theorem put_keys (hf : ∀ a b, f a = f b → a = b) (k : κ) (v : V) (kvs : List (κ × V)) : (putK kvs k v).map (fun p => f p.1) = dPutK (f k) (kvs.map fun p => f p.1) := by
  unfold putK dPutK
  rw [anyK hf]
  cases c : dHas (f k) (kvs.map fun p => f p.1) with
  | true => rw [if_pos rfl, if_pos rfl, repK]
  | false => rw [if_neg Bool.false_ne_true, if_neg Bool.false_ne_true, List.map_append]; rfl
theorem put_vals (hf : ∀ a b, f a = f b → a = b) (k : κ) {v : V} {x : PyData} (hv : Da G H L v x) (kvs : List (κ × V)) {ds : List PyData} (h : Das G H L (kvs.map (·.2)) ds) : Das G H L ((putK kvs k v).map (·.2)) (dPutV (f k) x (kvs.map fun p => f p.1) ds) := by
  unfold putK dPutV
  rw [anyK hf]
  cases c : dHas (f k) (kvs.map fun p => f p.1) with
  | true => rw [if_pos rfl, if_pos rfl]; exact repV hf k hv kvs _ h
  | false => rw [if_neg Bool.false_ne_true, if_neg Bool.false_ne_true, List.map_append]; exact h.snoc hv
end
theorem inl_inj : ∀ a b : Key, (Sum.inl a : KY) = Sum.inl b → a = b := fun _ _ h => Sum.inl.inj h
theorem inr_inj : ∀ a b : List Key, (Sum.inr a : KY) = Sum.inr b → a = b := fun _ _ h => Sum.inr.inj h
section
variable {H : Hp} {L : Addr → Prop} {y : V} {e : PyData}
theorem Da.key1 {k : Key} (h : Da G H L y e) (hk : kyOf1 e = some k) : y = kV k := by
  cases h with
  | int i => cases hk; rfl
  | str x => cases hk; rfl
  | exc _ _ _ => unfold exD kyOf1 at hk; cases hk
  | fn _ => unfold fnD kyOf1 at hk; cases hk
  | dic _ _ _ _ => unfold dcD kyOf1 at hk; cases hk
  | _ => cases hk
theorem Das.keys {xs : List V} {ds : List PyData} (h : Das G H L xs ds) : ∀ ks, kyOfs ds = some ks → xs = ks.map kV :=
  Das.ind (Q := fun xs ds => ∀ ks, kyOfs ds = some ks → xs = ks.map kV) (fun ks h => by cases h; rfl) (fun {x xs d ds} h _ ih ks hk => by
    rw [kyOfs] at hk
    obtain ⟨k, h1, hk⟩ := bs hk
    obtain ⟨ks', h2, hk⟩ := bs hk
    cases hk
    rw [h.key1 h1, ih _ h2]; rfl) h
theorem Da.keyT {ks : List Key} (h : Da G H L y e) (hk : kyOf e = some (.inr ks)) : ∃ b, y = .ref b ∧ H b = some (.tup (ks.map kV)) := by
  cases h with
  | tup e1 r =>
    rw [kyOf] at hk
    obtain ⟨ks', h1, h2⟩ := Option.map_eq_some_iff.mp hk
    cases h2
    exact ⟨_, rfl, by rw [← r.keys _ h1]; exact e1⟩
  | exc _ _ _ => unfold exD kyOf kyOf1 at hk; cases hk
  | fn _ => unfold fnD kyOf kyOf1 at hk; cases hk
  | dic _ _ _ _ => unfold dcD kyOf kyOf1 at hk; cases hk
  | _ => cases hk
theorem Da.keyS {k : Key} (h : Da G H L y e) (hk : kyOf e = some (.inl k)) : y = kV k := by
  refine h.key1 ?_
  unfold kyOf at hk
  split at hk
  · obtain ⟨_, _, z⟩ := Option.map_eq_some_iff.mp hk; cases z
  · obtain ⟨_, h1, z⟩ := Option.map_eq_some_iff.mp hk; cases z; exact h1
noncomputable def dLook (k : KY) : List (PyData × PyData) → Option PyData
  | [] => none
  | p :: r => if kyOf p.1 = some k then some p.2 else dLook k r
theorem dLook_zip (k : KY) (ks : List KY) : ∀ ds, dLook k ((ks.map kyD).zip ds) = dVal k ks ds := by
  induction ks with
  | nil => intro ds; rfl
  | cons j ks ih =>
    intro ds
    cases ds with
    | nil => rfl
    | cons d ds =>
      show (if kyOf (kyD j) = some k then some d else dLook k ((ks.map kyD).zip ds)) = if j = k then some d else dVal k ks ds
      rw [kyOf_D, ih]
      by_cases c : j = k
      · rw [if_pos c, if_pos (congrArg some c)]
      · rw [if_neg c, if_neg fun z => c (Option.some.inj z)]
theorem Da.dget {x : V} {t : Bool} {kvs : List (PyData × PyData)} {k : KY} (h : Da G H L x (.dict ((.none, .bool t) :: kvs))) (hy : Da G H L y e) (hk : kyOf e = some k) (ht : isTK k = t) : ∃ a o, x = .ref a ∧ IsD H a ∧ DGet H a y o ∧ RelD G H L o (dLook k kvs) := by
  generalize ed : PyData.dict ((.none, .bool t) :: kvs) = d at h
  cases h with
  | dic l r dk q =>
    rename_i a o t' ks xs ds
    unfold dcD at ed
    injection ed with ed
    injection ed with e1 e2
    injection e1 with _ e1
    injection e1 with e1
    subst e1 e2
    rw [dLook_zip]
    cases o with
    | lst _ => exact dk.elim
    | dK kv =>
      obtain ⟨rfl, rfl, rfl⟩ := dk
      cases k with
      | inr _ => cases ht
      | inl k => exact ⟨a, _, rfl, .inl ⟨kv, r⟩, .inl ⟨kv, k, r, hy.keyS hk, rfl⟩, look inl_inj k kv _ q⟩
    | dT kv =>
      obtain ⟨rfl, rfl, rfl⟩ := dk
      cases k with
      | inl _ => cases ht
      | inr k =>
        obtain ⟨b, hb, eb⟩ := hy.keyT hk
        exact ⟨a, _, rfl, .inr ⟨kv, r⟩, .inr ⟨kv, k, b, r, hb, eb, rfl⟩, look inr_inj k kv _ q⟩
  | exc _ _ _ => unfold exD at ed; cases ed
  | fn _ => unfold fnD at ed; cases ed
  | _ => cases ed
end
end L2
namespace L2
open PySem PySem.Spec PyProof.Rows
variable {G : PySem.W.Frag}
section
variable {X : Cx} {io : List Nat} {p c p' c' : Bool} {a b e f o : Expr} {ma mb m mi mo me mf : MEt} {pos pp apos cpos px : Pos} {i : Nat} {x : Str}
theorem hu1 {n : Nat} (h : n + 64 < cLine) : n + 1 < cLine := Nat.lt_of_le_of_lt (Nat.add_le_add_left (by decide : 1 ≤ 64) _) h
noncomputable def mDict (t : Bool) : MEt := fun δ K => K (.dc t [] []) δ
theorem m_dictK : ME X io true true (.Dict [] [] pos) (mDict false) := ⟨_, pe_dnewK, fun C H σ δ fp ex K Q R h k q hq => by
  refine k _ _ _ δ fp [q] (RE.tree (H1 := H) R R (Stp.same (Same.refl H) fun _ z => z) (same_new hq (.dK [])) (one_new hq) (one_nd q) ?_) h
  exact .dc (o := .dK []) upd_same ⟨rfl, rfl, rfl⟩ .nil⟩
noncomputable def fDict (t : Bool) : FE := fun δ => some (.dc t [] [], δ)
theorem fe_dict {t : Bool} (h : ME X io p c e (mDict t)) : ME X io p c e (o2 (fDict t)) := h.weak fun δ K z => by
  obtain ⟨r, δ', h, k⟩ := z
  cases h; exact k
noncomputable def gGet2 : PyData → PyData → PyData → Option PyData := fun d e z => match d with
  | .dict ((.none, .bool t) :: kvs) => (kyOf e).bind fun k => if isTK k = t then some ((dLook k kvs).getD z) else none
  | _ => none
noncomputable def isDc : PyData → Bool
  | .dict ((.none, .bool _) :: _) => true
  | _ => false
theorem Da.isD {H : Hp} {L : Addr → Prop} {x : V} {d : PyData} (h : Da G H L x d) (hd : isDc d = true) : ∃ a, x = .ref a ∧ IsD H a := by
  cases h with
  | dic l r dk q =>
    rename_i a o t ks xs ds
    cases o with
    | lst _ => exact dk.elim
    | dK kv => exact ⟨a, rfl, .inl ⟨kv, r⟩⟩
    | dT kv => exact ⟨a, rfl, .inr ⟨kv, r⟩⟩
  | exc _ _ _ => unfold exD isDc at hd; cases hd
  | fn _ => unfold fnD isDc at hd; cases hd
  | _ => cases hd
noncomputable def mGet2 (mo me mf : MEt) : MEt := fun δ K => mo δ fun x δ1 => isDc x.data = true ∧ me δ1 fun y δ2 => mf δ2 fun z δ3 => ∃ r, gGet2 x.data y.data z.data = some r ∧ K (.fz r) δ3
theorem m_dget2 {c0 c1 c2 : Bool} (hu : X.A.units + 64 < cLine) (ho : ME X io true c0 o mo) (he : ME X io true c1 e me) (hf : ME X io true c2 f mf) (mm : M2 X o "get" apos e f cpos) : ME X io true (c0 && (c1 && c2)) (.Call (.Attribute o "get" apos) [e, f] [] cpos) (mGet2 mo me mf) := by
  obtain ⟨_, A, sa⟩ := ho
  obtain ⟨_, B, sb⟩ := he
  obtain ⟨_, D, sd⟩ := hf
  refine ⟨_, pe_dget2 (hu1 hu) A B D mm, fun C H σ δ fp ex K Q R h k => ?_⟩
  refine sa.pureAfter R h fun H1 x r1 R1 s1 q1 h1 => ?_
  obtain ⟨a, rfl, hd⟩ := q1.isD h1.1
  refine ⟨a, rfl, hd, ?_⟩
  refine sb.pureAfter R1 h1.2 fun H2 y r2 R2 s2 q2 h2 => ?_
  refine sd.pureAfter R2 h2 fun H3 z r3 R3 s3 q3 h3 => ?_
  obtain ⟨r, hg, hk⟩ := h3
  have w1 := ((q1.same s2).same s3).wide (L' := fun a => (c0 && (c1 && c2)) = true → Lf C fp ex a) fun a l _ hc => l (Bool.and_eq_true _ _ ▸ hc).1
  have w2 := (q2.same s3).wide (L' := fun a => (c0 && (c1 && c2)) = true → Lf C fp ex a) fun a l _ hc => l (by rw [Bool.and_eq_true, Bool.and_eq_true] at hc; exact hc.2.1)
  have w3 := q3.wide (L' := fun a => (c0 && (c1 && c2)) = true → Lf C fp ex a) fun a l _ hc => l (by rw [Bool.and_eq_true, Bool.and_eq_true] at hc; exact hc.2.2)
  have sm : Same H H3 := fun b o e => s3 _ _ (s2 _ _ (s1 _ _ e))
  have fin : ∀ v, Da X.K H3 (fun a => (c0 && (c1 && c2)) = true → Lf C fp ex a) v r → Q v H3 := fun v q => k H3 v (.fz r) δ fp [] (RE.fz R3 (Stp.same sm sm.al) q) hk
  generalize r1.data = d1 at w1 hg
  unfold gGet2 at hg
  split at hg
  case h_2 => cases hg
  rename_i t kvs
  obtain ⟨ky, e1, hg⟩ := bs hg
  by_cases ht : isTK ky = t
  · rw [if_pos ht] at hg
    cases hg
    obtain ⟨a', ov, ea, _, g, RD⟩ := w1.dget w2 e1 ht
    cases ea
    refine ⟨ov, g, ?_⟩
    rcases RD with ⟨v, d, rfl, hd', q⟩ | ⟨rfl, hd'⟩
    · rw [hd'] at fin
      exact fin v q
    · rw [hd'] at fin
      exact fin z w3
  · rw [if_neg ht] at hg; cases hg
noncomputable def fGet2 (a b c : FE) : FE := fun δ => (a δ).bind fun p => (b p.2).bind fun q => (c q.2).bind fun r => (gGet2 p.1.data q.1.data r.1.data).bind fun d => some (.fz d, r.2)
theorem fe_get2 {fa fb fc : FE} (h : ME X io p c e (mGet2 (o2 fa) (o2 fb) (o2 fc))) : ME X io p c e (o2 (fGet2 fa fb fc)) := h.weak fun δ K z => by
  obtain ⟨r, δ', h, k⟩ := z
  obtain ⟨⟨x, δ1⟩, h1, h⟩ := bs h
  obtain ⟨⟨y, δ2⟩, h2, h⟩ := bs h
  obtain ⟨⟨z, δ3⟩, h3, h⟩ := bs h
  obtain ⟨d, h4, h⟩ := bs h
  cases h
  refine ⟨x, δ1, h1, ?_, y, δ2, h2, z, δ3, h3, d, h4, k⟩
  show isDc x.data = true
  have h4 : gGet2 x.data y.data z.data = some d := h4
  unfold gGet2 at h4
  split at h4
  · rename_i ez; rw [ez]; rfl
  · cases h4
theorem Rel.ownDc {C : MC G} {H : Hp} {σ : St} {δ : DEnv} {fp : Fp} {ex : Addr → Prop} {t : Bool} {ks : List KY} {ds : List PyData} (R : Rel C io H σ δ fp ex) (hi : δ[i]? = some (some (.dc t ks ds))) :
    ∃ a' ob xs, σ[i]? = some (some (.ref a')) ∧ H a' = some (MuO.ho ob) ∧ ob.dic t ks xs ∧ Das G H (Lf C fp ex) xs ds ∧ fp i = [a'] := by
  obtain ⟨v, e, o⟩ := R.own i _ hi
  generalize hf : fp i = as at o
  cases o with
  | dc h k r => exact ⟨_, _, _, e, h, k, r, rfl⟩
theorem Rel.topD {C : MC G} {H : Hp} {σ : St} {δ : DEnv} {fp : Fp} {ex : Addr → Prop} {t : Bool} {ks ks' : List KY} {ds ds' : List PyData} {a' : Addr} {ob ob' : MuO} {ys : List V} (R : Rel C io H σ δ fp ex) (hi : δ[i]? = some (some (.dc t ks ds))) (hv : σ[i]? = some (some (.ref a')))
    (hf : fp i = [a']) (hx : H a' = some ob.ho) (dk : ob'.dic t ks' ys) (o : Das G H (Lf C fp ex) ys ds') :
    Rel C io (upd H a' ob'.ho) σ (δ.set i (some (.dc t ks' ds'))) (fpu fp i [a']) ex ∧ Stp false H δ fp (upd H a' ob'.ho) (δ.set i (some (.dc t ks' ds'))) (fpu fp i [a']) := by
  have hm : a' ∈ fp i := by rw [hf]; exact .head _
  have ne' : ∀ a, ¬ Foot fp a → a ≠ a' := fun a h z => h ⟨i, by rw [z]; exact hm⟩
  have kp : ∀ b o, H b = some o → b ≠ a' → upd H a' ob'.ho b = some o := fun b o e n => by rw [upd_ne n]; exact e
  have sub : ∀ a, a ∈ [a'] → a ∈ fp i := fun a m => by rw [hf]; exact m
  have o' : Das G (upd H a' ob'.ho) (Lf C (fpu fp i [a']) (exu ex [])) ys ds' := by
    have f0 : ∀ a, ¬ Foot fp a → ¬ Foot (fpu fp i [a']) a := fun a h z => by
      rcases z.of_u with z | ⟨j, _, z⟩
      · exact h ⟨i, sub a z⟩
      · exact h ⟨j, z⟩
    refine o.frame (fun a zs l q => ⟨⟨f0 a l.1, fun z => l.2.1 (exu_nil.mp z), l.2.2⟩, ?_⟩) fun a zs q => kp a _ q fun z => ImO.nm q (z ▸ hx)
    rcases q with q | ⟨u, q⟩
    · exact .inl (kp a _ q (ne' a l.1))
    · exact .inr ⟨u, kp a _ q (ne' a l.1)⟩
  have key := R.change (new := []) (as' := [a']) (t' := .dc t ks' ds') (H' := upd H a' ob'.ho) hi hv (fun b o e nb => kp b o e fun z => nb (by rw [z]; exact hm)) (fun b e => by
      by_cases q : b = a'
      · subst q; rw [upd_same] at e; cases e
      · rwa [upd_ne q] at e) (.dc upd_same dk o') (one_nd a') (fun a m => .inl (sub a m)) (fun a m => nomatch m)
  exact ⟨key.1.drop fun a z => .inl z, key.2⟩
noncomputable def mDPut (i : Nat) (m mi : MEt) : MSt := fun D δ => m δ fun r δ1 => match δ1[i]? with
  | some (some (.dc t ks ds)) => mi δ1 fun n _ => match kyOf n.data with
    | some k => (isTK k = t ∧ ks.length < sizeLine) ∧ D.nx (δ1.set i (some (.dc t (dPutK k ks) (dPutV k r.data ks ds))))
    | none => False
  | _ => False
theorem ms_dput (i : Nat) (hu : X.A.units + 64 < cLine) (he : ME X io p true e m) (hj : ME X io true c a mi) (hN : X.N[i]? = some x := by rfl) (hv : Vis X.env.scope x := by first | exact Or.inl rfl | exact Or.inr (Or.inl rfl) | exact Or.inr (Or.inr rfl)) (hd : (x == ("__debug__" : Str)) = false := by decide)
    (hcd : (x == ("__classdict__" : Str)) = false := by decide)
    (hs : swapsWith e (some (.Subscript (.Name x px) a pp)) pos.line X.env = pure false := by rfl) : MS X io (.Assign [.Subscript (.Name x px) a pp] e pos) (mDPut i m mi) := by
  obtain ⟨_, A, s⟩ := he
  obtain ⟨_, B, sj⟩ := hj
  refine ⟨_, ps_dput (hu1 hu) (pv i hN hv hd hcd) B A hs, fun C H σ δ fp ex D D' R h E => ?_⟩
  refine s C H σ δ fp ex _ _ R h fun H1 v r δ1 fp1 new r1 h1 => ?_
  have R1 := r1.base
  have q := (r1.da R).wide (L' := Lf C fp1 ex) fun a l _ => l rfl
  split at h1
  case h_2 => exact h1.elim
  rename_i t ks ds hi
  obtain ⟨a', _, _, hv0, _⟩ := R1.ownDc hi
  refine ⟨_, hv0, ?_⟩
  refine sj.pureAfter R1 h1 fun H2 w n R2 s2 q2 h2 => ?_
  split at h2
  case h_2 => exact h2.elim
  rename_i k hk
  obtain ⟨⟨ht, hl⟩, h2⟩ := h2
  obtain ⟨a2, ob, xs, hv2, hx, dk, o, hf⟩ := R2.ownDc hi
  rw [hv0] at hv2
  cases hv2
  have q' := q.same s2
  have kpp : Kp H1 fp1 H2 fp1 := ⟨fun b o e _ => s2 _ _ e, fun z => (nomatch z), fun a z => .inl z, s2.al⟩
  cases ob with
  | lst _ => exact dk.elim
  | dK kv =>
    obtain ⟨rfl, rfl, rfl⟩ := dk
    rw [List.length_map] at hl
    cases k with
    | inr _ => cases ht
    | inl k =>
      obtain ⟨R3, S3⟩ := R2.topD (ob' := .dK (putK kv k v)) hi hv0 hf hx ⟨rfl, (put_keys inl_inj k v kv).symm, rfl⟩ (put_vals inl_inj k q' kv o)
      exact ⟨a', _, rfl, .inl ⟨kv, k, hx, q2.keyS hk, hl, rfl⟩, E.nx _ σ _ _ R3 (r1.stp.kp.trans (Kp.trans kpp S3.kp)) h2⟩
  | dT kv =>
    obtain ⟨rfl, rfl, rfl⟩ := dk
    rw [List.length_map] at hl
    cases k with
    | inl _ => cases ht
    | inr k =>
      obtain ⟨b', hb, eb⟩ := q2.keyT hk
      obtain ⟨R3, S3⟩ := R2.topD (ob' := .dT (putK kv k v)) hi hv0 hf hx ⟨rfl, (put_keys inr_inj k v kv).symm, rfl⟩ (put_vals inr_inj k q' kv o)
      exact ⟨a', _, rfl, .inr ⟨kv, k, b', hx, hb, eb, hl, rfl⟩, E.nx _ σ _ _ R3 (r1.stp.kp.trans (Kp.trans kpp S3.kp)) h2⟩
noncomputable def fDPut (i : Nat) (e j : FE) : FS := wE e fun r δ1 => match δ1[i]? with
  | some (some (.dc t ks ds)) => wE j (fun n _ => match kyOf n.data with
    | some k => if isTK k = t ∧ ks.length < sizeLine then .nx (δ1.set i (some (.dc t (dPutK k ks) (dPutV k r.data ks ds)))) else .bad
    | none => .bad) δ1
  | _ => .bad
theorem fs_dput {fa fb : FE} {st : Stmt} (h : MS X io st (mDPut i (o2 fa) (o2 fb))) : MS X io st (oS (fDPut i fa fb)) := h.weak fun D δ h => by
  refine (w_wE h).imp fun r δ' z => ?_
  split at z
  case h_2 => exact z.elim
  rename_i q; (try rw [q])
  refine (w_wE z).imp fun n δ2 z => ?_
  split at z
  case h_2 => exact z.elim
  rename_i k q2; (try rw [q2])
  exact ite_fits z
end
end L2
namespace L2
open PySem PySem.Spec PyProof.Rows
variable {G : PySem.W.Frag}
noncomputable def gStr : List PyData → Option PyData := fun ds => match ds with | [.int i] => if i.natAbs.log2 < 1920 then some (.str (toString i)) else none | _ => none
noncomputable def dStr : List PyData → (PyData → Prop) → Prop := fun ds k => ∃ r, gStr ds = some r ∧ k r
theorem b_str : ∀ ds r k, gStr ds = some r → k r → dStr ds k := fun _ r _ h hk => ⟨r, h, hk⟩
theorem pn_str : PNs G (fun xs H Q => ∃ i, xs = [.int i] ∧ i.natAbs.log2 < 1920 ∧ Q (.str (toString i)) H) dStr := fun H L xs ds k Q hx h kk => by
  obtain ⟨r, h, hk⟩ := h
  unfold gStr at h
  split at h
  case h_2 => cases h
  rename_i i
  cases hx with
  | cons q r0 =>
    cases r0
    cases q
    by_cases c : i.natAbs.log2 < 1920
    · rw [if_pos c] at h
      cases h
      exact ⟨i, rfl, c, kk _ _ (.str _) hk⟩
    · rw [if_neg c] at h; cases h
noncomputable def gCatS : PyData → PyData → Option PyData := fun d e => match d, e with | .str x, .str y => if x.length + y.length ≤ sizeLine then some (.str (x ++ y)) else none | _, _ => none
noncomputable def dCatS : PyData → PyData → (PyData → Prop) → Prop := fun d e k => ∃ r, gCatS d e = some r ∧ k r
theorem b_catS : ByS gCatS dCatS := fun _ _ r _ h hk => ⟨r, h, hk⟩
theorem p2_catS : P2s G (fun x y H Q => ∃ i j, x = .str i ∧ y = .str j ∧ i.length + j.length ≤ sizeLine ∧ Q (.str (i ++ j)) H) dCatS := fun H L x y d e k Q hx hy h kk => by
  obtain ⟨r, h, hk⟩ := h
  unfold gCatS at h
  split at h
  case h_2 => cases h
  rename_i i j
  cases hx
  cases hy
  by_cases c : i.length + j.length ≤ sizeLine
  · rw [if_pos c] at h
    cases h
    exact ⟨i, j, rfl, rfl, c, kk _ _ (.str _) hk⟩
  · rw [if_neg c] at h; cases h
noncomputable def gIxS : PyData → PyData → Option OT := fun d e => match d, e with | .str x, .int i => if x.length ≤ sizeLine then (atI x.cps.toList i).map fun c => .fz (.str ⟨#[c]⟩) else none | _, _ => none
noncomputable def dIxS : PyData → PyData → (OT → Prop) → Prop := fun d e k => ∃ r, gIxS d e = some r ∧ k r
theorem b_ixS : ByO gIxS dIxS := fun _ _ r _ h hk => ⟨r, h, hk⟩
theorem p2_ixS : P2 G (rIx G) dIxS := fun H L x y d e k Q hx hy h kk => by
  obtain ⟨r, h, hk⟩ := h
  unfold gIxS at h
  split at h
  case h_2 => cases h
  rename_i z i
  cases hx
  cases hy
  by_cases c : z.length ≤ sizeLine
  · rw [if_pos c] at h
    obtain ⟨ch, h1, rfl⟩ := Option.map_eq_some_iff.mp h
    exact .inr (.inr ⟨z, i, ch, rfl, rfl, c, h1, kk H _ (.fz (.str ⟨#[ch]⟩)) [] (Same.refl _) (.fz (.str _)) .nil (fun a m => nomatch m) hk⟩)
  · rw [if_neg c] at h; cases h
end L2
namespace L2
open PySem PySem.Spec PyProof.Rows
noncomputable def asFz (o : Option (Option OT)) (δ : DEnv) : Option (OT × DEnv) := match o with | some (some (.fz d)) => some (.fz d, δ) | _ => none
theorem asFz_fz (d : PyData) (δ : DEnv) : asFz (some (some (.fz d))) δ = some (.fz d, δ) := rfl
noncomputable def asAny (o : Option (Option OT)) (δ : DEnv) : Option (OT × DEnv) := match o with | some (some t) => some (.fz t.data, δ) | _ => none
theorem asAny_t (t : OT) (δ : DEnv) : asAny (some (some t)) δ = some (.fz t.data, δ) := rfl
theorem fVar_ap (i : Nat) (δ : DEnv) : fVar i δ = asFz δ[i]? δ := rfl
theorem fOwn_ap (i : Nat) (δ : DEnv) : fOwn i δ = asAny δ[i]? δ := rfl
theorem fC_ap (d : PyData) (δ : DEnv) : fC d δ = some (.fz d, δ) := rfl
theorem fBinS_ap (g : PyData → PyData → Option PyData) (a b : FE) (δ : DEnv) : fBinS g a b δ = (a δ).bind fun p => (b p.2).bind fun q => (g p.1.data q.1.data).bind fun d => some (.fz d, q.2) := rfl
theorem fBin_ap (g : PyData → PyData → Option OT) (a b : FE) (δ : DEnv) : fBin g a b δ = (a δ).bind fun p => (b p.2).bind fun q => (g p.1.data q.1.data).bind fun d => some (d, q.2) := rfl
theorem fUn_ap (g : PyData → Option PyData) (a : FE) (δ : DEnv) : fUn g a δ = (a δ).bind fun p => (g p.1.data).bind fun d => some (.fz d, p.2) := rfl
noncomputable def onB {α : Type} (d : PyData) (x y : Option α) : Option α := match d with | .bool true => x | .bool false => y | _ => none
theorem onB_t {α : Type} (x y : Option α) : onB (.bool true) x y = x := rfl
theorem onB_f {α : Type} (x y : Option α) : onB (.bool false) x y = y := rfl
theorem fAnd_ap (a b : FE) (δ : DEnv) : fAnd a b δ = (a δ).bind fun p => onB p.1.data (b p.2) (some (.fz (.bool false), p.2)) := by
  unfold fAnd onB
  cases a δ with
  | none => rfl
  | some p => first | rfl | (simp only [Option.bind_some]; done) | (simp only [Option.bind_some]; generalize p.1.data = d; cases d <;> first | rfl | (rename_i b; cases b <;> rfl))
theorem fOr_ap (a b : FE) (δ : DEnv) : fOr a b δ = (a δ).bind fun p => onB p.1.data (some (.fz (.bool true), p.2)) (b p.2) := by
  unfold fOr onB
  cases a δ with
  | none => rfl
  | some p => first | rfl | (simp only [Option.bind_some]; done) | (simp only [Option.bind_some]; generalize p.1.data = d; cases d <;> first | rfl | (rename_i b; cases b <;> rfl))
theorem fIf_ap (t : FT) (a b : FE) (δ : DEnv) : fIf t a b δ = (t δ).bind fun p => if p.1 = true then a p.2 else b p.2 := rfl
noncomputable def asB' (t : OT) (δ : DEnv) : Option (Bool × DEnv) := match t with | .fz (.bool b) => some (b, δ) | _ => none
theorem asB'_b (b : Bool) (δ : DEnv) : asB' (.fz (.bool b)) δ = some (b, δ) := rfl
theorem tV_ap (e : FE) (δ : DEnv) : tV e δ = (e δ).bind fun p => asB' p.1 p.2 := by
  unfold tV asB'
  cases e δ with
  | none => rfl
  | some p => rfl
theorem tNo_ap (t : FT) (δ : DEnv) : tNo t δ = (t δ).bind fun p => some (!p.1, p.2) := rfl
theorem tAn_ap (t u : FT) (δ : DEnv) : tAn t u δ = (t δ).bind fun p => if p.1 = true then u p.2 else some (false, p.2) := rfl
theorem tO_ap (t u : FT) (δ : DEnv) : tO t u δ = (t δ).bind fun p => if p.1 = true then some (true, p.2) else u p.2 := rfl
theorem tD_ap (e : FE) (δ : DEnv) : tD e δ = (e δ).bind fun p => (truD p.1.data).bind fun b => some (b, p.2) := rfl
theorem tYes_ap (δ : DEnv) : tYes δ = some (true, δ) := rfl
theorem aNil_ap (δ : DEnv) : aNil δ = some ([], δ) := rfl
theorem aCons_ap (e : FE) (a : FA) (δ : DEnv) : aCons e a δ = (e δ).bind fun p => (a p.2).bind fun q => some (p.1 :: q.1, q.2) := rfl
theorem fTup_ap (a : FA) (δ : DEnv) : fTup a δ = (a δ).bind fun p => if p.1.length ≤ sizeLine then some (.fz (.tuple (OT.datas p.1)), p.2) else none := rfl
theorem fLst_ap (a : FA) (δ : DEnv) : fLst a δ = (a δ).bind fun p => if p.1.length ≤ sizeLine then some (.nd p.1, p.2) else none := rfl
theorem fTupO_ap (a : FA) (δ : DEnv) : fTupO a δ = (a δ).bind fun p => if p.1.length ≤ sizeLine then some (.tp p.1, p.2) else none := rfl
theorem fFlat_ap (e : FE) (δ : DEnv) : fFlat e δ = (e δ).bind fun p => if flatD p.1.data = true then some (.fz p.1.data, p.2) else none := rfl
theorem fFlatT_ap (e : FE) (δ : DEnv) : fFlatT e δ = (e δ).bind fun p => if flatT p.1 = true then some (p.1, p.2) else none := rfl
noncomputable def okO (x : RF) (δ : DEnv) : Option (OT × DEnv) := match x with | .ok r => some (r, δ) | _ => none
theorem okO_ok (r : OT) (δ : DEnv) : okO (.ok r) δ = some (r, δ) := rfl
theorem fCall_ap (F : FD) (a : FA) (δ : DEnv) : fCall F a δ = (a δ).bind fun p => okO (F (OT.datas p.1)) p.2 := by
  unfold fCall okO
  cases a δ with
  | none => rfl
  | some p => rfl
noncomputable def atO {α : Type} (o : Option (Option OT)) (k : OT → Option α) : Option α := match o with | some (some t) => k t | _ => none
theorem atO_t {α : Type} (t : OT) (k : OT → Option α) : atO (some (some t)) k = k t := rfl
theorem fCallI_ap (i : Nat) (F : FIO) (a : FA) (δ : DEnv) : fCallI i F a δ = atO δ[i]? fun _ => (a δ).bind fun p => atO p.2[i]? fun t => (F t (OT.datas p.1)).bind fun q => some (q.1, p.2.set i (some q.2)) := by
  unfold fCallI
  generalize δ[i]? = o
  rcases o with _ | _ | t
  · rfl
  · rfl
  · show (a δ).bind _ = (a δ).bind _
    cases a δ with
    | none => rfl
    | some p =>
      show (fun o : Option (Option OT) => (match o with | some (some t) => (F t (OT.datas p.1)).bind fun q => some (q.1, p.2.set i (some q.2)) | _ => none)) p.2[i]? = atO p.2[i]? _
      generalize p.2[i]? = o
      rcases o with _ | _ | t <;> rfl
theorem fBlS_ap (g : List PyData → Option PyData) (a : FA) (δ : DEnv) : fBlS g a δ = (a δ).bind fun p => (g (OT.datas p.1)).bind fun d => some (.fz d, p.2) := rfl
theorem fBl_ap (g : List PyData → Option OT) (a : FA) (δ : DEnv) : fBl g a δ = (a δ).bind fun p => (g (OT.datas p.1)).bind fun d => some (d, p.2) := rfl
theorem fIsi_ap (T : String) (e : FE) (δ : DEnv) : fIsi T e δ = (e δ).bind fun p => if isFnD p.1.data = true then none else some (.fz (.bool (isTy T p.1.data)), p.2) := rfl
theorem oN_ap (δ : DEnv) : oN δ = some (none, δ) := rfl
noncomputable def asInt {α : Type} (d : PyData) (k : Int → Option α) : Option α := match d with | .int i => k i | _ => none
theorem asInt_i {α : Type} (i : Int) (k : Int → Option α) : asInt (.int i) k = k i := rfl
noncomputable def asLst {α : Type} (d : PyData) (k : List PyData → Option α) : Option α := match d with | .list i => k i | _ => none
theorem asLst_l {α : Type} (i : List PyData) (k : List PyData → Option α) : asLst (.list i) k = k i := rfl
noncomputable def asTup {α : Type} (d : PyData) (k : List PyData → Option α) : Option α := match d with | .tuple i => k i | _ => none
theorem asTup_t {α : Type} (i : List PyData) (k : List PyData → Option α) : asTup (.tuple i) k = k i := rfl
theorem oI_ap (e : FE) (δ : DEnv) : oI e δ = (e δ).bind fun p => asInt p.1.data fun i => some (some i, p.2) := by
  unfold oI asInt
  cases e δ with
  | none => rfl
  | some p => rfl
theorem fSl_ap (e : FE) (lo hi : FO) (δ : DEnv) : fSl e lo hi δ = (e δ).bind fun p => (lo p.2).bind fun q => (hi q.2).bind fun r => asLst p.1.data fun ds => some (.nd ((cutD ds q.1 r.1).map OT.fz), r.2) := by
  unfold fSl asLst; rfl
theorem iLst_ap (e : FE) (δ : DEnv) : iLst e δ = (e δ).bind fun p => asLst p.1.data fun ds => some (ds, p.2) := by
  unfold iLst asLst; rfl
theorem iTp_ap (e : FE) (δ : DEnv) : iTp e δ = (e δ).bind fun p => asTup p.1.data fun ds => some (ds, p.2) := by
  unfold iTp asTup; rfl
noncomputable def as1 {α : Type} (ds : List PyData) (k : Int → Option α) : Option α := match ds with | [.int i] => k i | _ => none
theorem as1_i {α : Type} (i : Int) (k : Int → Option α) : as1 [.int i] k = k i := rfl
noncomputable def as2 {α : Type} (ds : List PyData) (k : Int → Int → Option α) : Option α := match ds with | [.int i, .int j] => k i j | _ => none
theorem as2_i {α : Type} (i j : Int) (k : Int → Int → Option α) : as2 [.int i, .int j] k = k i j := rfl
theorem iRa_ap (a : FA) (δ : DEnv) : iRa a δ = (a δ).bind fun p => as1 (OT.datas p.1) fun j => if rOk j = true then some (rngD 0 j.toNat, p.2) else none := by
  unfold iRa as1; rfl
theorem iRb_ap (a : FA) (δ : DEnv) : iRb a δ = (a δ).bind fun p => as2 (OT.datas p.1) fun i j => if (rOk i && rOk j) = true then some (rngD i (j - i).toNat, p.2) else none := by
  unfold iRb as2; rfl
theorem fLR1_ap (a : FA) (δ : DEnv) : fLR1 a δ = (a δ).bind fun p => as1 (OT.datas p.1) fun j => if rOk j = true ∧ j.toNat ≤ sizeLine then some (.nd ((rngD 0 j.toNat).map OT.fz), p.2) else none := by
  unfold fLR1 as1; rfl
theorem fRep_ap (a b : FE) (δ : DEnv) : fRep a b δ = (a δ).bind fun p => (b p.2).bind fun q => asInt q.1.data fun k => if rOk k = true ∧ k.toNat ≤ sizeLine then some (.nd (List.replicate k.toNat (.fz p.1.data)), p.2) else none := by
  unfold fRep asInt; rfl
noncomputable def asLL {α : Type} (ds : List PyData) (k : List PyData → List PyData → Option α) : Option α := match ds with | [.list i, .list j] => k i j | _ => none
theorem asLL_i {α : Type} (i j : List PyData) (k : List PyData → List PyData → Option α) : asLL [.list i, .list j] k = k i j := rfl
theorem iZip2_ap (a : FA) (δ : DEnv) : iZip2 a δ = (a δ).bind fun p => asLL (OT.datas p.1) fun as bs => some (zipD as bs, p.2) := by
  unfold iZip2 asLL; rfl
theorem gNm_ap (i : Nat) (d : PyData) (δ : DEnv) : gNm i d δ = some (δ.set i (some (.fz d))) := rfl
theorem gNmS_ap (i : Nat) (d : PyData) (δ : DEnv) : gNmS i d δ = if flatD d = true then some (δ.set i (some (.fz d))) else none := rfl
theorem gNl_ap (δ : DEnv) : gNl [] δ = some δ := rfl
theorem gCn_ap (g : FG) (gs : FGs) (d : PyData) (r : List PyData) (δ : DEnv) : gCn g gs (d :: r) δ = (g d δ).bind (gs r) := rfl
theorem gTp_ap (n : Nat) (gs : FGs) (ds : List PyData) (δ : DEnv) : gTp n gs (.tuple ds) δ = if ds.length = n then gs ds δ else none := rfl
theorem gLs_ap (n : Nat) (gs : FGs) (ds : List PyData) (δ : DEnv) : gLs n gs (.list ds) δ = if ds.length = n then gs ds δ else none := rfl
noncomputable def RS.thn (r : RS) (g : FS) : RS := match r with | .nx δ => g δ | r => r
theorem thn_nx (δ : DEnv) (g : FS) : (RS.nx δ).thn g = g δ := rfl
theorem thn_rt (r : OT) (δ : DEnv) (g : FS) : (RS.rt r δ).thn g = .rt r δ := rfl
theorem thn_bk (δ : DEnv) (g : FS) : (RS.bk δ).thn g = .bk δ := rfl
theorem thn_ct (δ : DEnv) (g : FS) : (RS.ct δ).thn g = .ct δ := rfl
theorem thn_ex (c : Str) (δ : DEnv) (g : FS) : (RS.ex c δ).thn g = .ex c δ := rfl
theorem fSeq_ap (f g : FS) (δ : DEnv) : fSeq f g δ = (f δ).thn g := rfl
theorem fNx_ap (δ : DEnv) : fNx δ = .nx δ := rfl
theorem fBrk_ap (δ : DEnv) : fBrk δ = .bk δ := rfl
theorem fCnt_ap (δ : DEnv) : fCnt δ = .ct δ := rfl
theorem fRaise_ap (c : Str) (δ : DEnv) : fRaise c δ = .ex c δ := rfl
theorem fRetN_ap (δ : DEnv) : fRetN δ = .rt (.fz .none) δ := rfl
noncomputable def onO {α : Type} (o : Option (α × DEnv)) (k : α → DEnv → RS) : RS := match o with | some (r, δ') => k r δ' | none => .bad
theorem onO_some {α : Type} (r : α) (δ : DEnv) (k : α → DEnv → RS) : onO (some (r, δ)) k = k r δ := rfl
theorem wE_ap (e : FE) (k : OT → DEnv → RS) (δ : DEnv) : wE e k δ = onO (e δ) k := by
  unfold wE onO
  cases e δ <;> rfl
noncomputable def onF (x : RF) (δ : DEnv) (k : OT → DEnv → RS) : RS := match x with | .ok r => k r δ | .exn c => .ex c δ | .bad => .bad
theorem onF_ok (r : OT) (δ : DEnv) (k : OT → DEnv → RS) : onF (.ok r) δ k = k r δ := rfl
theorem onF_ex (c : Str) (δ : DEnv) (k : OT → DEnv → RS) : onF (.exn c) δ k = .ex c δ := rfl
theorem wX_ap (F : FD) (a : FA) (k : OT → DEnv → RS) (δ : DEnv) : wX F a k δ = onO (a δ) fun rs δ1 => onF (F (OT.datas rs)) δ1 k := by
  unfold wX onO onF
  cases a δ with
  | none => rfl
  | some p => rfl
theorem fIfS_ap (t : FT) (u w : FS) (δ : DEnv) : fIfS t u w δ = onO (t δ) fun b δ' => if b = true then u δ' else w δ' := by
  unfold fIfS onO
  cases t δ <;> rfl
theorem fFor_ap (it : FI) (g : FG) (u : FS) (δ : DEnv) : fFor it g u δ = onO (it δ) fun ds δ1 => forLoop g u ds δ1 := by
  unfold fFor onO
  cases it δ <;> rfl
theorem kDrop_ap (r : OT) (δ : DEnv) : kDrop r δ = .nx δ := rfl
theorem kRet_ap (r : OT) (δ : DEnv) : kRet r δ = .rt r δ := rfl
theorem kRetS_ap (r : OT) (δ : DEnv) : kRetS r δ = if flatD r.data = true then .rt (.fz r.data) δ else .bad := rfl
theorem kSet_ap (i : Nat) (r : OT) (δ : DEnv) : kSet i r δ = .nx (δ.set i (some (.fz r.data))) := rfl
theorem kSetS_ap (i : Nat) (r : OT) (δ : DEnv) : kSetS i r δ = if flatD r.data = true then .nx (δ.set i (some (.fz r.data))) else .bad := rfl
theorem kSetO_ap (i : Nat) (r : OT) (δ : DEnv) : kSetO i r δ = .nx (δ.set i (some r)) := rfl
noncomputable def onD (o : Option DEnv) : RS := match o with | some δ => .nx δ | none => .bad
theorem onD_some (δ : DEnv) : onD (some δ) = .nx δ := rfl
theorem kAsg_ap (g : FG) (r : OT) (δ : DEnv) : kAsg g r δ = onD (g r.data δ) := rfl
noncomputable def onT (o : Option (Option OT)) (k : OT → RS) : RS := match o with | some (some t) => k t | _ => .bad
theorem onT_t (t : OT) (k : OT → RS) : onT (some (some t)) k = k t := rfl
theorem fRetO_ap (i : Nat) (δ : DEnv) : fRetO i δ = onT δ[i]? fun t => .rt t (δ.set i none) := rfl
theorem fFreeze_ap (i : Nat) (u : FS) (δ : DEnv) : fFreeze i u δ = onT δ[i]? fun t => u (δ.set i (some (.fz t.data))) := rfl
noncomputable def onN (o : Option (Option OT)) (k : List OT → RS) : RS := match o with | some (some (.nd ts)) => k ts | _ => .bad
theorem onN_t (t : List OT) (k : List OT → RS) : onN (some (some (.nd t))) k = k t := rfl
theorem fAppend_ap (i : Nat) (e : FE) (δ : DEnv) : fAppend i e δ = onN δ[i]? fun _ => onO (e δ) fun r δ1 => onN δ1[i]? fun ts => if ts.length < sizeLine then .nx (δ1.set i (some (.nd (ts ++ [.fz r.data])))) else .bad := by
  unfold fAppend
  generalize δ[i]? = o
  rcases o with _ | _ | (_ | _ | _ | _)
  · rfl
  · rfl
  · rfl
  · show wE e _ δ = onO (e δ) _
    rw [wE_ap]
    congr 1
  · rfl
  · rfl
theorem fAppendO_ap (i : Nat) (e : FE) (δ : DEnv) : fAppendO i e δ = onN δ[i]? fun _ => onO (e δ) fun r δ1 => onN δ1[i]? fun ts => if ts.length < sizeLine then .nx (δ1.set i (some (.nd (ts ++ [r])))) else .bad := by
  unfold fAppendO
  generalize δ[i]? = o
  rcases o with _ | _ | (_ | _ | _ | _)
  · rfl
  · rfl
  · rfl
  · show wE e _ δ = onO (e δ) _
    rw [wE_ap]
    congr 1
  · rfl
  · rfl
noncomputable def onI (d : PyData) (k : Int → RS) : RS := match d with | .int i => k i | _ => .bad
theorem onI_i (i : Int) (k : Int → RS) : onI (.int i) k = k i := rfl
noncomputable def onX (o : Option Nat) (k : Nat → RS) : RS := match o with | some i => k i | _ => .bad
theorem onX_s (i : Nat) (k : Nat → RS) : onX (some i) k = k i := rfl
theorem fPut_ap (i : Nat) (e j : FE) (δ : DEnv) : fPut i e j δ = onO (e δ) fun r δ1 => onN δ1[i]? fun ts => onO (j δ1) fun n _ => onI n.data fun k => onX (ixN ts.length k) fun j => .nx (δ1.set i (some (.nd (ts.set j (.fz r.data))))) := by
  unfold fPut
  rw [wE_ap]
  congr 1
  funext r δ1
  generalize δ1[i]? = o
  rcases o with _ | _ | (_ | _ | _ | _)
  · rfl
  · rfl
  · rfl
  · show wE j _ δ1 = onO (j δ1) _
    rw [wE_ap]
    congr 1
    funext n δ2
    generalize n.data = d
    cases d <;> try rfl
    show (match ixN _ _ with | some j => _ | none => _) = onX (ixN _ _) _
    generalize ixN _ _ = x
    cases x <;> rfl
  · rfl
  · rfl
noncomputable def onU (o : Option OT) (k : List OT → RS) : RS := match o with | some (.nd ts) => k ts | _ => .bad
theorem onU_t (t : List OT) (k : List OT → RS) : onU (some (.nd t)) k = k t := rfl
noncomputable def onP (o : Option (Option OT)) (k : List OT → RS) : RS := match o with | some (some (.tp ts)) => k ts | _ => .bad
theorem onP_t (t : List OT) (k : List OT → RS) : onP (some (some (.tp t))) k = k t := rfl
theorem fAppAt_ap (i c : Nat) (e : FE) (δ : DEnv) : fAppAt i c e δ = onP δ[i]? fun ts => onU ts[c]? fun us => onO (e δ) fun r _ => if us.length < sizeLine then .nx (δ.set i (some (.tp (ts.set c (.nd (us ++ [.fz r.data])))))) else .bad := by
  unfold fAppAt
  generalize δ[i]? = o
  rcases o with _ | _ | (_ | _ | ts | _)
  · rfl
  · rfl
  · rfl
  · rfl
  · show (match ts[c]? with | some (.nd us) => wE e _ δ | _ => _) = onU ts[c]? _
    generalize ts[c]? = o
    rcases o with _ | (_ | _ | _ | _)
    · rfl
    · rfl
    · show wE e _ δ = onO (e δ) _
      rw [wE_ap]
    · rfl
    · rfl
  · rfl
noncomputable def on2 (ds : List PyData) (k : PyData → PyData → RS) : RS := match ds with | [d, e] => k d e | _ => .bad
theorem on2_d (d e : PyData) (k : PyData → PyData → RS) : on2 [d, e] k = k d e := rfl
theorem fPar_ap (i j : Nat) (a : FA) (δ : DEnv) : fPar i j a δ = onO (a δ) fun rs δ1 => on2 (OT.datas rs) fun d e => .nx ((δ1.set i (some (.fz d))).set j (some (.fz e))) := by
  unfold fPar onO on2
  cases a δ <;> rfl
theorem runD_ap {np n : Nat} {S : FS} {ds : List PyData} (h : ds.length = np) : runD np n S ds = (S (startN n ds)).told := by
  unfold runD; rw [if_pos h]
theorem runI_ap {np n : Nat} {S : FS} {t : OT} {ds : List PyData} (h : ds.length + 1 = np) : runI np n S t ds = (S (startIN n t ds)).toldI := by
  unfold runI; rw [if_pos h]
theorem told_nx (δ : DEnv) : (RS.nx δ).told = .ok (.fz .none) := rfl
theorem told_rt (r : OT) (δ : DEnv) : (RS.rt r δ).told = .ok r := rfl
theorem told_ex (c : Str) (δ : DEnv) : (RS.ex c δ).told = .exn c := rfl
theorem gAdd_i (i j : Int) : gAdd (.int i) (.int j) = some (.int (i + j)) := rfl
theorem gSb_i (i j : Int) : gSb (.int i) (.int j) = some (.int (i - j)) := rfl
theorem gLt_i (i j : Int) : gLt (.int i) (.int j) = some (.bool (decide (i < j))) := rfl
theorem gLe_i (i j : Int) : gLe (.int i) (.int j) = some (.bool (decide (i ≤ j))) := rfl
theorem gGt_i (i j : Int) : gGt (.int i) (.int j) = some (.bool (decide (j < i))) := rfl
theorem gGe_i (i j : Int) : gGe (.int i) (.int j) = some (.bool (decide (j ≤ i))) := rfl
theorem gMul_i {i j : Int} (h : mulB i j = true) : gMul (.int i) (.int j) = some (.int (i * j)) := by
  unfold gMul i2c; dsimp only; rw [if_pos h]
theorem gFdiv_i {i j : Int} (h : divB i j = true) : gFdiv (.int i) (.int j) = some (.int (i.fdiv j)) := by
  unfold gFdiv i2c; dsimp only; rw [if_pos h]
theorem gMod_i {i j : Int} (h : j ≠ 0) : gMod (.int i) (.int j) = some (.int (i.fmod j)) := by
  unfold gMod i2c modB; dsimp only; rw [if_pos (decide_eq_true h)]
theorem mulB_bt {m n : Nat} {x y : Int} (h : Bt m x) (k : Bt n y) (hmn : m + n ≤ 100000000 := by decide) : mulB x y = true := mulB_iff.mpr (h.mulOk k hmn)
theorem mulB_l {x y : Int} (h : x.natAbs < 2 ^ 64) : mulB x y = true := mulB_iff.mpr (.of_left (intBits_le_64 (by omega) (by omega)))
theorem mulB_r {x y : Int} (h : y.natAbs < 2 ^ 64) : mulB x y = true := mulB_iff.mpr (.of_right (intBits_le_64 (by omega) (by omega)))
theorem divB_bt {n : Nat} {i j : Int} (h0 : j ≠ 0) (h : Bt n j) (hn : n ≤ 9000 := by decide) : divB i j = true := by
  obtain ⟨h1, h2⟩ := DivOk.of (i := i) h0 h hn
  unfold divB
  rw [decide_eq_true h1, decide_eq_true h2]; rfl
theorem gEq_i (i j : Int) : gEq (.int i) (.int j) = some (.bool (decide (i = j))) := by
  show some (PyData.bool (i == j)) = _
  rw [show (i == j) = decide (i = j) from rfl]
theorem gNe_i (i j : Int) : gNe (.int i) (.int j) = some (.bool (!decide (i = j))) := by
  show some (PyData.bool (!(i == j))) = _
  rw [show (i == j) = decide (i = j) from rfl]
theorem gIs_n (d : PyData) : gIs d .none = some (.bool (isNoneD d)) := rfl
theorem gIsNot_n (d : PyData) : gIsNot d .none = some (.bool (!isNoneD d)) := rfl
theorem gIx_l (ds : List PyData) (i : Int) : gIx (.list ds) (.int i) = (atI ds i).bind fun x => some (.fz x) := rfl
theorem gIx_t (ds : List PyData) (i : Int) : gIx (.tuple ds) (.int i) = (atI ds i).bind fun x => some (.fz x) := rfl
theorem gLen_l (ds : List PyData) : gLen [.list ds] = some (.int ds.length) := rfl
theorem gLen_t (ds : List PyData) : gLen [.tuple ds] = some (.int ds.length) := rfl
theorem gAbs_i (i : Int) : gAbs [.int i] = some (.int (i.natAbs : Int)) := by
  show some (PyData.int (if i < 0 then -i else i)) = _
  congr 2; split <;> omega
theorem gMax_i (i j : Int) : gMax [.int i, .int j] = some (.int (if j > i then j else i)) := rfl
theorem gMin_i (i j : Int) : gMin [.int i, .int j] = some (.int (if j < i then j else i)) := rfl
theorem gInt_i (i : Int) : gInt [.int i] = some (.int i) := rfl
theorem gInt_b (b : Bool) : gInt [.bool b] = some (.int (if b then 1 else 0)) := rfl
theorem gList_l (ds : List PyData) : gList [.list ds] = some (.nd (ds.map OT.fz)) := rfl
theorem gList_t (ds : List PyData) : gList [.tuple ds] = some (.nd (ds.map OT.fz)) := rfl
theorem negD_i (i : Int) : negD (.int i) = some (.int (-i)) := rfl
theorem notD_b (b : Bool) : notD (.bool b) = some (.bool (!b)) := rfl
theorem truD_b (b : Bool) : truD (.bool b) = some b := rfl
theorem truD_i (i : Int) : truD (.int i) = some (i != 0) := rfl
theorem truD_n : truD .none = some false := rfl
theorem truD_l (ds : List PyData) : truD (.list ds) = some (!ds.isEmpty) := rfl
noncomputable def Goes (r : RS) (Q : DEnv → Prop) : Prop := ∃ δ, (r = .nx δ ∨ r = .ct δ) ∧ Q δ
theorem Goes.nx {δ : DEnv} {Q : DEnv → Prop} (h : Q δ) : Goes (.nx δ) Q := ⟨δ, .inl rfl, h⟩
theorem Goes.ct {δ : DEnv} {Q : DEnv → Prop} (h : Q δ) : Goes (.ct δ) Q := ⟨δ, .inr rfl, h⟩
theorem two_s : (2 ≤ sizeLine) = True := by simp [sizeLine_eq]
theorem one_s : (1 ≤ sizeLine) = True := by simp [sizeLine_eq]
theorem nil_s : (0 ≤ sizeLine) = True := by simp
theorem three_s : (3 ≤ sizeLine) = True := by simp [sizeLine_eq]
theorem map_fz_map {α : Type} (f : α → PyData) (xs : List α) : (xs.map fun x => OT.fz (f x)).map OT.data = xs.map f := by
  rw [List.map_map]; exact List.map_congr_left fun x _ => OT.data_fz _
theorem rng1_if {α : Type} {j : Int} {x : α} (h0 : 0 ≤ j) (h1 : j ≤ 1000000) : (if rOk j = true then some x else none) = some x := if_pos (rOk_of (by omega) h1)
theorem app_if {r : RS} {k : Nat} (h : k ≤ 1000000) : (if k < sizeLine then r else .bad) = r := if_pos (by rw [sizeLine_eq]; omega)
end L2
namespace L2
open PySem PySem.Spec PyProof.Rows
noncomputable def EvV (e : FE) (δ : DEnv) (d : PyData) : Prop := ∃ t, e δ = some (t, δ) ∧ t.data = d
noncomputable def EvA (a : FA) (δ : DEnv) (ds : List PyData) : Prop := ∃ ts, a δ = some (ts, δ) ∧ OT.datas ts = ds
noncomputable def EvT (t : FT) (δ : DEnv) (b : Bool) : Prop := t δ = some (b, δ)
noncomputable def Told (F : FD) (ds : List PyData) (d : PyData) : Prop := ∃ t, F ds = .ok t ∧ t.data = d
section
variable {e a b : FE} {as : FA} {δ δ' : DEnv} {x y d : PyData} {xs ds : List PyData} {i j : Nat} {p q : Bool} {t u : FT} {S S' : FS} {r : RS}
theorem EvV.cast {e : FE} {δ : DEnv} {x y : PyData} (h : EvV e δ x) (k : x = y) : EvV e δ y := k ▸ h
theorem ev_var (h : δ[i]? = some (some (.fz d)) := by rfl) : EvV (fVar i) δ d := ⟨_, by rw [fVar_ap, h, asFz_fz], OT.data_fz _⟩
theorem ev_own {t : OT} (h : δ[i]? = some (some t)) (hd : t.data = d) : EvV (fOwn i) δ d := ⟨_, by rw [fOwn_ap, h, asAny_t], by rw [OT.data_fz, hd]⟩
theorem ev_c : EvV (fC d) δ d := ⟨_, rfl, OT.data_fz _⟩
theorem ev_binS {g : PyData → PyData → Option PyData} (ha : EvV a δ x) (hb : EvV b δ y) (h : g x y = some d) : EvV (fBinS g a b) δ d := by
  obtain ⟨_, e1, d1⟩ := ha
  obtain ⟨_, e2, d2⟩ := hb
  exact ⟨_, by rw [fBinS_ap, e1, Option.bind_some, e2, Option.bind_some, d1, d2, h, Option.bind_some], OT.data_fz _⟩
theorem ev_bin {g : PyData → PyData → Option OT} {o : OT} (ha : EvV a δ x) (hb : EvV b δ y) (h : g x y = some o) (hd : o.data = d) : EvV (fBin g a b) δ d := by
  obtain ⟨_, e1, d1⟩ := ha
  obtain ⟨_, e2, d2⟩ := hb
  exact ⟨_, by rw [fBin_ap, e1, Option.bind_some, e2, Option.bind_some, d1, d2, h, Option.bind_some], hd⟩
theorem ev_ix (ha : EvV a δ x) (hb : EvV b δ y) (h : gIx x y = some (.fz d)) : EvV (fBin gIx a b) δ d := ev_bin ha hb h (OT.data_fz _)
theorem ev_add {i j : Int} (ha : EvV a δ (.int i)) (hb : EvV b δ (.int j)) : EvV (fBinS gAdd a b) δ (.int (i + j)) := ev_binS ha hb rfl
theorem ev_sub {i j : Int} (ha : EvV a δ (.int i)) (hb : EvV b δ (.int j)) : EvV (fBinS gSb a b) δ (.int (i - j)) := ev_binS ha hb rfl
theorem ev_un {g : PyData → Option PyData} (ha : EvV a δ x) (h : g x = some d) : EvV (fUn g a) δ d := by
  obtain ⟨_, e1, d1⟩ := ha
  exact ⟨_, by rw [fUn_ap, e1, Option.bind_some, d1, h, Option.bind_some], OT.data_fz _⟩
theorem ev_isi {T : String} (ha : EvV a δ x) (hf : isFnD x = false := by rfl) : EvV (fIsi T a) δ (.bool (isTy T x)) := by
  obtain ⟨_, e1, d1⟩ := ha
  exact ⟨_, by rw [fIsi_ap, e1, Option.bind_some, d1, if_neg (by rw [hf]; decide)], OT.data_fz _⟩
theorem ea_nil : EvA aNil δ [] := ⟨_, rfl, datas_nil⟩
theorem ea_cons (h : EvV e δ d) (k : EvA as δ ds) : EvA (aCons e as) δ (d :: ds) := by
  obtain ⟨_, e1, d1⟩ := h
  obtain ⟨_, e2, d2⟩ := k
  exact ⟨_, by rw [aCons_ap, e1, Option.bind_some, e2, Option.bind_some], by rw [datas_cons, d1, d2]⟩
theorem ev_call {F : FD} (h : EvA as δ ds) (k : Told F ds d) : EvV (fCall F as) δ d := by
  obtain ⟨_, e1, d1⟩ := h
  obtain ⟨_, e2, d2⟩ := k
  exact ⟨_, by rw [fCall_ap, e1, Option.bind_some, d1, e2, okO_ok], d2⟩
theorem ev_blS {g : List PyData → Option PyData} (h : EvA as δ ds) (k : g ds = some d) : EvV (fBlS g as) δ d := by
  obtain ⟨_, e1, d1⟩ := h
  exact ⟨_, by rw [fBlS_ap, e1, Option.bind_some, d1, k, Option.bind_some], OT.data_fz _⟩
theorem datas_len : ∀ ts : List OT, (OT.datas ts).length = ts.length
  | [] => by rw [datas_nil]; rfl
  | t :: ts => by rw [datas_cons, List.length_cons, List.length_cons, datas_len ts]
theorem datas_map : ∀ ts : List OT, OT.datas ts = ts.map OT.data
  | [] => datas_nil
  | t :: ts => by rw [datas_cons, List.map_cons, datas_map ts]
theorem ev_tup (h : EvA as δ ds) (hl : ds.length ≤ 1000) : EvV (fTup as) δ (.tuple ds) := by
  obtain ⟨ts, e1, d1⟩ := h
  have := datas_len ts
  rw [d1] at this
  exact ⟨_, by rw [fTup_ap, e1, Option.bind_some, if_pos (by rw [sizeLine_eq]; show ts.length ≤ _; omega)], by rw [OT.data_fz]; exact congrArg _ d1⟩
theorem ev_lst (h : EvA as δ ds) (hl : ds.length ≤ 1000) : EvV (fLst as) δ (.list ds) := by
  obtain ⟨ts, e1, d1⟩ := h
  have := datas_len ts
  rw [d1] at this
  exact ⟨_, by rw [fLst_ap, e1, Option.bind_some, if_pos (by rw [sizeLine_eq]; show ts.length ≤ _; omega)], by rw [OT.data_nd, ← datas_map, d1]⟩
theorem bool_data {o : OT} {b : Bool} (h : o.data = .bool b) : o = .fz (.bool b) := by
  cases o with
  | fz d => rw [OT.data_fz] at h; rw [h]
  | nd ts => rw [OT.data_nd] at h; cases h
  | tp ts => rw [OT.data_tp] at h; cases h
  | dc _ _ _ => rw [OT.data_dc] at h; cases h
theorem et_V (h : EvV e δ (.bool p)) : EvT (tV e) δ p := by
  obtain ⟨_, e1, d1⟩ := h
  unfold EvT
  rw [tV_ap, e1, Option.bind_some, bool_data d1, asB'_b]
theorem et_D (h : EvV e δ d) (k : truD d = some p) : EvT (tD e) δ p := by
  obtain ⟨_, e1, d1⟩ := h
  unfold EvT
  rw [tD_ap, e1, Option.bind_some, d1, k, Option.bind_some]
theorem et_Db (h : EvV e δ (.bool p)) : EvT (tD e) δ p := et_D h rfl
theorem et_no (h : EvT t δ p) : EvT (tNo t) δ (!p) := by
  unfold EvT at h ⊢
  rw [tNo_ap, h, Option.bind_some]
theorem et_o (h : EvT t δ false) (k : EvT u δ p) : EvT (tO t u) δ p := by
  unfold EvT at h k ⊢
  rw [tO_ap, h, Option.bind_some, if_neg Bool.false_ne_true, k]
theorem et_o_t (h : EvT t δ true) : EvT (tO t u) δ true := by
  unfold EvT at h ⊢
  rw [tO_ap, h, Option.bind_some, if_pos rfl]
theorem es_seq (h : S δ = .nx δ') (k : S' δ' = r) : fSeq S S' δ = r := by rw [fSeq_ap, h, thn_nx, k]
theorem es_seq_rt {o : OT} (h : S δ = .rt o δ') : fSeq S S' δ = .rt o δ' := by rw [fSeq_ap, h, thn_rt]
theorem es_set (h : EvV e δ d) : wE e (kSet i) δ = .nx (δ.set i (some (.fz d))) := by
  obtain ⟨_, e1, d1⟩ := h
  rw [wE_ap, e1, onO_some, kSet_ap, d1]
theorem es_ret (h : EvV e δ d) : ∃ o, wE e kRet δ = .rt o δ ∧ o.data = d := by
  obtain ⟨_, e1, d1⟩ := h
  exact ⟨_, by rw [wE_ap, e1, onO_some, kRet_ap], d1⟩
theorem es_if_t (h : EvT t δ true) (k : S δ = r) : fIfS t S S' δ = r := by
  unfold EvT at h
  rw [fIfS_ap, h, onO_some, if_pos rfl, k]
theorem es_if_f (h : EvT t δ false) (k : S' δ = r) : fIfS t S S' δ = r := by
  unfold EvT at h
  rw [fIfS_ap, h, onO_some, if_neg (by decide), k]
noncomputable def Rets (S : FS) (δ : DEnv) (d : PyData) : Prop := ∃ o δ', S δ = .rt o δ' ∧ o.data = d
theorem rt_seq (h : S δ = .nx δ') (k : Rets S' δ' d) : Rets (fSeq S S') δ d := by
  obtain ⟨o, δ2, e, hd⟩ := k
  exact ⟨o, δ2, es_seq h e, hd⟩
theorem rt_first (k : Rets S δ d) : Rets (fSeq S S') δ d := by
  obtain ⟨o, δ2, e, hd⟩ := k
  exact ⟨o, δ2, es_seq_rt e, hd⟩
theorem rt_ret (h : EvV e δ d) : Rets (wE e kRet) δ d := by
  obtain ⟨o, e1, hd⟩ := es_ret h
  exact ⟨o, δ, e1, hd⟩
theorem rt_if_t (h : EvT t δ true) (k : Rets S δ d) : Rets (fIfS t S S') δ d := by
  obtain ⟨o, δ2, e, hd⟩ := k
  exact ⟨o, δ2, es_if_t h e, hd⟩
theorem told_of {np n : Nat} (hl : xs.length = np) (k : Rets S (startN n xs) d) : Told (runD np n S) xs d := by
  obtain ⟨o, δ2, e, hd⟩ := k
  exact ⟨o, by rw [runD_ap hl, e, told_rt], hd⟩
noncomputable def EvI (it : FI) (δ : DEnv) (ds : List PyData) : Prop := it δ = some (ds, δ)
theorem ei_lst (h : EvV e δ (.list ds)) : EvI (iLst e) δ ds := by
  obtain ⟨_, e1, d1⟩ := h
  unfold EvI
  rw [iLst_ap, e1, Option.bind_some, d1, asLst_l]
theorem ei_ra {n : Nat} (h : EvA as δ [.int n]) (hn : n ≤ 1000000) : EvI (iRa as) δ (rngD 0 n) := by
  obtain ⟨_, e1, d1⟩ := h
  unfold EvI
  rw [iRa_ap, e1, Option.bind_some, d1, as1_i, rng1_if (by omega) (by omega), Int.toNat_natCast]
theorem es_app {ts : List OT} (h : EvV e δ d) (hi : δ[i]? = some (some (.nd ts))) (hl : ts.length ≤ 1000000) : fAppend i e δ = .nx (δ.set i (some (.nd (ts ++ [.fz d])))) := by
  obtain ⟨_, e1, d1⟩ := h
  rw [fAppend_ap, hi, onN_t, e1, onO_some, hi, onN_t, app_if hl, d1]
theorem es_setO {o : OT} (h : e δ = some (o, δ)) : wE e (kSetO i) δ = .nx (δ.set i (some o)) := by rw [wE_ap, h, onO_some, kSetO_ap]
theorem es_freeze {o : OT} (h : δ[i]? = some (some o)) (k : S (δ.set i (some (.fz o.data))) = r) : fFreeze i S δ = r := by rw [fFreeze_ap, h, onT_t, k]
theorem Told.ok {F : FD} {b : Bool} (h : Told F ds (.bool b)) : F ds = .ok (.fz (.bool b)) := by
  obtain ⟨o, e1, d1⟩ := h
  rw [e1, bool_data d1]
theorem int_data {o : OT} {i : Int} (h : o.data = .int i) : o = .fz (.int i) := by
  cases o with
  | fz d => rw [OT.data_fz] at h; rw [h]
  | nd ts => rw [OT.data_nd] at h; cases h
  | tp ts => rw [OT.data_tp] at h; cases h
  | dc _ _ _ => rw [OT.data_dc] at h; cases h
theorem Told.int {F : FD} {i : Int} (h : Told F ds (.int i)) : F ds = .ok (.fz (.int i)) := by
  obtain ⟨o, e1, d1⟩ := h
  rw [e1, int_data d1]
theorem none_data {o : OT} (h : o.data = .none) : o = .fz .none := by
  cases o with
  | fz d => rw [OT.data_fz] at h; rw [h]
  | nd ts => rw [OT.data_nd] at h; cases h
  | tp ts => rw [OT.data_tp] at h; cases h
  | dc _ _ _ => rw [OT.data_dc] at h; cases h
theorem Told.of {F : FD} {o : OT} (h : F ds = .ok o) (hd : o.data = d) : Told F ds d := ⟨o, h, hd⟩
end
end L2
namespace L2
open PySem PySem.Spec PyProof.Rows
section
variable {e a b : FE} {as : FA} {δ δ' : DEnv} {x y d : PyData} {xs ds : List PyData} {i j : Int} {k : Nat} {p q : Bool} {t u : FT} {S S' : FS} {r : RS} {Q : PyData → Prop}
theorem ev_mod (ha : EvV a δ (.int i)) (hb : EvV b δ (.int j)) (h : j ≠ 0) : EvV (fBinS gMod a b) δ (.int (i.fmod j)) := ev_binS ha hb (gMod_i h)
theorem fdiv_c {i j : Int} (h : (decide (0 < j) && decide (j < 18446744073709551616)) = true) : gFdiv (.int i) (.int j) = some (.int (i.fdiv j)) := by
  rw [Bool.and_eq_true, decide_eq_true_eq, decide_eq_true_eq] at h
  exact gFdiv_i (divB_bt (n := 64) (by omega) (Bt.of_lt (by omega) (by omega)))
theorem ev_fdiv (ha : EvV a δ (.int i)) (hb : EvV b δ (.int j)) (h : (decide (0 < j) && decide (j < 18446744073709551616)) = true := by decide) : EvV (fBinS gFdiv a b) δ (.int (i.fdiv j)) := ev_binS ha hb (fdiv_c h)
theorem ev_mulL (ha : EvV a δ (.int i)) (hb : EvV b δ (.int j)) (h : i.natAbs < 2 ^ 64 := by decide) : EvV (fBinS gMul a b) δ (.int (i * j)) := ev_binS ha hb (gMul_i (mulB_l h))
theorem ev_mulR (ha : EvV a δ (.int i)) (hb : EvV b δ (.int j)) (h : j.natAbs < 2 ^ 64 := by decide) : EvV (fBinS gMul a b) δ (.int (i * j)) := ev_binS ha hb (gMul_i (mulB_r h))
theorem ev_lt (ha : EvV a δ (.int i)) (hb : EvV b δ (.int j)) (h : decide (i < j) = p) : EvV (fBinS gLt a b) δ (.bool p) := h ▸ ev_binS ha hb rfl
theorem ev_gt (ha : EvV a δ (.int i)) (hb : EvV b δ (.int j)) (h : decide (j < i) = p) : EvV (fBinS gGt a b) δ (.bool p) := h ▸ ev_binS ha hb (gGt_i _ _)
theorem ev_ge (ha : EvV a δ (.int i)) (hb : EvV b δ (.int j)) (h : decide (j ≤ i) = p) : EvV (fBinS gGe a b) δ (.bool p) := h ▸ ev_binS ha hb (gGe_i _ _)
theorem ev_eq (ha : EvV a δ (.int i)) (hb : EvV b δ (.int j)) (h : decide (i = j) = p) : EvV (fBinS gEq a b) δ (.bool p) := h ▸ ev_binS ha hb (gEq_i _ _)
theorem ev_ne (ha : EvV a δ (.int i)) (hb : EvV b δ (.int j)) (h : (!decide (i = j)) = p) : EvV (fBinS gNe a b) δ (.bool p) := h ▸ ev_binS ha hb (gNe_i _ _)
theorem ev_neg (ha : EvV a δ (.int i)) : EvV (fUn negD a) δ (.int (-i)) := ev_un ha (negD_i _)
theorem ev_len {ds : List PyData} (h : EvV e δ (.list ds)) : EvV (fBlS gLen (aCons e aNil)) δ (.int ds.length) := ev_blS (ea_cons h ea_nil) (gLen_l ds)
theorem ev_atI (ha : EvV a δ (.list ds)) (hb : EvV b δ (.int i)) (h : atI ds i = some d) : EvV (fBin gIx a b) δ d := ev_ix ha hb (by rw [gIx_l, h]; rfl)
theorem fmod_nn {i : Int} (h : 0 < j) : 0 ≤ i.fmod j := by rw [fmod_pos h]; exact Int.emod_nonneg _ (by omega)
theorem fmod_lt {i : Int} (h : 0 < j) : i.fmod j < j := by rw [fmod_pos h]; exact Int.emod_lt_of_pos _ h
theorem ev_isT {T : String} (ha : EvV a δ x) (h : isTy T x = p) (hf : isFnD x = false := by rfl) : EvV (fIsi T a) δ (.bool p) := (ev_isi ha hf).cast (by rw [h])
theorem Told.none {F : FD} (h : Told F ds .none) : F ds = .ok (.fz .none) := by
  obtain ⟨o, e1, d1⟩ := h
  rw [e1, none_data d1]
end
end L2
namespace My
open PySem L2 PySem.Spec
noncomputable def S_greatest_divisor_46d9 : FS :=
  (fSeq (wE (fBlS gAbs (aCons (fVar 0) aNil)) (kSet 0))
    (fSeq (wE (fBlS gAbs (aCons (fVar 1) aNil)) (kSet 1))
    (fSeq (fWhile (tV (fBinS gNe (fVar 1) (fC (.int 0)))) (fSeq (wE (fBinS gMod (fVar 0) (fVar 1)) (kSet 2))
    (fSeq (wE (fVar 1) (kSet 0))
    (wE (fVar 2) (kSet 1)))))
    (wE (fVar 0) kRet))))
noncomputable def F_greatest_divisor_46d9 : FD := runD 2 3 S_greatest_divisor_46d9
theorem gcd_loop {f1 f2 : Int → Int → Option OT → DEnv} {t : FT} {u : FS} (ht : ∀ x y z, t (f1 x y z) = some (!decide (y = 0), f1 x y z)) (hu : ∀ x y z, y ≠ 0 → ∃ z', u (f1 x y z) = .nx (f1 y (x.fmod y) z')) :
    ∀ (n : Nat) (x y : Int) (z : Option OT), 0 ≤ x → 0 ≤ y → y.toNat < n → ∃ z', whileLoop t u n (f1 x y z) = .nx (f1 (Int.gcd x y : Int) 0 z')
  | 0, _, _, _, _, _, h => absurd h (Nat.not_lt_zero _)
  | n + 1, x, y, z, hx, hy, h => by
    unfold whileLoop
    rw [ht]
    dsimp only
    by_cases c : y = 0
    · subst c
      refine ⟨z, ?_⟩
      simp only [decide_true, Bool.not_true, Bool.false_eq_true, if_false]
      rw [Int.gcd_zero_right]
      congr 2
      omega
    · simp only [c, decide_false, Bool.not_false, if_true]
      obtain ⟨z1, e1⟩ := hu x y z c
      rw [e1]
      dsimp only
      have hm : x.fmod y = x % y := fmod_pos (by omega)
      have h1 : 0 ≤ x % y := Int.emod_nonneg x c
      have h2 : x % y < y := Int.emod_lt_of_pos x (by omega)
      obtain ⟨z2, e2⟩ := gcd_loop (f1 := f1) (f2 := f2) ht hu n y (x.fmod y) z1 hy (by omega) (by omega)
      exact ⟨z2, by rw [e2, gcd_step hx (by omega)]⟩
theorem greatest_divisor_ok (a b : Int) : F_greatest_divisor_46d9 [.int a, .int b] = .ok (.fz (.int (Int.gcd a b : Int))) := by
  obtain ⟨z', e⟩ := gcd_loop (f1 := fun x y z => [some (.fz (.int x)), some (.fz (.int y)), z]) (f2 := fun x y z => []) (t := tV (fBinS gNe (fVar 1) (fC (.int 0)))) (u := fSeq (wE (fBinS gMod (fVar 0) (fVar 1)) (kSet 2)) (fSeq (wE (fVar 1) (kSet 0)) (wE (fVar 2) (kSet 1)))) (fun x y z => et_V (ev_ne ev_var ev_c rfl)) (fun x y z hy => ⟨_, es_seq (es_set (ev_mod ev_var ev_var hy)) (es_seq (es_set ev_var) (es_set ev_var))⟩) ((b.natAbs : Int).toNat + 1) (a.natAbs : Int) (b.natAbs : Int) none (by omega) (by omega) (by omega)
  rw [Int.gcd_eq_natAbs_gcd_natAbs, Int.natAbs_natCast, Int.natAbs_natCast] at e
  exact Told.int <| told_of rfl <| rt_seq (es_set (ev_blS (ea_cons ev_var ea_nil) (gAbs_i a))) <| rt_seq (es_set (ev_blS (ea_cons ev_var ea_nil) (gAbs_i b))) <| rt_seq (fWhile_eq _ e (by intro z; cases z)) (rt_ret ev_var)
noncomputable def S_in_least_2747 : FS :=
  (fSeq (wE (fCall F_greatest_divisor_46d9 (aCons (fVar 0) (aCons (fVar 1) aNil))) (kSet 2))
    (fSeq (fIfS (tV (fBinS gLt (fVar 1) (fC (.int 0))))
    (wE (fUn negD (fVar 2)) (kSet 2))
    fNx)
    (wE (fTup (aCons (fBinS gFdiv (fVar 0) (fVar 2)) (aCons (fBinS gFdiv (fVar 1) (fVar 2)) aNil))) kRet)))
noncomputable def F_in_least_2747 : FD := runD 2 3 S_in_least_2747
theorem fr_le {n : Nat} {t b : Int} (hb : b ≠ 0) (hB : Bt n b) (hn : n ≤ 9000) (s : Int) (e : s = shr t b) : gFdiv (.int t) (.int s) = some (.int (Rat.divInt t b).num) ∧ gFdiv (.int b) (.int s) = some (.int ((Rat.divInt t b).den : Int)) := by
  subst e
  rw [gFdiv_i (divB_bt (shr_ne hb) (shr_bt hb hB) hn), gFdiv_i (divB_bt (shr_ne hb) (shr_bt hb hB) hn), low_num hb, low_den hb]
  exact ⟨rfl, rfl⟩
theorem in_least_ok {n : Nat} {t b : Int} (hb : b ≠ 0) (hB : Bt n b) (hn : n ≤ 9000 := by decide) : Told F_in_least_2747 [.int t, .int b] (frD (Rat.divInt t b)) := by
  have fin : ∀ {δ : DEnv} {s : Int}, s = shr t b → δ[0]? = some (some (.fz (.int t))) → δ[1]? = some (some (.fz (.int b))) → δ[2]? = some (some (.fz (.int s))) → Rets (wE (fTup (aCons (fBinS gFdiv (fVar 0) (fVar 2)) (aCons (fBinS gFdiv (fVar 1) (fVar 2)) aNil))) kRet) δ (frD (Rat.divInt t b)) := fun e h0 h1 h2 => by
    obtain ⟨e1, e2⟩ := fr_le hb hB hn _ e
    exact rt_ret (ev_tup (ea_cons (ev_binS (ev_var h0) (ev_var h2) e1) (ea_cons (ev_binS (ev_var h1) (ev_var h2) e2) ea_nil)) (show 2 ≤ 1000 by decide))
  have g : Told F_greatest_divisor_46d9 [.int t, .int b] _ := .of (greatest_divisor_ok t b) (OT.data_fz _)
  by_cases c : b < 0
  · exact told_of rfl <| rt_seq (es_set (ev_call (ea_cons ev_var (ea_cons ev_var ea_nil)) g)) <| rt_seq (es_if_t (et_V (ev_lt ev_var ev_c (decide_eq_true c))) (es_set (ev_neg ev_var))) (fin (by unfold shr; rw [if_pos c]) rfl rfl rfl)
  · exact told_of rfl <| rt_seq (es_set (ev_call (ea_cons ev_var (ea_cons ev_var ea_nil)) g)) <| rt_seq (es_if_f (et_V (ev_lt ev_var ev_c (decide_eq_false c))) rfl) (fin (by unfold shr; rw [if_neg c]) rfl rfl rfl)
noncomputable def S_is_whole_593d : FS :=
  (wE (fAnd (fIsi "int" (fVar 0)) (fUn notD (fIsi "bool" (fVar 0)))) kRet)
noncomputable def F_is_whole_593d : FD := runD 1 1 S_is_whole_593d
noncomputable def S_fraction_a12d : FS :=
  (fSeq (fIfS (tO (tNo (tD (fCall F_is_whole_593d (aCons (fVar 0) aNil)))) (tO (tNo (tD (fCall F_is_whole_593d (aCons (fVar 1) aNil)))) (tV (fBinS gEq (fVar 1) (fC (.int 0))))))
    (fRaise "NoNumber")
    fNx)
    (wE (fCall F_in_least_2747 (aCons (fVar 0) (aCons (fVar 1) aNil))) kRet))
noncomputable def F_fraction_a12d : FD := runD 2 2 S_fraction_a12d
noncomputable def S_shared_bottom_9ffc : FS :=
  (fSeq (wE (fC (.int 1)) (kSet 1))
    (fSeq (fFor (iLst (fVar 0)) (gNm 2)
    (wE (fBinS gMul (fBinS gFdiv (fVar 1) (fCall F_greatest_divisor_46d9 (aCons (fVar 1) (aCons (fBin gIx (fVar 2) (fC (.int 1))) aNil)))) (fBin gIx (fVar 2) (fC (.int 1)))) (kSet 1)))
    (wE (fVar 1) kRet)))
noncomputable def F_shared_bottom_9ffc : FD := runD 1 3 S_shared_bottom_9ffc
noncomputable def prD (p : Int × Int) : PyData := .tuple [.int p.1, .int p.2]
noncomputable def S_table_bottom_a5f2 : FS :=
  (fSeq (wE (fC (.int 1)) (kSet 1))
    (fSeq (fFor (iLst (fVar 0)) (gNm 2)
    (wE (fCall F_shared_bottom_9ffc (aCons (fBin gCat (fLst (aCons (fTup (aCons (fC (.int 1)) (aCons (fVar 1) aNil))) aNil)) (fVar 2)) aNil)) (kSet 1)))
    (wE (fVar 1) kRet)))
noncomputable def F_table_bottom_a5f2 : FD := runD 1 3 S_table_bottom_a5f2
noncomputable def S_tops_over_2cfa : FS :=
  (wE (fComp 1 [0] (iLst (fVar 1)) (gNm 0) tYes (fBinS gMul (fBin gIx (fVar 0) (fC (.int 0))) (fBinS gFdiv (fVar 1) (fBin gIx (fVar 0) (fC (.int 1)))))) kRet)
noncomputable def F_tops_over_2cfa : FD := runD 2 2 S_tops_over_2cfa
noncomputable def S_table_over_45d9 : FS :=
  (wE (fComp 1 [0] (iLst (fVar 1)) (gNm 0) tYes (fCall F_tops_over_2cfa (aCons (fVar 1) (aCons (fVar 0) aNil)))) kRet)
noncomputable def F_table_over_45d9 : FD := runD 2 2 S_table_over_45d9
noncomputable def S_pairs_of_c302 : FS :=
  (fSeq (wE (fLst aNil) (kSetO 1))
    (fSeq (fFor (iRa (aCons (fVar 0) aNil)) (gNm 2)
    (fFor (iRb (aCons (fBinS gAdd (fVar 2) (fC (.int 1))) (aCons (fVar 0) aNil))) (gNm 3)
    (fAppend 1 (fTup (aCons (fVar 2) (aCons (fVar 3) aNil))))))
    (fRetO 1)))
noncomputable def F_pairs_of_c302 : FD := runD 1 4 S_pairs_of_c302
end My
namespace My
open PySem L2 PySem.Spec
noncomputable def S_law_pool_7d17 : FS :=
  (fSeq (wE (fC (.int 0)) (kSet 2))
    (fSeq (fIfS (tV (fBinS gLt (fVar 1) (fBlS gLen (aCons (fVar 0) aNil))))
    (wE (fBin gIx (fVar 0) (fVar 1)) (kSet 2))
    fNx)
    (fSeq (fIfS (tV (fBinS gGe (fVar 2) (fBinS gPow (fC (.int 10)) (fC (.int 18)))))
    (wE (fLst (aCons (fBinS gSb (fVar 2) (fBinS gPow (fC (.int 10)) (fC (.int 18)))) (aCons (fC (.int 1)) (aCons (fC (.int 0)) aNil)))) kRet)
    fNx)
    (wE (fLst (aCons (fVar 2) (aCons (fC (.int 0)) (aCons (fBinS gMul (fC (.int 23)) (fVar 1)) aNil)))) kRet))))
noncomputable def F_law_pool_7d17 : FD := runD 2 3 S_law_pool_7d17
noncomputable def S_law_take_cd1a : FS :=
  (fSeq (fIfS (tV (fBinS gEq (fBin gIx (fOwn 0) (fC (.int 1))) (fC (.int 1))))
    (fSeq (wE (fBinS gMod (fBin gIx (fOwn 0) (fC (.int 0))) (fVar 1)) (kSet 2))
    (fSeq (fPut 0 (fBinS gFdiv (fBin gIx (fOwn 0) (fC (.int 0))) (fVar 1)) (fC (.int 0)))
    (wE (fVar 2) kRet)))
    fNx)
    (fSeq (fPut 0 (fBinS gAdd (fBin gIx (fOwn 0) (fC (.int 2))) (fC (.int 1))) (fC (.int 2)))
    (fSeq (wE (fBin gIx (fOwn 0) (fC (.int 2))) (kSetS 3))
    (fSeq (wE (fBinS gMul (fBinS gAdd (fBinS gMod (fBin gIx (fOwn 0) (fC (.int 0))) (fC (.int 9999999641))) (fC (.int 953))) (fBinS gAdd (fBinS gMul (fC (.int 17)) (fVar 3)) (fC (.int 43)))) (kSet 4))
    (fSeq (wE (fBinS gAdd (fVar 4) (fBinS gMul (fBinS gMul (fC (.int 3413)) (fVar 3)) (fVar 3))) (kSet 4))
    (fSeq (wE (fBinS gMod (fBinS gMul (fVar 4) (fVar 4)) (fC (.int 99999999683))) (kSet 4))
    (wE (fBinS gMod (fBinS gFdiv (fBinS gMod (fBinS gMul (fVar 4) (fBinS gAdd (fVar 4) (fC (.int 29)))) (fC (.int 99999999959))) (fC (.int 73))) (fVar 1)) kRet)))))))
noncomputable def F_law_take_cd1a : FIO := runI 2 5 S_law_take_cd1a
noncomputable def S_law_figures_2068 : FS :=
  (fSeq (wE (fC (.int 0)) (kSet 1))
    (fSeq (fFor (iRa (aCons (fBin gIx (fLst (aCons (fC (.int 1)) (aCons (fC (.int 2)) (aCons (fC (.int 3)) (aCons (fC (.int 5)) aNil))))) (fCallI 0 F_law_take_cd1a (aCons (fC (.int 4)) aNil))) aNil)) (gNm 2)
    (wE (fBinS gAdd (fBinS gMul (fVar 1) (fBinS gPow (fC (.int 10)) (fC (.int 9)))) (fCallI 0 F_law_take_cd1a (aCons (fBinS gPow (fC (.int 10)) (fC (.int 9))) aNil))) (kSet 1)))
    (wE (fBinS gMod (fVar 1) (fBinS gPow (fC (.int 10)) (fC (.int 40)))) kRet)))
noncomputable def F_law_figures_2068 : FIO := runI 1 3 S_law_figures_2068
noncomputable def S_law_lowest_4ce7 : FS :=
  (fSeq (wE (fBlS gAbs (aCons (fVar 0) aNil)) (kSet 2))
    (fSeq (wE (fBlS gAbs (aCons (fVar 1) aNil)) (kSet 3))
    (fSeq (fWhile (tV (fBinS gNe (fVar 3) (fC (.int 0)))) (fPar 2 3 (aCons (fVar 3) (aCons (fBinS gMod (fVar 2) (fVar 3)) aNil))))
    (fSeq (fIfS (tV (fBinS gLt (fVar 1) (fC (.int 0))))
    (wE (fBinS gSb (fC (.int 0)) (fVar 2)) (kSet 2))
    fNx)
    (wE (fTup (aCons (fBinS gFdiv (fVar 0) (fVar 2)) (aCons (fBinS gFdiv (fVar 1) (fVar 2)) aNil))) kRet)))))
noncomputable def F_law_lowest_4ce7 : FD := runD 2 4 S_law_lowest_4ce7
noncomputable def S_law_q_8717 : FS :=
  (fSeq (wE (fBinS gSb (fC (.int 1)) (fBinS gMul (fC (.int 2)) (fCallI 0 F_law_take_cd1a (aCons (fC (.int 2)) aNil)))) (kSet 1))
    (fSeq (wE (fCallI 0 F_law_take_cd1a (aCons (fC (.int 6)) aNil)) (kSet 2))
    (fSeq (fIfS (tV (fBinS gEq (fVar 2) (fC (.int 0))))
    (wE (fTup (aCons (fC (.int 0)) (aCons (fC (.int 1)) aNil))) kRet)
    fNx)
    (fSeq (fIfS (tV (fBinS gLt (fVar 2) (fC (.int 4))))
    (wE (fCall F_law_lowest_4ce7 (aCons (fBinS gMul (fVar 1) (fCallI 0 F_law_take_cd1a (aCons (fC (.int 13)) aNil))) (aCons (fBin gIx (fLst (aCons (fC (.int 1)) (aCons (fC (.int 1)) (aCons (fC (.int 2)) (aCons (fC (.int 3)) (aCons (fC (.int 6)) aNil)))))) (fCallI 0 F_law_take_cd1a (aCons (fC (.int 5)) aNil))) aNil))) kRet)
    fNx)
    (wE (fCall F_law_lowest_4ce7 (aCons (fBinS gMul (fVar 1) (fCallI 0 F_law_figures_2068 aNil)) (aCons (fBin gIx (fLst (aCons (fC (.int 1)) (aCons (fBinS gAdd (fC (.int 1)) (fBinS gMod (fCallI 0 F_law_figures_2068 aNil) (fBinS gSb (fBinS gPow (fC (.int 10)) (fC (.int 40))) (fC (.int 1))))) aNil))) (fBinS gSb (fVar 2) (fC (.int 4)))) aNil))) kRet)))))
noncomputable def F_law_q_8717 : FIO := runI 1 3 S_law_q_8717
noncomputable def S_law_text_a903 : FS :=
  (fSeq (wE (fC (.str "")) (kSet 1))
    (fSeq (wE (fBlS gAbs (aCons (fVar 0) aNil)) (kSet 2))
    (fSeq (fWhile (tO (tV (fBinS gGt (fVar 2) (fC (.int 0)))) (tV (fBinS gEq (fVar 1) (fC (.str ""))))) (fSeq (wE (fBinS gCatS (fBin gIxS (fC (.str "0123456789")) (fBinS gMod (fVar 2) (fC (.int 10)))) (fVar 1)) (kSet 1))
    (wE (fBinS gFdiv (fVar 2) (fC (.int 10))) (kSet 2))))
    (wE (fBinS gCatS (fBin gIx (fLst (aCons (fC (.str "")) (aCons (fC (.str "-")) aNil))) (fBlS gInt (aCons (fBinS gLt (fVar 0) (fC (.int 0))) aNil))) (fVar 1)) kRet))))
noncomputable def F_law_text_a903 : FD := runD 1 3 S_law_text_a903
noncomputable def S_plus_b155 : FS :=
  (wE (fCall F_in_least_2747 (aCons (fBinS gAdd (fBinS gMul (fBin gIx (fVar 0) (fC (.int 0))) (fBin gIx (fVar 1) (fC (.int 1)))) (fBinS gMul (fBin gIx (fVar 1) (fC (.int 0))) (fBin gIx (fVar 0) (fC (.int 1))))) (aCons (fBinS gMul (fBin gIx (fVar 0) (fC (.int 1))) (fBin gIx (fVar 1) (fC (.int 1)))) aNil))) kRet)
noncomputable def F_plus_b155 : FD := runD 2 2 S_plus_b155
noncomputable def S_show_fraction_50aa : FS :=
  (fSeq (wE (fBlS gStr (aCons (fBin gIx (fVar 0) (fC (.int 0))) aNil)) (kSet 1))
    (fSeq (fIfS (tV (fBinS gEq (fBin gIx (fVar 0) (fC (.int 1))) (fC (.int 1))))
    (wE (fVar 1) kRet)
    fNx)
    (wE (fBinS gCatS (fBinS gCatS (fVar 1) (fC (.str "/"))) (fBlS gStr (aCons (fBin gIx (fVar 0) (fC (.int 1))) aNil))) kRet)))
noncomputable def F_show_fraction_50aa : FD := runD 1 2 S_show_fraction_50aa
noncomputable def S_times_1f0d : FS :=
  (wE (fCall F_in_least_2747 (aCons (fBinS gMul (fBin gIx (fVar 0) (fC (.int 0))) (fBin gIx (fVar 1) (fC (.int 0)))) (aCons (fBinS gMul (fBin gIx (fVar 0) (fC (.int 1))) (fBin gIx (fVar 1) (fC (.int 1)))) aNil))) kRet)
noncomputable def F_times_1f0d : FD := runD 2 2 S_times_1f0d
noncomputable def S_law_1faf : FS :=
  (fSeq (wE (fDict false) (kSetO 1))
    (fSeq (fFor (iRa (aCons (fBlS gMax (aCons (fC (.int 1)) (aCons (fBlS gMin (aCons (fC (.int 30)) (aCons (fBlS gLen (aCons (fVar 0) aNil)) aNil))) aNil))) aNil)) (gNm 2)
    (fSeq (wE (fCall F_law_pool_7d17 (aCons (fVar 0) (aCons (fVar 2) aNil))) (kSetO 3))
    (fSeq (wE (fCallI 3 F_law_q_8717 aNil) (kSet 4))
    (fSeq (wE (fLst (aCons (fVar 4) (aCons (fTup (aCons (fBinS gSb (fC (.int 0)) (fBin gIx (fVar 4) (fC (.int 0)))) (aCons (fBin gIx (fVar 4) (fC (.int 1))) aNil))) (aCons (fTup (aCons (fBin gIx (fVar 4) (fC (.int 0))) (aCons (fC (.int 1)) aNil))) (aCons (fTup (aCons (fBin gIx (fVar 4) (fC (.int 1))) (aCons (fC (.int 1)) aNil))) (aCons (fCall F_plus_b155 (aCons (fVar 4) (aCons (fCallI 3 F_law_q_8717 aNil) aNil))) (aCons (fCall F_times_1f0d (aCons (fVar 4) (aCons (fVar 4) aNil))) aNil))))))) (kSetO 5))
    (fSeq (fIfS (tV (fBinS gGt (fBin gIx (fVar 4) (fC (.int 0))) (fC (.int 0))))
    (fAppend 5 (fTup (aCons (fBin gIx (fVar 4) (fC (.int 1))) (aCons (fBin gIx (fVar 4) (fC (.int 0))) aNil))))
    fNx)
    (fFreeze 5 (fFor (iLst (fVar 5)) (gNm 6)
    (fSeq (wE (fCall F_law_text_a903 (aCons (fBin gIx (fVar 6) (fC (.int 0))) aNil)) (kSet 7))
    (fSeq (fIfS (tV (fBinS gNe (fBin gIx (fVar 6) (fC (.int 1))) (fC (.int 1))))
    (wE (fBinS gCatS (fBinS gCatS (fVar 7) (fC (.str "/"))) (fCall F_law_text_a903 (aCons (fBin gIx (fVar 6) (fC (.int 1))) aNil))) (kSet 7))
    fNx)
    (fSeq (wE (fCall F_show_fraction_50aa (aCons (fVar 6) aNil)) (kSet 8))
    (fSeq (fIfS (tO (tNo (tD (fIsi "str" (fVar 8)))) (tO (tV (fBinS gNe (fVar 8) (fVar 7))) (tV (fBinS gNe (fGet2 (fOwn 1) (fVar 8) (fVar 6)) (fVar 6)))))
    (wE (fC (.bool false)) kRet)
    fNx)
    (fDPut 1 (fVar 6) (fVar 8)))))))))))))
    (wE (fBinS gEq (fCall F_show_fraction_50aa (aCons (fTup (aCons (fC (.int 0)) (aCons (fC (.int 1)) aNil))) aNil)) (fC (.str "0"))) kRet)))
noncomputable def F_law_1faf : FD := runD 1 9 S_law_1faf
end My
namespace My
open PySem L2 PySem.Spec
noncomputable def S_law_cell_at_2443 : FS :=
  (fSeq (fIfS (tV (fBinS gLt (fVar 1) (fBlS gLen (aCons (fVar 0) aNil))))
    (wE (fBin gIx (fVar 0) (fVar 1)) kRet)
    fNx)
    (wE (fC (.int 0)) kRet))
noncomputable def F_law_cell_at_2443 : FD := runD 2 2 S_law_cell_at_2443
noncomputable def S_law_size_ad24 : FS :=
  (fSeq (fIfS (tV (fBinS gEq (fBinS gMod (fBinS gFdiv (fVar 0) (fC (.int 7))) (fC (.int 8))) (fC (.int 3))))
    (wE (fBinS gAdd (fBinS gAdd (fVar 2) (fC (.int 1))) (fBinS gMod (fBinS gFdiv (fVar 0) (fC (.int 56))) (fBinS gSb (fVar 3) (fVar 2)))) kRet)
    fNx)
    (wE (fBinS gAdd (fVar 1) (fBinS gMod (fVar 0) (fBinS gSb (fBinS gAdd (fVar 2) (fC (.int 1))) (fVar 1)))) kRet))
noncomputable def F_law_size_ad24 : FD := runD 4 4 S_law_size_ad24
noncomputable def S_law_stir_60a2 : FS :=
  (fSeq (wE (fBinS gMod (fBinS gMul (fBinS gAdd (fBinS gAdd (fBinS gMod (fVar 0) (fC (.int 2147483629))) (fBinS gMul (fC (.int 9973)) (fVar 1))) (fC (.int 5))) (fC (.int 48271))) (fC (.int 2147483647))) (kSet 2))
    (fSeq (wE (fBinS gMod (fBinS gMul (fVar 2) (fVar 2)) (fC (.int 2147483587))) (kSet 2))
    (wE (fBinS gFdiv (fBinS gMod (fBinS gMul (fBinS gAdd (fVar 2) (fBinS gMul (fC (.int 7919)) (fVar 1))) (fC (.int 16807))) (fC (.int 2147483563))) (fC (.int 8))) kRet)))
noncomputable def F_law_stir_60a2 : FD := runD 2 3 S_law_stir_60a2
noncomputable def S_law_numbers_5134 : FS :=
  (fSeq (wE (fLst aNil) (kSetO 2))
    (fSeq (wE (fVar 0) (kSet 3))
    (fSeq (fFor (iRa (aCons (fVar 1) aNil)) (gNm 4)
    (fSeq (wE (fCall F_law_stir_60a2 (aCons (fVar 0) (aCons (fVar 4) aNil))) (kSet 5))
    (fSeq (fIfS (tV (fBinS gGe (fVar 0) (fBinS gPow (fC (.int 10)) (fC (.int 18)))))
    (wE (fBinS gMod (fVar 3) (fC (.int 720720))) (kSet 5))
    fNx)
    (fSeq (wE (fBinS gFdiv (fVar 3) (fC (.int 720720))) (kSet 3))
    (fAppend 2 (fVar 5))))))
    (fRetO 2))))
noncomputable def F_law_numbers_5134 : FD := runD 2 6 S_law_numbers_5134
noncomputable def intsL (p : List Int) : PyData := .list (p.map PyData.int)
theorem atI_ints {p : List Int} {i : Int} (h0 : 0 ≤ i) (h1 : i < p.length) : atI (p.map PyData.int) i = some (.int (p.getD i.toNat 0)) := by
  rw [atI_nn h0, List.getElem?_map, List.getElem?_eq_getElem (by omega)]
  simp [List.getD_eq_getElem?_getD, List.getElem?_eq_getElem (show i.toNat < p.length by omega)]
theorem ev_intsAt {a b : FE} {δ : DEnv} {p : List Int} {i : Int} (ha : EvV a δ (intsL p)) (hb : EvV b δ (.int i)) (h0 : 0 ≤ i) (h1 : i < p.length) : EvV (fBin gIx a b) δ (.int (p.getD i.toNat 0)) := ev_atI ha hb (atI_ints h0 h1)
theorem ev_intsLen {a : FE} {δ : DEnv} {p : List Int} (ha : EvV a δ (intsL p)) : EvV (fBlS gLen (aCons a aNil)) δ (.int p.length) := by
  have := ev_len (ds := p.map PyData.int) ha
  rwa [List.length_map] at this
theorem gP18 : gPow (.int 10) (.int 18) = some (.int 1000000000000000000) := rfl
end My
namespace L2
open PySem PySem.Spec
noncomputable def EvP (e : FE) (δ : DEnv) (Q : PyData → DEnv → Prop) : Prop := ∃ t δ', e δ = some (t, δ') ∧ Q t.data δ'
noncomputable def EpA (a : FA) (δ : DEnv) (Q : List PyData → DEnv → Prop) : Prop := ∃ ts δ', a δ = some (ts, δ') ∧ Q (OT.datas ts) δ'
noncomputable def EpT (t : FT) (δ : DEnv) (Q : Bool → DEnv → Prop) : Prop := ∃ b δ', t δ = some (b, δ') ∧ Q b δ'
noncomputable def EpS (S : FS) (δ : DEnv) (N : DEnv → Prop) (R : PyData → DEnv → Prop) : Prop := (∃ δ', S δ = .nx δ' ∧ N δ') ∨ ∃ o δ', S δ = .rt o δ' ∧ R o.data δ'
noncomputable def ToldI (F : FIO) (t : OT) (ds : List PyData) (Q : PyData → OT → Prop) : Prop := ∃ r t', F t ds = some (r, t') ∧ Q r.data t'
section
variable {e a b : FE} {as : FA} {δ : DEnv} {Q : PyData → DEnv → Prop} {QA : List PyData → DEnv → Prop} {T : Bool → DEnv → Prop} {t u : FT} {S S' : FS} {N : DEnv → Prop} {R : PyData → DEnv → Prop} {i : Nat} {d : PyData}
theorem ep_pure (h : EvV e δ d) (q : Q d δ) : EvP e δ Q := by
  obtain ⟨t, e1, e2⟩ := h
  exact ⟨t, δ, e1, e2 ▸ q⟩
theorem ep_binS {g : PyData → PyData → Option PyData} (h : EvP a δ fun x δ1 => EvP b δ1 fun y δ2 => ∃ d, g x y = some d ∧ Q d δ2) : EvP (fBinS g a b) δ Q := by
  obtain ⟨t, δ1, e1, t2, δ2, e2, d, e3, q⟩ := h
  exact ⟨.fz d, δ2, by rw [fBinS_ap, e1]; show (b δ1).bind _ = _; rw [e2]; show (g _ _).bind _ = _; rw [e3]; rfl, by rw [OT.data_fz]; exact q⟩
theorem ep_bin {g : PyData → PyData → Option OT} (h : EvP a δ fun x δ1 => EvP b δ1 fun y δ2 => ∃ o, g x y = some o ∧ Q o.data δ2) : EvP (fBin g a b) δ Q := by
  obtain ⟨t, δ1, e1, t2, δ2, e2, d, e3, q⟩ := h
  exact ⟨d, δ2, by rw [fBin_ap, e1]; show (b δ1).bind _ = _; rw [e2]; show (g _ _).bind _ = _; rw [e3]; rfl, q⟩
theorem epa_nil (q : QA [] δ) : EpA aNil δ QA := ⟨[], δ, rfl, by rw [datas_nil]; exact q⟩
theorem epa_cons (h : EvP e δ fun d δ1 => EpA as δ1 fun ds δ2 => QA (d :: ds) δ2) : EpA (aCons e as) δ QA := by
  obtain ⟨t, δ1, e1, ts, δ2, e2, q⟩ := h
  exact ⟨t :: ts, δ2, by rw [aCons_ap, e1]; show (as δ1).bind _ = _; rw [e2]; rfl, by rw [datas_cons]; exact q⟩
theorem epa_pure {ds : List PyData} (h : EvA as δ ds) (q : QA ds δ) : EpA as δ QA := by
  obtain ⟨ts, e1, e2⟩ := h
  exact ⟨ts, δ, e1, e2 ▸ q⟩
theorem ep_call {F : FD} (h : EpA as δ fun ds δ1 => ∃ d, Told F ds d ∧ Q d δ1) : EvP (fCall F as) δ Q := by
  obtain ⟨ts, δ1, e1, d, ⟨t, e2, e3⟩, q⟩ := h
  exact ⟨t, δ1, by rw [fCall_ap, e1]; show okO (F _) _ = _; rw [e2]; rfl, e3 ▸ q⟩
theorem ep_callI {F : FIO} {t0 : OT} (h0 : δ[i]? = some (some t0)) (h : EpA as δ fun ds δ1 => ∃ t, δ1[i]? = some (some t) ∧ ToldI F t ds fun d t' => Q d (δ1.set i (some t'))) : EvP (fCallI i F as) δ Q := by
  obtain ⟨ts, δ1, e1, t, e2, r, t', e3, q⟩ := h
  refine ⟨r, δ1.set i (some t'), ?_, q⟩
  rw [fCallI_ap, h0]
  show (as δ).bind _ = _
  rw [e1]
  show atO δ1[i]? _ = _
  rw [e2]
  show (F t _).bind _ = _
  rw [e3]; rfl
theorem ep_lst (h : EpA as δ fun ds δ1 => ds.length ≤ 1000 ∧ Q (.list ds) δ1) : EvP (fLst as) δ Q := by
  obtain ⟨ts, δ1, e1, hl, q⟩ := h
  refine ⟨.nd ts, δ1, ?_, by rw [OT.data_nd, ← datas_map]; exact q⟩
  rw [fLst_ap, e1]
  show (if ts.length ≤ sizeLine then _ else _) = _
  rw [if_pos (by rw [datas_len] at hl; rw [sizeLine_eq]; omega)]
theorem ept_pure {p : Bool} (h : EvT t δ p) (q : T p δ) : EpT t δ T := ⟨p, δ, h, q⟩
theorem eps_of {δ' : DEnv} (h : S δ = .nx δ') (q : N δ') : EpS S δ N R := .inl ⟨δ', h, q⟩
theorem eps_seq (h : EpS S δ (fun δ' => EpS S' δ' N R) R) : EpS (fSeq S S') δ N R := by
  rcases h with ⟨δ', e, h⟩ | ⟨o, δ', e, h⟩
  · rcases h with ⟨δ2, e2, q⟩ | ⟨o, δ2, e2, q⟩
    · exact .inl ⟨δ2, by rw [fSeq_ap, e, thn_nx, e2], q⟩
    · exact .inr ⟨o, δ2, by rw [fSeq_ap, e, thn_nx, e2], q⟩
  · exact .inr ⟨o, δ', by rw [fSeq_ap, e, thn_rt], h⟩
theorem eps_set (h : EvP e δ fun d δ' => N (δ'.set i (some (.fz d)))) : EpS (wE e (kSet i)) δ N R := by
  obtain ⟨t, δ', e1, q⟩ := h
  exact .inl ⟨_, by rw [wE_ap, e1]; rfl, q⟩
theorem eps_setS (h : EvP e δ fun d δ' => flatD d = true ∧ N (δ'.set i (some (.fz d)))) : EpS (wE e (kSetS i)) δ N R := by
  obtain ⟨t, δ', e1, f, q⟩ := h
  exact .inl ⟨_, by rw [wE_ap, e1]; show kSetS i t δ' = _; unfold kSetS; rw [if_pos f], q⟩
theorem eps_ret (h : EvP e δ R) : EpS (wE e kRet) δ N R := by
  obtain ⟨t, δ', e1, q⟩ := h
  exact .inr ⟨t, δ', by rw [wE_ap, e1]; rfl, q⟩
theorem eps_if (h : EpT t δ fun p δ' => (p = true → EpS S δ' N R) ∧ (p = false → EpS S' δ' N R)) : EpS (fIfS t S S') δ N R := by
  obtain ⟨p, δ', e1, q1, q2⟩ := h
  have e : fIfS t S S' δ = if p = true then S δ' else S' δ' := by unfold fIfS; rw [e1]
  cases p with
  | true =>
    have g := q1 rfl
    unfold EpS at g ⊢
    rw [e]; exact g
  | false =>
    have g := q2 rfl
    unfold EpS at g ⊢
    rw [e]; exact g
theorem eps_nx (q : N δ) : EpS fNx δ N R := .inl ⟨δ, rfl, q⟩
theorem EpS.mono {N' : DEnv → Prop} {R' : PyData → DEnv → Prop} (h : EpS S δ N R) (k : ∀ δ', N δ' → N' δ') (k2 : ∀ d δ', R d δ' → R' d δ') : EpS S δ N' R' :=
  h.imp (fun ⟨δ', e, q⟩ => ⟨δ', e, k _ q⟩) fun ⟨o, δ', e, q⟩ => ⟨o, δ', e, k2 _ _ q⟩
theorem eps_loop {g : FG} (I : Nat → DEnv → Prop) (ds : List PyData) (m : Nat) (h0 : I m δ) (turn : ∀ (k : Nat) (d : PyData) (δ : DEnv), ds[k]? = some d → I (m + k) δ → ∃ δ1, g d δ = some δ1 ∧ EpS S δ1 (I (m + k + 1)) R) (fin : ∀ δ', I (m + ds.length) δ' → N δ') :
    (∃ δ', forLoop g S ds δ = .nx δ' ∧ N δ') ∨ ∃ o δ', forLoop g S ds δ = .rt o δ' ∧ R o.data δ' := by
  induction ds generalizing m δ with
  | nil => exact .inl ⟨δ, rfl, fin δ h0⟩
  | cons d ds ih =>
    obtain ⟨δ1, e1, h⟩ := turn 0 d δ rfl h0
    rcases h with ⟨δ2, e2, q⟩ | ⟨o, δ2, e2, q⟩
    · have e : forLoop g S (d :: ds) δ = forLoop g S ds δ2 := by rw [forLoop, e1]; show (match S δ1 with | .nx δ2 => _ | .ct δ2 => _ | .bk δ2 => _ | r => _) = _; rw [e2]
      rw [e]
      refine ih (m + 1) q (fun k d' δ' hk hI => ?_) fun δ' hI => fin δ' (by rw [List.length_cons]; rw [show m + 1 + ds.length = m + (ds.length + 1) by omega] at hI; exact hI)
      have := turn (k + 1) d' δ' hk (by rw [show m + (k + 1) = m + 1 + k by omega]; exact hI)
      rwa [show m + (k + 1) + 1 = m + 1 + k + 1 by omega] at this
    · refine .inr ⟨o, δ2, ?_, q⟩
      rw [forLoop, e1]; show (match S δ1 with | .nx δ2 => _ | .ct δ2 => _ | .bk δ2 => _ | r => _) = _; rw [e2]
theorem eps_for {it : FI} {g : FG} {ds : List PyData} {δ0 : DEnv} (I : Nat → DEnv → Prop) (hi : it δ = some (ds, δ0)) (h0 : I 0 δ0) (turn : ∀ (k : Nat) (d : PyData) (δ : DEnv), ds[k]? = some d → I k δ → ∃ δ1, g d δ = some δ1 ∧ EpS S δ1 (I (k + 1)) R) (fin : ∀ δ', I ds.length δ' → N δ') : EpS (fFor it g S) δ N R := by
  have e : fFor it g S δ = forLoop g S ds δ0 := by unfold fFor; rw [hi]
  have h := eps_loop (R := R) (N := N) (S := S) (g := g) (δ := δ0) I ds 0 h0 (fun k d δ hk hI => by rw [Nat.zero_add] at hI ⊢; exact turn k d δ hk hI) (fun δ' hI => by rw [Nat.zero_add] at hI; exact fin δ' hI)
  unfold EpS
  rw [e]; exact h
noncomputable def EpI (it : FI) (δ : DEnv) (Q : List PyData → DEnv → Prop) : Prop := ∃ ds δ', it δ = some (ds, δ') ∧ Q ds δ'
theorem epi_pure {it : FI} {ds : List PyData} (h : EvI it δ ds) (q : QA ds δ) : EpI it δ QA := ⟨ds, δ, h, q⟩
theorem epi_ra (h : EpA as δ fun ds δ' => ∃ n : Nat, ds = [.int n] ∧ n ≤ 1000000 ∧ QA (rngD 0 n) δ') : EpI (iRa as) δ QA := by
  obtain ⟨ts, δ', e1, n, e2, hn, q⟩ := h
  exact ⟨_, δ', by rw [iRa_ap, e1, Option.bind_some, e2, as1_i, rng1_if (by omega) (by omega), Int.toNat_natCast], q⟩
theorem eps_forP {it : FI} {g : FG} (h : EpI it δ fun ds δ0 => ∃ I : Nat → DEnv → Prop, I 0 δ0 ∧ (∀ (k : Nat) (d : PyData) (δ : DEnv), ds[k]? = some d → I k δ → ∃ δ1, g d δ = some δ1 ∧ EpS S δ1 (I (k + 1)) R) ∧ ∀ δ', I ds.length δ' → N δ') : EpS (fFor it g S) δ N R := by
  obtain ⟨ds, δ0, e, I, h0, turn, fin⟩ := h
  exact eps_for I e h0 turn fin
theorem ToldI.mono {F : FIO} {t0 : OT} {ds : List PyData} {Q Q' : PyData → OT → Prop} (h : ToldI F t0 ds Q) (k : ∀ d t, Q d t → Q' d t) : ToldI F t0 ds Q' := by
  obtain ⟨r, t', e, q⟩ := h
  exact ⟨r, t', e, k _ _ q⟩
theorem eps_setO {o : OT} {δ' : DEnv} (h : e δ = some (o, δ')) (q : N (δ'.set i (some o))) : EpS (wE e (kSetO i)) δ N R := .inl ⟨_, by rw [wE_ap, h]; rfl, q⟩
theorem toldI_of {np n : Nat} {t0 : OT} {ds : List PyData} {Q : PyData → OT → Prop} (hl : ds.length + 1 = np) (h : EpS S (startIN n t0 ds) (fun δ' => ∃ t', δ'[0]? = some (some t') ∧ Q .none t') fun d δ' => ∃ t', δ'[0]? = some (some t') ∧ Q d t') : ToldI (runI np n S) t0 ds Q := by
  unfold ToldI
  rw [runI_ap hl]
  rcases h with ⟨δ', e, t', e2, q⟩ | ⟨o, δ', e, t', e2, q⟩
  · exact ⟨.fz .none, t', by rw [e]; show (match δ'[0]? with | some (some t) => some (OT.fz .none, t) | _ => none) = _; rw [e2], by rw [OT.data_fz]; exact q⟩
  · exact ⟨o, t', by rw [e]; show (match δ'[0]? with | some (some t) => some (o, t) | _ => none) = _; rw [e2], q⟩
end
end L2
namespace My
open PySem L2 PySem.Spec
noncomputable def pl (a b c : Int) : OT := .nd [.fz (.int a), .fz (.int b), .fz (.int c)]
noncomputable def Pl (m : Nat) (t : OT) : Prop := ∃ a b c : Int, t = pl a b c ∧ 0 ≤ c ∧ c ≤ m
theorem Pl.up {m n : Nat} {t : OT} (h : Pl m t) (k : m ≤ n) : Pl n t := by
  obtain ⟨a, b, c, e, h0, h1⟩ := h
  exact ⟨a, b, c, e, h0, by omega⟩
theorem pl_data (a b c : Int) : (pl a b c).data = .list [.int a, .int b, .int c] := by unfold pl; rw [OT.data_nd]; rfl
theorem ev_pl {δ : DEnv} {a b c k : Int} {d : PyData} (h : δ[0]? = some (some (pl a b c))) (hk : atI [PyData.int a, .int b, .int c] k = some d) : EvV (fBin gIx (fOwn 0) (fC (.int k))) δ d := ev_atI (ev_own h (pl_data a b c)) ev_c hk
theorem es_put {δ : DEnv} {i n : Nat} {e j : FE} {ts : List OT} {d : PyData} {k : Int} (h : EvV e δ d) (hi : δ[i]? = some (some (.nd ts))) (hj : EvV j δ (.int k)) (hx : ixN ts.length k = some n) : fPut i e j δ = .nx (δ.set i (some (.nd (ts.set n (.fz d))))) := by
  obtain ⟨t, e1, e2⟩ := h
  obtain ⟨u, e3, e4⟩ := hj
  rw [fPut_ap, e1, onO_some, hi]
  show onO (j δ) _ = _
  rw [e3, onO_some, e4]
  show onX (ixN ts.length k) _ = _
  rw [hx, e2]; rfl
theorem lg_s {j : Int} (h0 : 0 < j) (h1 : j ≤ 1000000000) : ∀ i, divB i j = true := fun i => divB_bt (n := 64) (by omega) (Bt.of_lt (by omega) (by omega))
theorem take_ok {m : Nat} {t : OT} {many : Int} (h : Pl m t) (hm : m ≤ 1000000) (h0 : 0 < many) (h1 : ∀ i, divB i many = true) : ToldI F_law_take_cd1a t [.int many] fun d t' => ∃ r, d = .int r ∧ 0 ≤ r ∧ r < many ∧ Pl (m + 1) t' := by
  obtain ⟨a, b, c, rfl, c0, c1⟩ := h
  refine toldI_of rfl (eps_seq (eps_if (ept_pure (et_V (ev_eq (ev_pl rfl rfl) ev_c rfl)) ⟨fun _ => ?_, fun _ => ?_⟩)))
  · refine eps_seq (eps_of (es_set (ev_mod (ev_pl rfl rfl) ev_var (by omega))) ?_)
    refine eps_seq (eps_of (es_put (n := 0) (ev_binS (ev_pl rfl rfl) ev_var (gFdiv_i (h1 _))) rfl ev_c rfl) ?_)
    exact eps_ret (ep_pure ev_var ⟨_, rfl, _, rfl, fmod_nn h0, fmod_lt h0, a.fdiv many, b, c, rfl, c0, by omega⟩)
  · refine eps_nx (eps_seq (eps_of (es_put (n := 2) (ev_add (ev_pl rfl rfl) ev_c) rfl ev_c rfl) ?_))
    refine eps_seq (eps_setS (ep_pure (ev_pl (a := a) (b := b) (c := c + 1) rfl rfl) ⟨rfl, ?_⟩))
    have n1 := fmod_nn (i := a) (j := 9999999641) (by decide)
    have n2 := fmod_lt (i := a) (j := 9999999641) (by decide)
    refine eps_seq (eps_of (es_set (ev_mulL (ev_add (ev_mod (ev_pl (a := a) (b := b) (c := c + 1) rfl rfl) ev_c (by decide)) ev_c) (ev_add (ev_mulL ev_c ev_var) ev_c) (by omega))) ?_)
    refine eps_seq (eps_of (es_set (ev_add ev_var (ev_mulR (ev_mulL ev_c ev_var) ev_var (by omega)))) ?_)
    have bM := ((Bt.of_lt (m := 34) (x := a.fmod 9999999641 + 953) (by omega) (by omega)).mul (Bt.of_lt (m := 25) (x := 17 * (c + 1) + 43) (by omega) (by omega))).add (((Bt.of_lt (m := 12) (x := 3413) (by decide) (by decide)).mul (Bt.of_lt (m := 20) (x := c + 1) (by omega) (by omega))).mul (Bt.of_lt (m := 20) (x := c + 1) (by omega) (by omega)))
    generalize (a.fmod 9999999641 + 953) * (17 * (c + 1) + 43) + 3413 * (c + 1) * (c + 1) = M at bM ⊢
    refine eps_seq (eps_of (es_set (ev_mod (ev_binS ev_var ev_var (gMul_i (mulB_bt bM bM))) ev_c (by decide))) ?_)
    have n3 := fmod_nn (i := M * M) (j := 99999999683) (by decide)
    have n4 := fmod_lt (i := M * M) (j := 99999999683) (by decide)
    generalize (M * M).fmod 99999999683 = r at n3 n4 ⊢
    exact eps_ret (ep_pure (ev_mod (ev_fdiv (ev_mod (ev_mulL ev_var (ev_add ev_var ev_c) (by omega)) ev_c (by decide)) ev_c) ev_var (by omega)) ⟨_, rfl, _, rfl, fmod_nn h0, fmod_lt h0, a, b, c + 1, rfl, by omega, by omega⟩)
theorem ep_take {δ : DEnv} {i m : Nat} {t : OT} {as : FA} {many : Int} {Q : PyData → DEnv → Prop} (hi : δ[i]? = some (some t)) (h : Pl m t) (hm : m ≤ 1000000) (ha : EvA as δ [.int many]) (h0 : 0 < many) (h1 : ∀ i, divB i many = true) (q : ∀ r t', 0 ≤ r → r < many → Pl (m + 1) t' → Q (.int r) (δ.set i (some t'))) : EvP (fCallI i F_law_take_cd1a as) δ Q :=
  ep_callI hi (epa_pure ha ⟨t, hi, (take_ok h hm h0 h1).mono fun d t' z => by
    obtain ⟨r, rfl, r0, r1, p⟩ := z
    exact q r t' r0 r1 p⟩)
theorem lstO {as : FA} {δ : DEnv} {ts : List OT} (h : as δ = some (ts, δ)) (hl : ts.length ≤ 1000) : fLst as δ = some (.nd ts, δ) := by
  rw [fLst_ap, h]
  exact if_pos (e := none) (show ts.length ≤ sizeLine by rw [sizeLine_eq]; omega)
theorem consO {e : FE} {as : FA} {δ : DEnv} {o : OT} {ts : List OT} (h : e δ = some (o, δ)) (k : as δ = some (ts, δ)) : aCons e as δ = some (o :: ts, δ) := by
  rw [aCons_ap, h]
  show (as δ).bind _ = _
  rw [k]; rfl
theorem ev_int {e : FE} {δ : DEnv} {i : Int} (h : EvV e δ (.int i)) : e δ = some (.fz (.int i), δ) := by
  obtain ⟨t, e1, e2⟩ := h
  rw [e1, int_data e2]
theorem es_retO {e : FE} {δ : DEnv} {o : OT} (h : e δ = some (o, δ)) : wE e kRet δ = .rt o δ := by rw [wE_ap, h]; rfl
theorem pool_ok (ns : List Int) {k : Nat} (hk : k ≤ 40) : ∃ t, F_law_pool_7d17 [intsL ns, .int k] = .ok t ∧ Pl 1000 t := by
  have key : ∀ c : Int, ∃ t δ', fSeq (fIfS (tV (fBinS gGe (fVar 2) (fBinS gPow (fC (.int 10)) (fC (.int 18))))) (wE (fLst (aCons (fBinS gSb (fVar 2) (fBinS gPow (fC (.int 10)) (fC (.int 18)))) (aCons (fC (.int 1)) (aCons (fC (.int 0)) aNil)))) kRet) fNx) (wE (fLst (aCons (fVar 2) (aCons (fC (.int 0)) (aCons (fBinS gMul (fC (.int 23)) (fVar 1)) aNil)))) kRet) [some (.fz (intsL ns)), some (.fz (.int k)), some (.fz (.int c))] = .rt t δ' ∧ Pl 1000 t := fun c => by
    by_cases h : 1000000000000000000 ≤ c
    · refine ⟨pl (c - 1000000000000000000) 1 0, [some (.fz (intsL ns)), some (.fz (.int k)), some (.fz (.int c))], es_seq_rt (es_if_t (et_V (ev_ge ev_var (ev_binS ev_c ev_c gP18) (decide_eq_true h))) ?_), ⟨_, _, _, rfl, by decide, by decide⟩⟩
      exact es_retO (lstO (consO (ev_int (ev_sub ev_var (ev_binS ev_c ev_c gP18))) (consO (ev_int ev_c) (consO (ev_int ev_c) rfl))) (Nat.le_of_ble_eq_true rfl))
    · refine ⟨pl c 0 (23 * k), [some (.fz (intsL ns)), some (.fz (.int k)), some (.fz (.int c))], es_seq (es_if_f (et_V (ev_ge ev_var (ev_binS ev_c ev_c gP18) (decide_eq_false h))) rfl) ?_, ⟨_, _, _, rfl, by omega, by omega⟩⟩
      exact es_retO (lstO (consO (ev_int ev_var) (consO (ev_int ev_c) (consO (ev_int (ev_mulL ev_c ev_var)) rfl))) (Nat.le_of_ble_eq_true rfl))
  have fin : ∀ c : Int, ∀ {δ0 : DEnv}, S_law_pool_7d17 [some (.fz (intsL ns)), some (.fz (.int k)), none] = fSeq (fIfS (tV (fBinS gGe (fVar 2) (fBinS gPow (fC (.int 10)) (fC (.int 18))))) (wE (fLst (aCons (fBinS gSb (fVar 2) (fBinS gPow (fC (.int 10)) (fC (.int 18)))) (aCons (fC (.int 1)) (aCons (fC (.int 0)) aNil)))) kRet) fNx) (wE (fLst (aCons (fVar 2) (aCons (fC (.int 0)) (aCons (fBinS gMul (fC (.int 23)) (fVar 1)) aNil)))) kRet) [some (.fz (intsL ns)), some (.fz (.int k)), some (.fz (.int c))] → ∃ t, F_law_pool_7d17 [intsL ns, .int k] = .ok t ∧ Pl 1000 t := fun c δ0 e => by
    obtain ⟨t, δ', e2, p⟩ := key c
    refine ⟨t, ?_, p⟩
    unfold F_law_pool_7d17
    rw [runD_ap (np := 2) (by rfl)]
    show (S_law_pool_7d17 [some (.fz (intsL ns)), some (.fz (.int k)), none]).told = _
    rw [e, e2]; rfl
  by_cases h : (k : Int) < ns.length
  · exact fin _ (δ0 := []) (es_seq (es_set ev_c) (es_seq (es_if_t (et_V (ev_lt ev_var (ev_intsLen ev_var) (decide_eq_true h))) (es_set (ev_intsAt ev_var ev_var (by omega) h))) rfl))
  · exact fin 0 (δ0 := []) (es_seq (es_set ev_c) (es_seq (es_if_f (et_V (ev_lt ev_var (ev_intsLen ev_var) (decide_eq_false h))) rfl) rfl))
theorem es_par {δ : DEnv} {i j : Nat} {as : FA} {x y : PyData} (h : EvA as δ [x, y]) : fPar i j as δ = .nx ((δ.set i (some (.fz x))).set j (some (.fz y))) := by
  obtain ⟨ts, e1, e2⟩ := h
  unfold fPar
  rw [e1]
  show (match OT.datas ts with | [d, e] => RS.nx ((δ.set i (some (.fz d))).set j (some (.fz e))) | _ => .bad) = _
  rw [e2]
theorem law_lowest_ok {n : Nat} {t b : Int} (hb : 0 < b) (hB : Bt n b) (hn : n ≤ 9000 := by decide) : Told F_law_lowest_4ce7 [.int t, .int b] (frD (Rat.divInt t b)) := by
  obtain ⟨z', e⟩ := gcd_loop (f1 := fun x y z => [some (.fz (.int t)), some (.fz (.int b)), some (.fz (.int x)), some (.fz (.int y))]) (f2 := fun x y z => []) (t := tV (fBinS gNe (fVar 3) (fC (.int 0)))) (u := fPar 2 3 (aCons (fVar 3) (aCons (fBinS gMod (fVar 2) (fVar 3)) aNil))) (fun x y z => et_V (ev_ne ev_var ev_c rfl)) (fun x y z hy => ⟨none, es_par (ea_cons ev_var (ea_cons (ev_mod ev_var ev_var hy) ea_nil))⟩) ((b.natAbs : Int).toNat + 1) (t.natAbs : Int) (b.natAbs : Int) none (by omega) (by omega) (by omega)
  have eg : (Int.gcd (t.natAbs : Int) (b.natAbs : Int) : Int) = shr t b := by
    unfold shr
    rw [if_neg (by omega), Int.gcd_eq_natAbs_gcd_natAbs, Int.gcd_eq_natAbs_gcd_natAbs, Int.natAbs_natCast, Int.natAbs_natCast]
  obtain ⟨e1, e2⟩ := fr_le (t := t) (b := b) (by omega) hB hn _ eg
  exact told_of rfl <| rt_seq (es_set (ev_blS (ea_cons ev_var ea_nil) (gAbs_i t))) <| rt_seq (es_set (ev_blS (ea_cons ev_var ea_nil) (gAbs_i b))) <| rt_seq (fWhile_eq _ e (by intro z; cases z)) <|
    rt_seq (es_if_f (et_V (ev_lt ev_var ev_c (decide_eq_false (by omega)))) rfl) (rt_ret (ev_tup (ea_cons (ev_binS ev_var ev_var e1) (ea_cons (ev_binS ev_var ev_var e2) ea_nil)) (show 2 ≤ 1000 by decide)))
theorem gP9 : gPow (.int 10) (.int 9) = some (.int 1000000000) := rfl
theorem gP40 : gPow (.int 10) (.int 40) = some (.int 10000000000000000000000000000000000000000) := rfl
theorem figures_ok {m : Nat} {t : OT} (h : Pl m t) (hm : m ≤ 900000) : ToldI F_law_figures_2068 t [] fun d t' => ∃ r, d = .int r ∧ Bt 133 r ∧ Pl (m + 6) t' := by
  refine toldI_of rfl (eps_seq (eps_of (es_set ev_c) ?_))
  refine eps_seq (eps_forP (epi_ra (epa_cons (ep_bin (ep_pure (ev_lst (ea_cons ev_c (ea_cons ev_c (ea_cons ev_c (ea_cons ev_c ea_nil)))) (show 4 ≤ 1000 by decide)) (ep_take rfl h (by omega) (ea_cons ev_c ea_nil) (by decide) (lg_s (by decide) (by decide)) fun r t1 r0 r1 p1 => ?_))))))
  obtain ⟨x, ex, x0, x1⟩ : ∃ x, gIx (.list [.int 1, .int 2, .int 3, .int 5]) (.int r) = some (.fz (.int x)) ∧ 0 ≤ x ∧ x ≤ 5 := by
    obtain rfl | rfl | rfl | rfl : r = 0 ∨ r = 1 ∨ r = 2 ∨ r = 3 := by omega
    · exact ⟨1, rfl, by decide, by decide⟩
    · exact ⟨2, rfl, by decide, by decide⟩
    · exact ⟨3, rfl, by decide, by decide⟩
    · exact ⟨5, rfl, by decide, by decide⟩
  refine ⟨_, ex, epa_nil ⟨x.toNat, ?_, by omega, fun k δ => ∃ f t2 z, δ = [some t2, some (.fz (.int f)), z] ∧ Pl (m + 1 + k) t2, ⟨0, t1, none, rfl, p1⟩, fun k d δ hd q => ?_, fun δ' q => ?_⟩⟩
  · rw [OT.data_fz, Int.toNat_of_nonneg x0]
  · obtain ⟨f, t2, z, rfl, p2⟩ := q
    have hk : k < x.toNat := (rngD_get hd).1
    refine ⟨_, rfl, eps_set (ep_binS (ep_pure (ev_mulR ev_var (ev_binS ev_c ev_c gP9)) (ep_take rfl p2 (by omega) (ea_cons (ev_binS ev_c ev_c gP9) ea_nil) (by decide) (lg_s (by decide) (by decide)) fun r t3 r0 r1 p3 => ?_)))⟩
    exact ⟨_, rfl, _, _, _, rfl, p3⟩
  · obtain ⟨f, t2, z, rfl, p2⟩ := q
    rw [rngD_length] at p2
    have g0 := fmod_nn (i := f) (j := 10000000000000000000000000000000000000000) (by decide)
    have g1 := fmod_lt (i := f) (j := 10000000000000000000000000000000000000000) (by decide)
    exact eps_ret (ep_pure (ev_mod ev_var (ev_binS ev_c ev_c gP40) (by decide)) ⟨t2, rfl, _, rfl, Bt.of_lt (Int.lt_of_lt_of_le (by decide +kernel) g0) (Int.lt_trans g1 (by decide +kernel)), p2.up (by omega)⟩)
theorem bt_sg {n : Nat} {s x : Int} (hs : s = 1 ∨ s = -1) (h : Bt n x) : Bt n (s * x) := by
  rcases hs with rfl | rfl
  · rwa [Int.one_mul]
  · rw [Int.neg_mul, Int.one_mul]; exact h.neg
theorem sg_bt {s : Int} (hs : s = 1 ∨ s = -1) : s.natAbs < 2 ^ 64 := by
  rcases hs with rfl | rfl <;> decide
theorem q_ok {m : Nat} {t : OT} (h : Pl m t) (hm : m ≤ 800000) : ToldI F_law_q_8717 t [] fun d t' => ∃ q, d = frD q ∧ BQ 133 q ∧ Pl (m + 20) t' := by
  refine toldI_of rfl (eps_seq (eps_set (ep_binS (ep_pure ev_c (ep_binS (ep_pure ev_c (ep_take rfl h (by omega) (ea_cons ev_c ea_nil) (by decide) (lg_s (by decide) (by decide)) fun r t1 r0 r1 p1 => ⟨_, gMul_i (mulB_l (by decide)), _, rfl, ?_⟩)))))))
  have hs : 1 - 2 * r = 1 ∨ 1 - 2 * r = -1 := by omega
  show EpS _ [some t1, some (.fz (.int (1 - 2 * r))), none] _ _
  generalize 1 - 2 * r = s at hs ⊢
  refine eps_seq (eps_set (ep_take rfl p1 (by omega) (ea_cons ev_c ea_nil) (by decide) (lg_s (by decide) (by decide)) fun kd t2 k0 k1 p2 => ?_))
  refine eps_seq (eps_if (ept_pure (et_V (ev_eq ev_var ev_c rfl)) ⟨fun _ => ?_, fun c0 => eps_nx ?_⟩))
  · exact eps_ret (ep_pure (ev_tup (ea_cons ev_c (ea_cons ev_c ea_nil)) (show 2 ≤ 1000 by decide)) ⟨t2, rfl, 0, rfl, BQ.zero.mono (by decide), p2.up (by omega)⟩)
  have c0 := of_decide_eq_false c0
  refine eps_seq (eps_if (ept_pure (et_V (ev_lt ev_var ev_c rfl)) ⟨fun _ => ?_, fun c4 => eps_nx ?_⟩))
  · refine eps_ret (ep_call (epa_cons (ep_binS (ep_pure ev_var (ep_take rfl p2 (by omega) (ea_cons ev_c ea_nil) (by decide) (lg_s (by decide) (by decide)) fun x t3 x0 x1 p3 => ⟨_, gMul_i (mulB_l (sg_bt hs)), epa_cons (ep_bin (ep_pure (ev_lst (ea_cons ev_c (ea_cons ev_c (ea_cons ev_c (ea_cons ev_c (ea_cons ev_c ea_nil))))) (show 5 ≤ 1000 by decide)) (ep_take rfl p3 (by omega) (ea_cons ev_c ea_nil) (by decide) (lg_s (by decide) (by decide)) fun y t4 y0 y1 p4 => ?_)))⟩)))))
    obtain ⟨b, eb, b0, b1⟩ : ∃ b, gIx (.list [.int 1, .int 1, .int 2, .int 3, .int 6]) (.int y) = some (.fz (.int b)) ∧ 0 < b ∧ b ≤ 6 := by
      obtain rfl | rfl | rfl | rfl | rfl : y = 0 ∨ y = 1 ∨ y = 2 ∨ y = 3 ∨ y = 4 := by omega
      · exact ⟨1, rfl, by decide, by decide⟩
      · exact ⟨1, rfl, by decide, by decide⟩
      · exact ⟨2, rfl, by decide, by decide⟩
      · exact ⟨3, rfl, by decide, by decide⟩
      · exact ⟨6, rfl, by decide, by decide⟩
    have bb : Bt 4 b := Bt.of_lt (by omega) (by omega)
    have bx : Bt 4 x := Bt.of_lt (by omega) (by omega)
    refine ⟨_, eb, epa_nil ⟨_, ?_, t4, rfl, _, rfl, BQ.div (by omega) ((bt_sg hs bx).mono (by decide)) (bb.mono (by decide)), p4.up (by omega)⟩⟩
    rw [OT.data_fz]
    exact law_lowest_ok b0 bb
  · have c4 := of_decide_eq_false c4
    refine eps_ret (ep_call (epa_cons (ep_binS (ep_pure ev_var (ep_callI rfl (epa_nil ⟨t2, rfl, (figures_ok p2 (by omega)).mono fun d t3 z => ?_⟩))))))
    obtain ⟨x, rfl, bx, p3⟩ := z
    refine ⟨_, gMul_i (mulB_l (sg_bt hs)), epa_cons (ep_bin (ep_lst (epa_cons (ep_pure ev_c (epa_cons (ep_binS (ep_pure ev_c (ep_binS (ep_callI rfl (epa_nil ⟨t3, rfl, (figures_ok p3 (by omega)).mono fun d t4 z => ?_⟩))))))))))⟩
    obtain ⟨y, rfl, by', p4⟩ := z
    have g0 := fmod_nn (i := y) (j := 10000000000000000000000000000000000000000 - 1) (by decide)
    have g1 := fmod_lt (i := y) (j := 10000000000000000000000000000000000000000 - 1) (by decide)
    refine ep_pure (ev_sub (ev_binS ev_c ev_c gP40) ev_c) ⟨_, gMod_i (by decide), _, rfl, epa_nil ⟨show 2 ≤ 1000 by decide, ep_pure (ev_sub ev_var ev_c) ?_⟩⟩
    obtain ⟨b, eb, b0, bb⟩ : ∃ b, gIx (.list [.int 1, .int (1 + y.fmod (10000000000000000000000000000000000000000 - 1))]) (.int (kd - 4)) = some (.fz (.int b)) ∧ 0 < b ∧ Bt 133 b := by
      obtain rfl | rfl : kd = 4 ∨ kd = 5 := by omega
      · exact ⟨1, rfl, by decide, Bt.of_lt (by decide +kernel) (by decide +kernel)⟩
      · refine ⟨_, rfl, by omega, Bt.of_lt (Int.lt_of_lt_of_le (by decide +kernel) (show (0 : Int) ≤ _ by omega)) (Int.lt_of_le_of_lt (show _ ≤ (10000000000000000000000000000000000000000 : Int) by omega) (by decide +kernel))⟩
    refine ⟨_, eb, epa_nil ⟨_, ?_, t4, rfl, _, rfl, BQ.div (by omega) (bt_sg hs bx) bb, p4.up (by omega)⟩⟩
    rw [OT.data_fz]
    exact law_lowest_ok b0 bb
noncomputable def mkS (l : List Nat) : Str := ⟨l.toArray⟩
noncomputable def dg (n : Nat) : List Nat := (Nat.toDigits 10 n).map Char.toNat
noncomputable def sgn (i : Int) : List Nat := if i < 0 then [45] else []
noncomputable def tx (i : Int) : List Nat := sgn i ++ dg i.natAbs
noncomputable def Cp (l : List Nat) : Prop := ∀ c ∈ l, c < 128
theorem mkS_app (a b : List Nat) : mkS a ++ mkS b = mkS (a ++ b) := by
  show Str.mk (a.toArray ++ b.toArray) = Str.mk (a ++ b).toArray
  rw [List.append_toArray]
theorem mkS_len (a : List Nat) : (mkS a).length = a.length := List.size_toArray ..
theorem mkS_inj {a b : List Nat} (h : mkS a = mkS b) : a = b := by
  have := congrArg (fun s : Str => s.cps.toList) h
  exact this
theorem str_tx (i : Int) : Str.ofString (toString i) = mkS (tx i) := by
  rw [Str.ofString_eq_toList]
  refine congrArg (fun l : List Nat => Str.mk l.toArray) ?_
  unfold tx sgn
  cases i with
  | ofNat n =>
    rw [if_neg (by exact Int.not_lt.mpr (Int.natCast_nonneg n))]
    show (String.ofList (Nat.toDigits 10 n)).toList.map Char.toNat = _
    rw [String.toList_ofList]; rfl
  | negSucc n =>
    rw [if_pos (Int.negSucc_lt_zero n)]
    show ("-" ++ String.ofList (Nat.toDigits 10 (n + 1))).toList.map Char.toNat = _
    rw [String.toList_append, List.map_append, String.toList_ofList (l := Nat.toDigits 10 (n + 1))]; rfl
theorem dgc : ∀ d : Fin 10, (Nat.digitChar d).toNat = 48 + d := by decide
theorem dg_lt {n : Nat} (h : n < 10) : dg n = [48 + n] := by
  unfold dg
  rw [Nat.toDigits_of_lt_base h]
  exact congrArg (fun x => [x]) (dgc ⟨n, h⟩)
theorem dg_ge {n : Nat} (h : 10 ≤ n) : dg n = dg (n / 10) ++ [48 + n % 10] := by
  unfold dg
  rw [Nat.toDigits_of_base_le (by decide) h, List.map_append]
  exact congrArg (fun x => _ ++ [x]) (dgc ⟨n % 10, Nat.mod_lt _ (by decide)⟩)
theorem dg_mem {n c : Nat} (h : c ∈ dg n) : 48 ≤ c ∧ c ≤ 57 := by
  induction n using Nat.strongRecOn with
  | ind n ih =>
    by_cases k : n < 10
    · rw [dg_lt k] at h
      have := List.mem_singleton.mp h
      omega
    · rw [dg_ge (by omega)] at h
      rcases List.mem_append.mp h with h | h
      · exact ih (n / 10) (by omega) h
      · have := List.mem_singleton.mp h
        omega
theorem dg_inj {m n : Nat} (h : dg m = dg n) : m = n := by
  have e : Nat.toDigits 10 m = Nat.toDigits 10 n := List.map_inj_right (fun x y z => Char.toNat_inj.mp z) |>.mp h
  have := congrArg (fun l => Nat.ofDigitChars 10 l 0) e
  rwa [Nat.ofDigitChars_toDigits (by decide) (by decide), Nat.ofDigitChars_toDigits (by decide) (by decide)] at this
theorem dg_len {n : Nat} (h : n < 2 ^ 400) : (dg n).length ≤ 400 := by
  unfold dg
  rw [List.length_map]
  exact (Nat.length_toDigits_le_iff (by decide) (by decide)).mpr (Nat.lt_of_lt_of_le h (Nat.pow_le_pow_left (by decide) 400))
theorem tx_mem {i : Int} {c : Nat} (h : c ∈ tx i) : c = 45 ∨ (48 ≤ c ∧ c ≤ 57) := by
  unfold tx at h
  rcases List.mem_append.mp h with h | h
  · unfold sgn at h
    split at h
    · exact .inl (List.mem_singleton.mp h)
    · cases h
  · exact .inr (dg_mem h)
theorem tx_len {i : Int} (h : Bt 400 i) : (tx i).length ≤ 401 := by
  unfold tx sgn
  rw [List.length_append]
  have := dg_len h
  split
  · rw [List.length_singleton]; omega
  · rw [List.length_nil]; omega
theorem tx_inj {i j : Int} (h : tx i = tx j) : i = j := by
  have n45 : ∀ n, 45 ∉ dg n := fun n m => by have := dg_mem m; omega
  unfold tx sgn at h
  by_cases a : i < 0
  · rw [if_pos a] at h
    by_cases b : j < 0
    · rw [if_pos b] at h
      have := dg_inj (List.cons.inj h).2
      omega
    · rw [if_neg b] at h
      exact absurd (show 45 ∈ dg j.natAbs by rw [← List.nil_append (dg j.natAbs), ← h]; exact .head _) (n45 _)
  · rw [if_neg a] at h
    by_cases b : j < 0
    · rw [if_pos b] at h
      exact absurd (show 45 ∈ dg i.natAbs by rw [← List.nil_append (dg i.natAbs), h]; exact .head _) (n45 _)
    · rw [if_neg b] at h
      have := dg_inj h
      omega
theorem gStr_ok {i : Int} (h : Bt 400 i) : gStr [.int i] = some (.str (mkS (tx i))) := by
  have c : i.natAbs.log2 < 1920 := by
    by_cases z : i.natAbs = 0
    · rw [z]; decide
    · exact (Nat.log2_lt z).mpr (Nat.lt_of_lt_of_le h (Nat.pow_le_pow_right (by decide) (by decide)))
  show (if i.natAbs.log2 < 1920 then some (PyData.str (Str.ofString (toString i))) else none) = _
  rw [if_pos c, str_tx]
theorem gCatS_ok {a b : List Nat} (h : a.length + b.length ≤ 1000000) : gCatS (.str (mkS a)) (.str (mkS b)) = some (.str (mkS (a ++ b))) := by
  show (if (mkS a).length + (mkS b).length ≤ sizeLine then some (PyData.str (mkS a ++ mkS b)) else none) = _
  rw [mkS_len, mkS_len, if_pos (by rw [sizeLine_eq]; omega), mkS_app]
theorem sh_str {a : List Nat} (h : Cp a) : SeqAt.shaped (.str (mkS a)) = true := by
  unfold SeqAt.shaped
  rw [PyData.canLay0]
  have : PyData.strOk (mkS a) = true := by
    unfold PyData.strOk
    rw [Array.all_eq_true_iff_forall_mem]
    intro c m
    have := h c (List.mem_toArray.mp m)
    exact decide_eq_true (by omega)
  rw [this]; rfl
theorem gEq_str {a b : List Nat} (ha : Cp a) (hb : Cp b) : gEq (.str (mkS a)) (.str (mkS b)) = some (.bool (decide (a = b))) := by
  unfold gEq
  rw [if_pos (by rw [sh_str ha, sh_str hb]; rfl)]
  refine congrArg (fun z => some (PyData.bool z)) ?_
  rw [PyData.eqv]
  rw [Bool.eq_iff_iff, beq_iff_eq, decide_eq_true_eq]
  exact ⟨mkS_inj, congrArg mkS⟩
theorem gNe_str {a b : List Nat} (ha : Cp a) (hb : Cp b) : gNe (.str (mkS a)) (.str (mkS b)) = some (.bool (!decide (a = b))) := by
  unfold gNe
  rw [if_pos (by rw [sh_str ha, sh_str hb]; rfl)]
  refine congrArg (fun z => some (PyData.bool (!z))) ?_
  rw [PyData.eqv]
  rw [Bool.eq_iff_iff, beq_iff_eq, decide_eq_true_eq]
  exact ⟨mkS_inj, congrArg mkS⟩
theorem tx_cp (i : Int) : Cp (tx i) := fun c m => by have := tx_mem m; omega
theorem Cp.app {a b : List Nat} (ha : Cp a) (hb : Cp b) : Cp (a ++ b) := fun c m => (List.mem_append.mp m).elim (ha c) (hb c)
theorem s_nil : Str.ofString "" = mkS [] := by rw [Str.ofString_eq_toList]; rfl
theorem s_mn : Str.ofString "-" = mkS [45] := by rw [Str.ofString_eq_toList]; rfl
theorem s_sl : Str.ofString "/" = mkS [47] := by rw [Str.ofString_eq_toList]; rfl
theorem s_0 : Str.ofString "0" = mkS [48] := by rw [Str.ofString_eq_toList]; rfl
theorem s_dg : Str.ofString "0123456789" = mkS [48, 49, 50, 51, 52, 53, 54, 55, 56, 57] := by rw [Str.ofString_eq_toList]; rfl
theorem at_dg : ∀ d : Fin 10, atI [48, 49, 50, 51, 52, 53, 54, 55, 56, 57] ((d : Nat) : Int) = some (48 + (d : Nat)) := by decide
noncomputable def en (i : Int) (s : List Nat) (n : Nat) : DEnv := [some (.fz (.int i)), some (.fz (.str (mkS s))), some (.fz (.int n))]
theorem ev_ixS {a b : FE} {δ : DEnv} {x y d : PyData} (ha : EvV a δ x) (hb : EvV b δ y) (h : gIxS x y = some (.fz d)) : EvV (fBin gIxS a b) δ d := ev_bin ha hb h (OT.data_fz _)
theorem tstep {i : Int} {s : List Nat} {n : Nat} (hs : s.length ≤ 1000) : fSeq (wE (fBinS gCatS (fBin gIxS (fC (.str "0123456789")) (fBinS gMod (fVar 2) (fC (.int 10)))) (fVar 1)) (kSet 1)) (wE (fBinS gFdiv (fVar 2) (fC (.int 10))) (kSet 2)) (en i s n) = .nx (en i ((48 + n % 10) :: s) (n / 10)) := by
  have em : (n : Int).fmod 10 = ((n % 10 : Nat) : Int) := by rw [fmod_pos (by decide)]; rfl
  have ed : (n : Int).fdiv 10 = ((n / 10 : Nat) : Int) := by rw [Int.fdiv_eq_ediv_of_nonneg _ (by decide)]; rfl
  have ix : gIxS (.str (Str.ofString "0123456789")) (.int ((n % 10 : Nat) : Int)) = some (.fz (.str (mkS [48 + n % 10]))) := by
    rw [s_dg]
    show (if (mkS [48, 49, 50, 51, 52, 53, 54, 55, 56, 57]).length ≤ sizeLine then (atI [48, 49, 50, 51, 52, 53, 54, 55, 56, 57] ((n % 10 : Nat) : Int)).map fun c => OT.fz (.str ⟨#[c]⟩) else none) = _
    rw [mkS_len, if_pos (by rw [sizeLine_eq]; decide), at_dg ⟨n % 10, Nat.mod_lt _ (by decide)⟩]; rfl
  have e1 : EvV (fBinS gMod (fVar 2) (fC (.int 10))) (en i s n) (.int ((n % 10 : Nat) : Int)) := (ev_mod ev_var ev_c (by decide)).cast (congrArg PyData.int em)
  refine es_seq (es_set (ev_binS (ev_ixS ev_c e1 ix) ev_var (gCatS_ok (by rw [List.length_singleton]; omega)))) ?_
  exact es_set ((ev_fdiv ev_var ev_c).cast (congrArg PyData.int ed))
theorem ttest {i : Int} {s : List Nat} {n : Nat} (hc : Cp s) {b : Bool} (hb : (decide (0 < n) || decide (s = [])) = b) : EvT (tO (tV (fBinS gGt (fVar 2) (fC (.int 0)))) (tV (fBinS gEq (fVar 1) (fC (.str ""))))) (en i s n) b := by
  have t1 : EvT (tV (fBinS gGt (fVar 2) (fC (.int 0)))) (en i s n) (decide (0 < n)) := et_V (ev_gt ev_var ev_c (decide_eq_decide.mpr (by omega)))
  have t2 : EvT (tV (fBinS gEq (fVar 1) (fC (.str "")))) (en i s n) (decide (s = [])) := et_V (ev_binS ev_var ev_c (by rw [s_nil]; exact gEq_str hc fun _ m => nomatch m))
  subst hb
  cases c : decide (0 < n) with
  | true => rw [c] at t1; exact et_o_t t1
  | false => rw [c] at t1; exact et_o t1 t2
theorem tloop (i : Int) : ∀ (k n : Nat) (s : List Nat), n ≤ k → (0 < n ∨ s = []) → Cp s → s.length + (dg n).length ≤ 900 → whileLoop (tO (tV (fBinS gGt (fVar 2) (fC (.int 0)))) (tV (fBinS gEq (fVar 1) (fC (.str ""))))) (fSeq (wE (fBinS gCatS (fBin gIxS (fC (.str "0123456789")) (fBinS gMod (fVar 2) (fC (.int 10)))) (fVar 1)) (kSet 1)) (wE (fBinS gFdiv (fVar 2) (fC (.int 10))) (kSet 2))) (k + 2) (en i s n) = .nx (en i (dg n ++ s) 0) := by
  intro k
  induction k with
  | zero =>
    intro n s hn hc cp hl
    obtain rfl : n = 0 := by omega
    have t := ttest (i := i) (n := 0) cp (b := true) (by rcases hc with h | h <;> simp [h] <;> omega)
    unfold EvT at t
    have t2 := ttest (i := i) (s := (48 + 0 % 10) :: s) (n := 0 / 10) (fun c m => (List.mem_cons.mp m).elim (fun e => by omega) (cp c)) (b := false) (by simp)
    unfold EvT at t2
    rw [whileLoop, t]
    dsimp only
    rw [if_pos rfl, tstep (by omega)]
    dsimp only
    rw [whileLoop, t2]
    dsimp only
    rw [if_neg Bool.false_ne_true, dg_lt (by decide)]; rfl
  | succ k ih =>
    intro n s hn hc cp hl
    have t := ttest (i := i) (n := n) cp (b := true) (by rcases hc with h | h <;> simp [h] <;> omega)
    unfold EvT at t
    rw [whileLoop, t]
    dsimp only
    rw [if_pos rfl, tstep (by omega)]
    dsimp only
    have cp2 : Cp ((48 + n % 10) :: s) := fun c m => (List.mem_cons.mp m).elim (fun e => by omega) (cp c)
    by_cases h10 : n < 10
    · have t2 := ttest (i := i) (n := n / 10) cp2 (b := false) (by rw [Nat.div_eq_of_lt h10]; simp)
      unfold EvT at t2
      rw [whileLoop, t2]
      dsimp only
      rw [if_neg Bool.false_ne_true, dg_lt h10, Nat.div_eq_of_lt h10, Nat.mod_eq_of_lt h10]; rfl
    · rw [dg_ge (by omega), List.length_append, List.length_singleton] at hl
      rw [ih (n / 10) _ (by omega) (.inl (by omega)) cp2 (by rw [List.length_cons]; omega), dg_ge (show 10 ≤ n by omega), List.append_assoc]; rfl
theorem text_ok {i : Int} (h : Bt 400 i) : Told F_law_text_a903 [.int i] (.str (mkS (tx i))) := by
  have l := dg_len h
  have e := tloop i i.natAbs i.natAbs [] (Nat.le_refl _) (.inr rfl) (fun _ m => nomatch m) (by rw [List.length_nil]; omega)
  rw [List.append_nil] at e
  refine told_of rfl <| rt_seq (es_set ev_c) <| rt_seq (es_set (ev_blS (ea_cons ev_var ea_nil) (gAbs_i i))) ?_
  rw [s_nil]
  refine rt_seq (fWhile_eq _ e (by intro z; cases z)) (rt_ret ?_)
  refine ev_binS (x := .str (mkS (sgn i))) (ev_bin (x := .list [.str (mkS []), .str (mkS [45])]) (y := .int (if i < 0 then 1 else 0)) (o := .fz (.str (mkS (sgn i)))) ?_ (ev_blS (ea_cons (ev_lt ev_var ev_c rfl) ea_nil) ?_) ?_ (OT.data_fz _)) ev_var (gCatS_ok (by unfold sgn; split <;> simp <;> omega))
  · rw [← s_nil, ← s_mn]; exact ev_lst (ea_cons ev_c (ea_cons ev_c ea_nil)) (show 2 ≤ 1000 by decide)
  · show gInt [.bool (decide (i < 0))] = _
    by_cases c : i < 0
    · rw [decide_eq_true c, if_pos c]; rfl
    · rw [decide_eq_false c, if_neg c]; rfl
  · unfold sgn
    by_cases c : i < 0
    · rw [if_pos c, if_pos c]; rfl
    · rw [if_neg c, if_neg c]; rfl
noncomputable def shw (p : Int × Int) : List Nat := tx p.1 ++ (if p.2 = 1 then [] else 47 :: tx p.2)
theorem shw_cp (p : Int × Int) : Cp (shw p) := by
  refine (tx_cp _).app ?_
  split
  · exact fun _ m => nomatch m
  · exact fun c m => (List.mem_cons.mp m).elim (fun e => by omega) (tx_cp _ c)
theorem shw_ne {p : Int × Int} (h : p.2 ≠ 1) : shw p = tx p.1 ++ [47] ++ tx p.2 := by
  unfold shw
  rw [if_neg h, List.append_assoc]; rfl
theorem show_ok {p : Int × Int} (h1 : Bt 400 p.1) (h2 : Bt 400 p.2) : Told F_show_fraction_50aa [prD p] (.str (mkS (shw p))) := by
  have l1 := tx_len h1
  have l2 := tx_len h2
  refine told_of rfl <| rt_seq (es_set (ev_blS (ea_cons (ev_ix (d := .int p.1) ev_var ev_c rfl) ea_nil) (gStr_ok h1))) ?_
  by_cases c : p.2 = 1
  · have : shw p = tx p.1 := by unfold shw; rw [if_pos c, List.append_nil]
    rw [this]
    exact rt_first (rt_if_t (et_V (ev_eq (ev_ix (d := .int p.2) ev_var ev_c rfl) ev_c (decide_eq_true c))) (rt_ret ev_var))
  · rw [shw_ne c]
    refine rt_seq (es_if_f (et_V (ev_eq (ev_ix (d := .int p.2) ev_var ev_c rfl) ev_c (decide_eq_false c))) rfl) (rt_ret ?_)
    exact ev_binS (ev_binS ev_var ev_c (by rw [s_sl]; exact gCatS_ok (by rw [List.length_singleton]; omega))) (ev_blS (ea_cons (ev_ix (d := .int p.2) ev_var ev_c rfl) ea_nil) (gStr_ok h2)) (gCatS_ok (by rw [List.length_append, List.length_singleton]; omega))
theorem split47 : ∀ {A B R S : List Nat}, 47 ∉ A → 47 ∉ B → (R = [] ∨ ∃ T, R = 47 :: T) → (S = [] ∨ ∃ T, S = 47 :: T) → A ++ R = B ++ S → A = B ∧ R = S := by
  intro A
  induction A with
  | nil =>
    intro B R S _ hB hR hS e
    cases B with
    | nil => exact ⟨rfl, e⟩
    | cons b B =>
      rcases hR with rfl | ⟨T, rfl⟩
      · cases e
      · have := (List.cons.inj e).1
        exact absurd (this ▸ .head _) hB
  | cons a A ih =>
    intro B R S hA hB hR hS e
    cases B with
    | nil =>
      rcases hS with rfl | ⟨T, rfl⟩
      · cases e
      · have := (List.cons.inj e).1
        exact absurd (this ▸ .head _) hA
    | cons b B =>
      obtain ⟨e1, e2⟩ := List.cons.inj e
      obtain ⟨h1, h2⟩ := ih (fun m => hA (.tail _ m)) (fun m => hB (.tail _ m)) hR hS e2
      exact ⟨by rw [e1, h1], h2⟩
theorem shw_inj {p q : Int × Int} (h : shw p = shw q) : p = q := by
  have n47 : ∀ i, 47 ∉ tx i := fun i m => by have := tx_mem m; omega
  have tl : ∀ b : Int, (if b = 1 then [] else 47 :: tx b) = [] ∨ ∃ T, (if b = 1 then [] else 47 :: tx b) = 47 :: T := fun b => by
    by_cases c : b = 1
    · rw [if_pos c]; exact .inl rfl
    · rw [if_neg c]; exact .inr ⟨_, rfl⟩
  obtain ⟨h1, h2⟩ := split47 (n47 _) (n47 _) (tl _) (tl _) h
  refine Prod.ext (tx_inj h1) ?_
  by_cases a : p.2 = 1
  · by_cases b : q.2 = 1
    · rw [a, b]
    · rw [if_pos a, if_neg b] at h2; cases h2
  · by_cases b : q.2 = 1
    · rw [if_neg a, if_pos b] at h2; cases h2
    · rw [if_neg a, if_neg b] at h2
      exact tx_inj (List.cons.inj h2).2
theorem ev_get2 {a b c : FE} {δ : DEnv} {x y z d : PyData} (ha : EvV a δ x) (hb : EvV b δ y) (hc : EvV c δ z) (h : gGet2 x y z = some d) : EvV (fGet2 a b c) δ d := by
  obtain ⟨t1, e1, d1⟩ := ha
  obtain ⟨t2, e2, d2⟩ := hb
  obtain ⟨t3, e3, d3⟩ := hc
  refine ⟨.fz d, ?_, OT.data_fz _⟩
  unfold fGet2
  rw [e1]
  show (b δ).bind _ = _
  rw [e2]
  show (c δ).bind _ = _
  rw [e3]
  show (gGet2 t1.data t2.data t3.data).bind _ = _
  rw [d1, d2, d3, h]; rfl
theorem es_dput {e j : FE} {δ : DEnv} {i : Nat} {d y : PyData} {t : Bool} {ks : List KY} {ds : List PyData} {k : KY} (he : EvV e δ d) (hi : δ[i]? = some (some (.dc t ks ds))) (hj : EvV j δ y) (hk : kyOf y = some k) (ht : isTK k = t) (hl : ks.length < 1000000) : fDPut i e j δ = .nx (δ.set i (some (.dc t (dPutK k ks) (dPutV k d ks ds)))) := by
  obtain ⟨t1, e1, d1⟩ := he
  obtain ⟨t2, e2, d2⟩ := hj
  unfold fDPut
  rw [wE_ap, e1, onO_some]
  rw [hi]
  dsimp only
  rw [wE_ap, e2, onO_some, d1, d2]
  rw [hk]
  dsimp only
  rw [if_pos ⟨ht, by rw [sizeLine_eq]; omega⟩]
noncomputable def kk (p : Int × Int) : KY := .inl (.inr (mkS (shw p)))
theorem kk_inj {p q : Int × Int} (h : kk p = kk q) : p = q := shw_inj (mkS_inj (Sum.inr.inj (Sum.inl.inj h)))
theorem val_kk (p : Int × Int) (L : List (Int × Int)) : (dVal (kk p) (L.map kk) (L.map prD)).getD (prD p) = prD p := by
  induction L with
  | nil => rfl
  | cons q L ih =>
    show (if kk q = kk p then some (prD q) else dVal (kk p) (L.map kk) (L.map prD)).getD (prD p) = _
    by_cases c : kk q = kk p
    · rw [if_pos c, kk_inj c]; rfl
    · rw [if_neg c]; exact ih
theorem get_kk (p : Int × Int) (L : List (Int × Int)) : gGet2 (dcD false (L.map kk) (L.map prD)) (.str (mkS (shw p))) (prD p) = some (prD p) := by
  show some ((dLook (kk p) (((L.map kk).map kyD).zip (L.map prD))).getD (prD p)) = _
  rw [dLook_zip, val_kk]
theorem rep_kk (p : Int × Int) (L : List (Int × Int)) : dRep (kk p) (prD p) (L.map kk) (L.map prD) = L.map prD := by
  induction L with
  | nil => rfl
  | cons q L ih =>
    show (if kk q = kk p then prD p else prD q) :: dRep (kk p) (prD p) (L.map kk) (L.map prD) = _
    rw [ih]
    by_cases c : kk q = kk p
    · rw [if_pos c, kk_inj c]; rfl
    · rw [if_neg c]; rfl
theorem put_kk (p : Int × Int) (L : List (Int × Int)) : ∃ M : List (Int × Int), dPutK (kk p) (L.map kk) = M.map kk ∧ dPutV (kk p) (prD p) (L.map kk) (L.map prD) = M.map prD ∧ M.length ≤ L.length + 1 := by
  unfold dPutK dPutV
  cases dHas (kk p) (L.map kk) with
  | true => exact ⟨L, if_pos rfl, by rw [if_pos rfl, rep_kk], Nat.le_succ _⟩
  | false => exact ⟨L ++ [p], by rw [if_neg Bool.false_ne_true, List.map_append]; rfl, by rw [if_neg Bool.false_ne_true, List.map_append]; rfl, by rw [List.length_append]; exact Nat.le_refl _⟩
theorem gNe_pr (p : Int × Int) : gNe (prD p) (prD p) = some (.bool false) := by
  have s : SeqAt.shaped (prD p) = true := ((show Sh 1 (prD p) from layT_ints [p.1, p.2]).shp (by omega)).ok
  unfold gNe
  rw [if_pos (by rw [s]; rfl)]
  have : PyData.eqv (prD p) (prD p) = true := by
    unfold prD
    simp [PyData.eqv, PyData.eqvAll]
  rw [this]; rfl
theorem plus_ok {q r : Rat} (bq : Bt 400 q.num) (dq : Bt 400 (q.den : Int)) (br : Bt 400 r.num) (dr : Bt 400 (r.den : Int)) : Told F_plus_b155 [frD q, frD r] (frD (q + r)) := by
  rw [← rat_plus]
  exact told_of rfl <| rt_ret <| ev_call (ea_cons (ev_add (ev_binS (ev_ix (d := .int q.num) ev_var ev_c rfl) (ev_ix (d := .int (r.den : Int)) ev_var ev_c rfl) (gMul_i (mulB_bt bq dr))) (ev_binS (ev_ix (d := .int r.num) ev_var ev_c rfl) (ev_ix (d := .int (q.den : Int)) ev_var ev_c rfl) (gMul_i (mulB_bt br dq)))) (ea_cons (ev_binS (ev_ix (d := .int (q.den : Int)) ev_var ev_c rfl) (ev_ix (d := .int (r.den : Int)) ev_var ev_c rfl) (gMul_i (mulB_bt dq dr))) ea_nil)) (in_least_ok (Int.ne_of_gt (Int.mul_pos (den_pos' q) (den_pos' r))) (dq.mul dr))
theorem times_ok {q r : Rat} (bq : Bt 400 q.num) (dq : Bt 400 (q.den : Int)) (br : Bt 400 r.num) (dr : Bt 400 (r.den : Int)) : Told F_times_1f0d [frD q, frD r] (frD (q * r)) := by
  rw [← rat_times]
  exact told_of rfl <| rt_ret <| ev_call (ea_cons (ev_binS (ev_ix (d := .int q.num) ev_var ev_c rfl) (ev_ix (d := .int r.num) ev_var ev_c rfl) (gMul_i (mulB_bt bq br))) (ea_cons (ev_binS (ev_ix (d := .int (q.den : Int)) ev_var ev_c rfl) (ev_ix (d := .int (r.den : Int)) ev_var ev_c rfl) (gMul_i (mulB_bt dq dr))) ea_nil)) (in_least_ok (Int.ne_of_gt (Int.mul_pos (den_pos' q) (den_pos' r))) (dq.mul dr))
theorem callO {F : FD} {as : FA} {δ : DEnv} {ds : List PyData} {o : OT} (h : EvA as δ ds) (k : F ds = .ok o) : fCall F as δ = some (o, δ) := by
  obtain ⟨ts, e1, e2⟩ := h
  rw [fCall_ap, e1]
  show okO (F (OT.datas ts)) δ = _
  rw [e2, k]; rfl
theorem eps_freeze {S : FS} {δ : DEnv} {i : Nat} {N : DEnv → Prop} {R : PyData → DEnv → Prop} {o : OT} (h : δ[i]? = some (some o)) (g : EpS S (δ.set i (some (.fz o.data))) N R) : EpS (fFreeze i S) δ N R := by
  unfold EpS at g ⊢
  rw [es_freeze h rfl]; exact g
theorem eps_setLP {as : FA} {δ : DEnv} {i : Nat} {N : DEnv → Prop} {R : PyData → DEnv → Prop} (h : EpA as δ fun ds δ1 => ds.length ≤ 1000 ∧ ∀ ts, OT.datas ts = ds → N (δ1.set i (some (.nd ts)))) : EpS (wE (fLst as) (kSetO i)) δ N R := by
  obtain ⟨ts, δ1, e, hl, q⟩ := h
  refine .inl ⟨_, ?_, q ts rfl⟩
  rw [wE_ap, fLst_ap, e]
  rw [datas_len] at hl
  show onO (if ts.length ≤ sizeLine then some (OT.nd ts, δ1) else none) _ = _
  rw [if_pos (by rw [sizeLine_eq]; omega), onO_some]; rfl
noncomputable def lw (ns : List Int) (z1 z2 z3 z4 z5 z6 z7 z8 : Option OT) : DEnv := [some (.fz (intsL ns)), z1, z2, z3, z4, z5, z6, z7, z8]
noncomputable def kn (L : List (Int × Int)) : OT := .dc false (L.map kk) (L.map prD)
noncomputable def P400 (p : Int × Int) : Prop := Bt 400 p.1 ∧ Bt 400 p.2
theorem one_ok {ns : List Int} {L : List (Int × Int)} {p : Int × Int} {z2 z3 z4 z5 z7 z8 : Option OT} (hp : P400 p) (hL : L.length ≤ 1000) : EpS (fSeq (wE (fCall F_law_text_a903 (aCons (fBin gIx (fVar 6) (fC (.int 0))) aNil)) (kSet 7))
    (fSeq (fIfS (tV (fBinS gNe (fBin gIx (fVar 6) (fC (.int 1))) (fC (.int 1))))
    (wE (fBinS gCatS (fBinS gCatS (fVar 7) (fC (.str "/"))) (fCall F_law_text_a903 (aCons (fBin gIx (fVar 6) (fC (.int 1))) aNil))) (kSet 7))
    fNx)
    (fSeq (wE (fCall F_show_fraction_50aa (aCons (fVar 6) aNil)) (kSet 8))
    (fSeq (fIfS (tO (tNo (tD (fIsi "str" (fVar 8)))) (tO (tV (fBinS gNe (fVar 8) (fVar 7))) (tV (fBinS gNe (fGet2 (fOwn 1) (fVar 8) (fVar 6)) (fVar 6)))))
    (wE (fC (.bool false)) kRet)
    fNx)
    (fDPut 1 (fVar 6) (fVar 8)))))) (lw ns (some (kn L)) z2 z3 z4 z5 (some (.fz (prD p))) z7 z8) (fun δ => ∃ M : List (Int × Int), M.length ≤ L.length + 1 ∧ δ = lw ns (some (kn M)) z2 z3 z4 z5 (some (.fz (prD p))) (some (.fz (.str (mkS (shw p))))) (some (.fz (.str (mkS (shw p)))))) fun _ _ => False := by
  obtain ⟨h1, h2⟩ := hp
  have l1 := tx_len h1
  have l2 := tx_len h2
  refine eps_seq (eps_of (es_set (ev_call (ea_cons (ev_ix (d := .int p.1) ev_var ev_c rfl) ea_nil) (text_ok h1))) ?_)
  refine eps_seq (eps_of (δ' := lw ns (some (kn L)) z2 z3 z4 z5 (some (.fz (prD p))) (some (.fz (.str (mkS (shw p))))) z8) ?_ ?_)
  · by_cases c : p.2 = 1
    · have : shw p = tx p.1 := by unfold shw; rw [if_pos c, List.append_nil]
      rw [this]
      exact es_if_f (et_V (ev_ne (ev_ix (d := .int p.2) ev_var ev_c rfl) ev_c (by rw [decide_eq_true c]; rfl))) rfl
    · rw [shw_ne c]
      exact es_if_t (et_V (ev_ne (ev_ix (d := .int p.2) ev_var ev_c rfl) ev_c (by rw [decide_eq_false c]; rfl))) (es_set (ev_binS (ev_binS ev_var ev_c (by rw [s_sl]; exact gCatS_ok (by rw [List.length_singleton]; omega))) (ev_call (ea_cons (ev_ix (d := .int p.2) ev_var ev_c rfl) ea_nil) (text_ok h2)) (gCatS_ok (by rw [List.length_append, List.length_singleton]; omega))))
  refine eps_seq (eps_of (es_set (ev_call (ea_cons ev_var ea_nil) (show_ok h1 h2))) ?_)
  have f1 : gNe (.str (mkS (shw p))) (.str (mkS (shw p))) = some (.bool false) := by rw [gNe_str (shw_cp p) (shw_cp p), decide_eq_true rfl]; rfl
  refine eps_seq (eps_of (es_if_f (et_o (et_no (p := true) (et_Db (ev_isT (x := .str (mkS (shw p))) ev_var rfl))) (et_o (et_V (ev_binS ev_var ev_var f1)) (et_V (ev_binS (ev_get2 (ev_own rfl (OT.data_dc _ _ _)) ev_var ev_var (get_kk p L)) ev_var (gNe_pr p))))) rfl) ?_)
  obtain ⟨M, e1, e2, hM⟩ := put_kk p L
  refine eps_of (es_dput ev_var rfl (ev_var (d := .str (mkS (shw p)))) (k := kk p) rfl rfl (by rw [List.length_map]; omega)) ⟨M, hM, ?_⟩
  rw [e1, e2]; rfl
theorem p400 {q : Rat} (h : BQ 267 q) : P400 (q.num, (q.den : Int)) := ⟨h.1.mono (by decide), h.2.mono (by decide)⟩
theorem law_true (ns : List Int) (hl : ns.length ≤ 63) : F_law_1faf [.list (ns.map PyData.int)] = .ok (.fz (.bool true)) := by
  show F_law_1faf [intsL ns] = _
  have key : EpS S_law_1faf (lw ns none none none none none none none none) (fun _ => False) fun d _ => d = .bool true := by
    refine eps_seq (eps_of (es_setO (o := kn []) rfl) ?_)
    refine eps_seq (eps_forP (epi_pure (ei_ra (n := max 1 (min 30 ns.length)) (ea_cons (EvV.cast (ev_blS (ea_cons ev_c (ea_cons (ev_blS (ea_cons ev_c (ea_cons (ev_intsLen ev_var) ea_nil)) rfl) ea_nil)) rfl) ?_) ea_nil) (by omega))
      ⟨fun k δ => ∃ L z2 z3 z4 z5 z6 z7 z8, δ = lw ns (some (kn L)) z2 z3 z4 z5 z6 z7 z8 ∧ L.length ≤ 7 * k, ⟨[], none, none, none, none, none, none, none, rfl, Nat.le_refl _⟩, fun k d δ hd q => ?_, fun δ' q => ?_⟩))
    · exact congrArg PyData.int (show (if (if (ns.length : Int) < 30 then (ns.length : Int) else 30) > 1 then if (ns.length : Int) < 30 then (ns.length : Int) else 30 else 1) = ((max 1 (min 30 ns.length) : Nat) : Int) by (repeat' split) <;> omega)
    · obtain ⟨L, z2, z3, z4, z5, z6, z7, z8, rfl, hL⟩ := q
      obtain ⟨hk, rfl⟩ := rngD_get hd
      rw [Int.zero_add]
      obtain ⟨t0, eP, p0⟩ := pool_ok ns (k := k) (by omega)
      refine ⟨_, rfl, eps_seq (eps_setO (callO (ea_cons ev_var (ea_cons ev_var ea_nil)) eP) ?_)⟩
      refine eps_seq (eps_set (ep_callI rfl (epa_nil ⟨t0, rfl, (q_ok p0 (by decide)).mono fun d t1 z => ?_⟩)))
      obtain ⟨q, rfl, bq, p1⟩ := z
      show EpS _ (lw ns (some (kn L)) (some (.fz (.int k))) (some t1) (some (.fz (frD q))) z5 z6 z7 z8) _ _
      have b1 : Bt 400 q.num := bq.1.mono (by decide)
      have b2 : Bt 400 (q.den : Int) := bq.2.mono (by decide)
      refine eps_seq (eps_setLP (epa_cons (ep_pure ev_var (epa_cons (ep_pure (ev_tup (ea_cons (ev_sub ev_c (ev_ix (d := .int q.num) ev_var ev_c rfl)) (ea_cons (ev_ix (d := .int (q.den : Int)) ev_var ev_c rfl) ea_nil)) (show 2 ≤ 1000 by decide)) (epa_cons (ep_pure (ev_tup (ea_cons (ev_ix (d := .int q.num) ev_var ev_c rfl) (ea_cons ev_c ea_nil)) (show 2 ≤ 1000 by decide)) (epa_cons (ep_pure (ev_tup (ea_cons (ev_ix (d := .int (q.den : Int)) ev_var ev_c rfl) (ea_cons ev_c ea_nil)) (show 2 ≤ 1000 by decide)) (epa_cons (ep_call (epa_cons (ep_pure ev_var (epa_cons (ep_callI rfl (epa_nil ⟨t1, rfl, (q_ok p1 (by decide)).mono fun d t2 z => ?_⟩))))))))))))))))
      obtain ⟨r, rfl, br, p2⟩ := z
      refine epa_nil ⟨_, plus_ok b1 b2 (br.1.mono (by decide)) (br.2.mono (by decide)), epa_cons (ep_pure (ev_call (ea_cons ev_var (ea_cons ev_var ea_nil)) (times_ok b1 b2 b1 b2)) (epa_nil ⟨show 6 ≤ 1000 by decide, fun ts et => ?_⟩))⟩
      have lt : ts.length = 6 := by have := congrArg List.length et; rwa [datas_len] at this
      have dt : (OT.nd ts).data = .list ([(q.num, (q.den : Int)), (0 - q.num, (q.den : Int)), (q.num, 1), ((q.den : Int), 1), ((q + r).num, ((q + r).den : Int)), ((q * q).num, ((q * q).den : Int))].map prD) := by rw [OT.data_nd, ← datas_map, et]; rfl
      have z400 : P400 (q.num, (q.den : Int)) := ⟨b1, b2⟩
      have one400 : Bt 400 1 := Bt.mono (m := 1) (by unfold Bt; decide) (by decide)
      have all : ∀ p ∈ [(q.num, (q.den : Int)), (0 - q.num, (q.den : Int)), (q.num, 1), ((q.den : Int), 1), ((q + r).num, ((q + r).den : Int)), ((q * q).num, ((q * q).den : Int))], P400 p := fun p hp => by
        simp only [List.mem_cons, List.not_mem_nil, or_false] at hp
        rcases hp with rfl | rfl | rfl | rfl | rfl | rfl
        · exact z400
        · exact ⟨by show Bt 400 (0 - q.num); rw [Int.zero_sub]; exact b1.neg, b2⟩
        · exact ⟨b1, one400⟩
        · exact ⟨b2, one400⟩
        · exact p400 (BQ.plus bq br)
        · exact p400 ((BQ.times bq bq).mono (by decide))
      generalize [(q.num, (q.den : Int)), (0 - q.num, (q.den : Int)), (q.num, 1), ((q.den : Int), 1), ((q + r).num, ((q + r).den : Int)), ((q * q).num, ((q * q).den : Int))] = Ps at dt all
      have lP : Ps.length = 6 := by
        have := congrArg (fun d : PyData => match d with | .list l => l.length | _ => 0) dt
        rw [OT.data_nd] at this
        simp only [List.length_map] at this
        omega
      have fin : ∀ (Qs : List (Int × Int)) (us : List OT), (OT.nd us).data = .list (Qs.map prD) → Qs.length ≤ 7 → (∀ p ∈ Qs, P400 p) → EpS (fFreeze 5 (fFor (iLst (fVar 5)) (gNm 6)
    (fSeq (wE (fCall F_law_text_a903 (aCons (fBin gIx (fVar 6) (fC (.int 0))) aNil)) (kSet 7))
    (fSeq (fIfS (tV (fBinS gNe (fBin gIx (fVar 6) (fC (.int 1))) (fC (.int 1))))
    (wE (fBinS gCatS (fBinS gCatS (fVar 7) (fC (.str "/"))) (fCall F_law_text_a903 (aCons (fBin gIx (fVar 6) (fC (.int 1))) aNil))) (kSet 7))
    fNx)
    (fSeq (wE (fCall F_show_fraction_50aa (aCons (fVar 6) aNil)) (kSet 8))
    (fSeq (fIfS (tO (tNo (tD (fIsi "str" (fVar 8)))) (tO (tV (fBinS gNe (fVar 8) (fVar 7))) (tV (fBinS gNe (fGet2 (fOwn 1) (fVar 8) (fVar 6)) (fVar 6)))))
    (wE (fC (.bool false)) kRet)
    fNx)
    (fDPut 1 (fVar 6) (fVar 8)))))))) (lw ns (some (kn L)) (some (.fz (.int k))) (some t2) (some (.fz (frD q))) (some (.nd us)) z6 z7 z8) (fun δ => ∃ L z2 z3 z4 z5 z6 z7 z8, δ = lw ns (some (kn L)) z2 z3 z4 z5 z6 z7 z8 ∧ L.length ≤ 7 * (k + 1)) (fun d _ => d = .bool true) := fun Qs us du lQ aQ => by
        refine eps_freeze rfl ?_
        rw [du]
        refine eps_for (ds := Qs.map prD) (fun i δ => ∃ M z6 z7 z8, δ = lw ns (some (kn M)) (some (.fz (.int k))) (some t2) (some (.fz (frD q))) (some (.fz (.list (Qs.map prD)))) z6 z7 z8 ∧ M.length ≤ 7 * k + i) (ei_lst ev_var) ⟨L, z6, z7, z8, rfl, hL⟩ (fun i d δ hd q => ?_) fun δ' q => ?_
        · obtain ⟨M, z6, z7, z8, rfl, hM⟩ := q
          have hi : i < Qs.length := by have := (List.getElem?_eq_some_iff.mp hd).1; rwa [List.length_map] at this
          obtain ⟨p, hp, rfl⟩ := List.mem_map.mp (List.mem_of_getElem? hd)
          refine ⟨_, rfl, (one_ok (aQ p hp) (by omega)).mono (fun δ' z => ?_) fun _ _ z => z.elim⟩
          obtain ⟨M2, hM2, rfl⟩ := z
          exact ⟨M2, _, _, _, rfl, by omega⟩
        · obtain ⟨M, z6, z7, z8, rfl, hM⟩ := q
          rw [List.length_map] at hM
          exact ⟨M, _, _, _, _, _, _, _, rfl, by omega⟩
      refine eps_seq (eps_if (ept_pure (et_V (ev_gt (ev_ix (d := .int q.num) ev_var ev_c rfl) ev_c rfl)) ⟨fun _ => ?_, fun _ => eps_nx (fin Ps ts dt (by omega) all)⟩))
      refine eps_of (es_app (d := prD ((q.den : Int), q.num)) (ev_tup (ea_cons (ev_ix (d := .int (q.den : Int)) ev_var ev_c rfl) (ea_cons (ev_ix (d := .int q.num) ev_var ev_c rfl) ea_nil)) (show 2 ≤ 1000 by decide)) rfl (by omega)) ?_
      refine fin (Ps ++ [((q.den : Int), q.num)]) (ts ++ [.fz (prD ((q.den : Int), q.num))]) ?_ (by rw [List.length_append, List.length_singleton]; omega) fun p hp => ?_
      · rw [OT.data_nd] at dt ⊢
        injection dt with dt
        rw [List.map_append, dt, List.map_append]; rfl
      · rcases List.mem_append.mp hp with h | h
        · exact all p h
        · rw [List.mem_singleton.mp h]; exact ⟨b2, b1⟩
    · obtain ⟨L, z2, z3, z4, z5, z6, z7, z8, rfl, _⟩ := q
      have e0 : shw (0, 1) = [48] := by decide +kernel
      have b0 : Bt 400 0 := Bt.mono (m := 1) (by unfold Bt; decide) (by decide)
      have b1 : Bt 400 1 := Bt.mono (m := 1) (by unfold Bt; decide) (by decide)
      refine eps_ret (ep_pure (ev_binS (ev_call (ea_cons (ev_tup (ea_cons ev_c (ea_cons ev_c ea_nil)) (show 2 ≤ 1000 by decide)) ea_nil) (show_ok (p := (0, 1)) b0 b1)) ev_c ?_) rfl)
      rw [e0, s_0]
      exact gEq_str (fun c m => by rw [List.mem_singleton.mp m]; decide) (fun c m => by rw [List.mem_singleton.mp m]; decide)
  unfold F_law_1faf
  rw [runD_ap (np := 1) (by rfl)]
  rcases key with ⟨_, _, z⟩ | ⟨o, δ', e, q⟩
  · exact z.elim
  · show (S_law_1faf (lw ns none none none none none none none none)).told = _
    rw [e, told_rt, bool_data q]
end My
namespace My
open PySem L2 PySem.Spec
theorem len1 {P : List Value → Prop} (h : ∀ a0, P [a0]) : ∀ us : List Value, us.length = 1 → P us := fun us hl => by
  rcases us with _ | ⟨a0, us⟩
  · exact absurd hl (by simp)
  rcases us with _ | ⟨b, us⟩
  · exact h a0
  · exact absurd hl (by simp)
theorem len2 {P : List Value → Prop} (h : ∀ a0 a1, P [a0, a1]) : ∀ us : List Value, us.length = 2 → P us := fun us hl => by
  rcases us with _ | ⟨a0, us⟩
  · exact absurd hl (by simp)
  rcases us with _ | ⟨a1, us⟩
  · exact absurd hl (by simp)
  rcases us with _ | ⟨b, us⟩
  · exact h a0 a1
  · exact absurd hl (by simp)
noncomputable def top (i : Nat) : Stmt := PySem.Challenge.pw_farcuts_k04_fractions_shown.main.body.getD i (.Pass ⟨0, 0, 0, 0⟩)
noncomputable abbrev s_law_pool : Stmt := top 7
noncomputable abbrev s_law_take : Stmt := top 8
noncomputable abbrev s_law_figures : Stmt := top 10
noncomputable abbrev s_law_lowest : Stmt := top 9
noncomputable abbrev s_law_q : Stmt := top 11
noncomputable abbrev s_law_text : Stmt := top 12
noncomputable abbrev s_greatest_divisor : Stmt := top 1
noncomputable abbrev s_in_least : Stmt := top 2
noncomputable abbrev s_plus : Stmt := top 3
noncomputable abbrev s_show_fraction : Stmt := top 5
noncomputable abbrev s_times : Stmt := top 4
noncomputable abbrev s_law : Stmt := top 13
set_option genInjectivity false in
set_option genSizeOfSpec false in
structure Txt (K : PySem.W.Frag) (mg : Str → Option Value) (f : Nat → Addr) (fd : Nat → FuncData) (cls : Nat → Addr) : Prop where
  F_law_pool : Fun K "_law_pool" "_law_pool" s_law_pool (f 0) (fd 0)
  b_law_pool : Binds K (fd 0) ["script", "k"] []
  m_law_pool : mg "_law_pool" = some (.ref (f 0))
  F_law_take : Fun K "_law_take" "_law_take" s_law_take (f 1) (fd 1)
  b_law_take : Binds K (fd 1) ["pool", "many"] []
  m_law_take : mg "_law_take" = some (.ref (f 1))
  F_law_figures : Fun K "_law_figures" "_law_figures" s_law_figures (f 2) (fd 2)
  b_law_figures : Binds K (fd 2) ["pool"] []
  m_law_figures : mg "_law_figures" = some (.ref (f 2))
  F_law_lowest : Fun K "_law_lowest" "_law_lowest" s_law_lowest (f 3) (fd 3)
  b_law_lowest : Binds K (fd 3) ["top", "bottom"] []
  m_law_lowest : mg "_law_lowest" = some (.ref (f 3))
  F_law_q : Fun K "_law_q" "_law_q" s_law_q (f 4) (fd 4)
  b_law_q : Binds K (fd 4) ["pool"] []
  m_law_q : mg "_law_q" = some (.ref (f 4))
  F_law_text : Fun K "_law_text" "_law_text" s_law_text (f 5) (fd 5)
  b_law_text : Binds K (fd 5) ["number"] []
  m_law_text : mg "_law_text" = some (.ref (f 5))
  F_greatest_divisor : Fun K "greatest_divisor" "greatest_divisor" s_greatest_divisor (f 6) (fd 6)
  b_greatest_divisor : Binds K (fd 6) ["a", "b"] []
  m_greatest_divisor : mg "greatest_divisor" = some (.ref (f 6))
  F_in_least : Fun K "in_least" "in_least" s_in_least (f 7) (fd 7)
  b_in_least : Binds K (fd 7) ["top", "bottom"] []
  m_in_least : mg "in_least" = some (.ref (f 7))
  F_plus : Fun K "plus" "plus" s_plus (f 8) (fd 8)
  b_plus : Binds K (fd 8) ["q", "r"] []
  m_plus : mg "plus" = some (.ref (f 8))
  F_show_fraction : Fun K "show_fraction" "show_fraction" s_show_fraction (f 9) (fd 9)
  b_show_fraction : Binds K (fd 9) ["q"] []
  m_show_fraction : mg "show_fraction" = some (.ref (f 9))
  F_times : Fun K "times" "times" s_times (f 10) (fd 10)
  b_times : Binds K (fd 10) ["q", "r"] []
  m_times : mg "times" = some (.ref (f 10))
  F_law : Fun K "law" "law" s_law (f 11) (fd 11)
  b_law : Binds K (fd 11) ["script"] []
  m_law : mg "law" = some (.ref (f 11))
  z_abs : mg "abs" = none
  z_int : mg "int" = none
  z_isinstance : mg "isinstance" = none
  z_len : mg "len" = none
  z_max : mg "max" = none
  z_min : mg "min" = none
  z_range : mg "range" = none
  z_str : mg "str" = none
section
variable {P : Program} {w : World} {K : PySem.W.Frag} {mg : Str → Option Value} {base : Heap}
theorem sc_law_pool : FnScope ["script", "k", "cell"] ["script", "k"] (defScope s_law_pool) := ⟨rfl, rfl, rfl, by decide +kernel, rfl, by decide +kernel, by decide +kernel⟩
theorem ok_law_pool {f : Nat → Addr} {fd : Nat → FuncData} {cls : Nat → Addr} (T : Txt K mg f fd cls) : FnOk P w K mg base CX0 1 (f 0) (fd 0) ["script", "k"] (spD K (sD F_law_pool_7d17)) := by
  refine fn_okD T.F_law_pool sc_law_pool (S := S_law_pool_7d17) rfl rfl (fun cdv A outer s H E hr => ?_)
  have hu := hr.units
  exact (fs_seq (mss_cons (fs_set (ms_set (i := 2) sc_law_pool.nd rfl (Or.inl rfl) (fe_c mc_int)))
      (fs_seq (mss_cons (fs_if (ms_if (ft_cmp b_lt (mt_cmp op_lt p2_cmp (fe_var (mv 1)) (fe_blS b_len (m_blS pn_len (call_lenK rfl) (by rfl) T.z_len L2.B.boot_len (fa_cons2 (fe_var (mv 0)) (fa_nil ma_nil)))) (hm := (nomark _)))) (mss_one (fs_set (ms_set (i := 2) sc_law_pool.nd rfl (Or.inl rfl) (fe_as (fe_bin b_ix (m_ix (ix_seqK rfl) p2_ix (fe_var (mv 0)) (fe_var (mv 1)) (hs := fun _ _ => rfl))))))) (fss_nil mss_nil)))
      (fs_seq (mss_cons (fs_if (ms_if (ft_cmp b_ge (mt_cmp op_ge p2_cmp (fe_var (mv 2)) (fe_binS b_pow (m_opS op_powG p2_pow (fe_c mc_int) (fe_c mc_int))) (hm := (nomark _)))) (mss_one (fs_ret (ms_ret (fe_lst (m_lst (fa_cons2 (fe_binS b_sub (m_opS op_sub p2_int0 (fe_var (mv 2)) (fe_binS b_pow (m_opS op_powG p2_pow (fe_c mc_int) (fe_c mc_int))))) (fa_cons2 (fe_c mc_int) (fa_cons2 (fe_c mc_int) (fa_nil ma_nil))))))))) (fss_nil mss_nil)))
      (mss_one (fs_ret (ms_ret (fe_lst (m_lst (fa_cons2 (fe_var (mv 2)) (fa_cons2 (fe_c mc_int) (fa_cons2 (fe_binS b_mul (m_opS op_mulG p2_mul (fe_c mc_int) (fe_var (mv 1)))) (fa_nil ma_nil)))))))))))))))
theorem sc_law_take : FnScope ["pool", "many", "found", "step", "mark"] ["pool", "many"] (defScope s_law_take) := ⟨rfl, rfl, rfl, by decide +kernel, rfl, by decide +kernel, by decide +kernel⟩
theorem ok_law_take {f : Nat → Addr} {fd : Nat → FuncData} {cls : Nat → Addr} (T : Txt K mg f fd cls) : FnOk P w K mg base CX0 1 (f 1) (fd 1) ["pool", "many"] (spI K (sI F_law_take_cd1a)) := by
  refine fn_okI T.F_law_take sc_law_take (S := S_law_take_cd1a) rfl rfl (fun cdv A outer s H E hr => ?_)
  have hu := hr.units
  exact (fs_seq (mss_cons (fs_if (ms_if (ft_cmp b_eq (mt_cmp (op_eqA hu) p2_eq (fe_as (fe_bin b_ix (m_ix (ix_seqK rfl) p2_ix (fe_own (mo 0)) (fe_c mc_int) (hs := fun _ _ => rfl)))) (fe_c mc_int) (hm := (nomark _)))) (fs_seq (mss_cons (fs_set (ms_set (i := 2) sc_law_take.nd rfl (Or.inl rfl) (fe_binS b_mod (m_opS op_modN p2_int (fe_as (fe_bin b_ix (m_ix (ix_seqK rfl) p2_ix (fe_own (mo 0)) (fe_c mc_int) (hs := fun _ _ => rfl)))) (fe_var (mv 1))))))
      (fs_seq (mss_cons (fs_put (ms_put 0 (fe_binS b_fdiv (m_opS op_fdivG p2_div (fe_as (fe_bin b_ix (m_ix (ix_seqK rfl) p2_ix (fe_own (mo 0)) (fe_c mc_int) (hs := fun _ _ => rfl)))) (fe_var (mv 1)))) (fe_c mc_int)))
      (mss_one (fs_ret (ms_ret (fe_var (mv 2))))))))) (fss_nil mss_nil)))
      (fs_seq (mss_cons (fs_put (ms_put 0 (fe_binS b_add (m_opS op_add p2_int0 (fe_as (fe_bin b_ix (m_ix (ix_seqK rfl) p2_ix (fe_own (mo 0)) (fe_c mc_int) (hs := fun _ _ => rfl)))) (fe_c mc_int))) (fe_c mc_int)))
      (fs_seq (mss_cons (fs_setS (ms_setS (i := 3) sc_law_take.nd rfl (Or.inl rfl) (fe_as (fe_bin b_ix (m_ix (ix_seqK rfl) p2_ix (fe_own (mo 0)) (fe_c mc_int) (hs := fun _ _ => rfl))))))
      (fs_seq (mss_cons (fs_set (ms_set (i := 4) sc_law_take.nd rfl (Or.inl rfl) (fe_binS b_mul (m_opS op_mulG p2_mul (fe_binS b_add (m_opS op_add p2_int0 (fe_binS b_mod (m_opS op_modN p2_int (fe_as (fe_bin b_ix (m_ix (ix_seqK rfl) p2_ix (fe_own (mo 0)) (fe_c mc_int) (hs := fun _ _ => rfl)))) (fe_c mc_int))) (fe_c mc_int))) (fe_binS b_add (m_opS op_add p2_int0 (fe_binS b_mul (m_opS op_mulG p2_mul (fe_c mc_int) (fe_var (mv 3)))) (fe_c mc_int)))))))
      (fs_seq (mss_cons (fs_set (ms_set (i := 4) sc_law_take.nd rfl (Or.inl rfl) (fe_binS b_add (m_opS op_add p2_int0 (fe_var (mv 4)) (fe_binS b_mul (m_opS op_mulG p2_mul (fe_binS b_mul (m_opS op_mulG p2_mul (fe_c mc_int) (fe_var (mv 3)))) (fe_var (mv 3))))))))
      (fs_seq (mss_cons (fs_set (ms_set (i := 4) sc_law_take.nd rfl (Or.inl rfl) (fe_binS b_mod (m_opS op_modN p2_int (fe_binS b_mul (m_opS op_mulG p2_mul (fe_var (mv 4)) (fe_var (mv 4)))) (fe_c mc_int)))))
      (mss_one (fs_ret (ms_ret (fe_binS b_mod (m_opS op_modN p2_int (fe_binS b_fdiv (m_opS op_fdivG p2_div (fe_binS b_mod (m_opS op_modN p2_int (fe_binS b_mul (m_opS op_mulG p2_mul (fe_var (mv 4)) (fe_binS b_add (m_opS op_add p2_int0 (fe_var (mv 4)) (fe_c mc_int))))) (fe_c mc_int))) (fe_c mc_int))) (fe_var (mv 1)))))))))))))))))))
theorem sc_law_figures : FnScope ["pool", "found", "turn"] ["pool"] (defScope s_law_figures) := ⟨rfl, rfl, rfl, by decide +kernel, rfl, by decide +kernel, by decide +kernel⟩
theorem ok_law_figures {f : Nat → Addr} {fd : Nat → FuncData} {cls : Nat → Addr} (T : Txt K mg f fd cls) : FnOk P w K mg base CX0 2 (f 2) (fd 2) ["pool"] (spI K (sI F_law_figures_2068)) := by
  have G_law_take := ok_law_take (P := P) (w := w) (base := base) T
  refine fn_okI T.F_law_figures sc_law_figures (S := S_law_figures_2068) rfl rfl (fun cdv A outer s H E hr => ?_)
  have hu := hr.units
  exact (fs_seq (mss_cons (fs_set (ms_set (i := 1) sc_law_figures.nd rfl (Or.inl rfl) (fe_c mc_int)))
      (fs_seq (mss_cons (fs_for (ms_for PassesOwn.never rfl (fi_r1 (mi_range1 (by rfl) T.z_range (fa_cons2 (fe_as (fe_bin b_ix (m_ix (ix_seqK rfl) p2_ix (fe_lst (m_lst (fa_cons2 (fe_c mc_int) (fa_cons2 (fe_c mc_int) (fa_cons2 (fe_c mc_int) (fa_cons2 (fe_c mc_int) (fa_nil ma_nil))))))) (fe_callI (m_callI (i := 0) G_law_take (hr.mono (by decide)) (by rfl) T.m_law_take T.F_law_take.kp T.b_law_take pass0 (fa_cons2 (fe_c mc_int) (fa_nil ma_nil)))) (hs := fun _ _ => rfl)))) (fa_nil ma_nil)))) (fg_name (mg_name (i := 2) sc_law_figures.nd))
      (mss_one (fs_set (ms_set (i := 1) sc_law_figures.nd rfl (Or.inl rfl) (fe_binS b_add (m_opS op_add p2_int0 (fe_binS b_mul (m_opS op_mulG p2_mul (fe_var (mv 1)) (fe_binS b_pow (m_opS op_powG p2_pow (fe_c mc_int) (fe_c mc_int))))) (fe_callI (m_callI (i := 0) G_law_take (hr.mono (by decide)) (by rfl) T.m_law_take T.F_law_take.kp T.b_law_take pass0 (fa_cons2 (fe_binS b_pow (m_opS op_powG p2_pow (fe_c mc_int) (fe_c mc_int))) (fa_nil ma_nil)))))))))))
      (mss_one (fs_ret (ms_ret (fe_binS b_mod (m_opS op_modN p2_int (fe_var (mv 1)) (fe_binS b_pow (m_opS op_powG p2_pow (fe_c mc_int) (fe_c mc_int))))))))))))
theorem sc_law_lowest : FnScope ["top", "bottom", "one", "other"] ["top", "bottom"] (defScope s_law_lowest) := ⟨rfl, rfl, rfl, by decide +kernel, rfl, by decide +kernel, by decide +kernel⟩
theorem ok_law_lowest {f : Nat → Addr} {fd : Nat → FuncData} {cls : Nat → Addr} (T : Txt K mg f fd cls) : FnOk P w K mg base CX0 1 (f 3) (fd 3) ["top", "bottom"] (spD K (sD F_law_lowest_4ce7)) := by
  refine fn_okD T.F_law_lowest sc_law_lowest (S := S_law_lowest_4ce7) rfl rfl (fun cdv A outer s H E hr => ?_)
  have hu := hr.units
  exact (fs_seq (mss_cons (fs_set (ms_set (i := 2) sc_law_lowest.nd rfl (Or.inl rfl) (fe_blS b_abs (m_blS pn_abs call_abs (by rfl) T.z_abs L2.B.boot_abs (fa_cons2 (fe_var (mv 0)) (fa_nil ma_nil))))))
      (fs_seq (mss_cons (fs_set (ms_set (i := 3) sc_law_lowest.nd rfl (Or.inl rfl) (fe_blS b_abs (m_blS pn_abs call_abs (by rfl) T.z_abs L2.B.boot_abs (fa_cons2 (fe_var (mv 1)) (fa_nil ma_nil))))))
      (fs_seq (mss_cons (fs_while (ms_while PassesOwn.never (ft_cmp b_ne (mt_cmp (op_neA hu) p2_ne (fe_var (mv 3)) (fe_c mc_int) (hm := (nomark _)))) (mss_one (fs_par (ms_par rfl sc_law_lowest.nd rfl rfl (by decide) rfl rfl (fa_cons2 (fe_var (mv 3)) (fa_cons2 (fe_binS b_mod (m_opS op_modN p2_int (fe_var (mv 2)) (fe_var (mv 3)))) (fa_nil ma_nil))))))))
      (fs_seq (mss_cons (fs_if (ms_if (ft_cmp b_lt (mt_cmp op_lt p2_cmp (fe_var (mv 1)) (fe_c mc_int) (hm := (nomark _)))) (mss_one (fs_set (ms_set (i := 2) sc_law_lowest.nd rfl (Or.inl rfl) (fe_binS b_sub (m_opS op_sub p2_int0 (fe_c mc_int) (fe_var (mv 2))))))) (fss_nil mss_nil)))
      (mss_one (fs_ret (ms_ret (fe_tup (m_tup (fa_cons2 (fe_binS b_fdiv (m_opS op_fdivG p2_div (fe_var (mv 0)) (fe_var (mv 2)))) (fa_cons2 (fe_binS b_fdiv (m_opS op_fdivG p2_div (fe_var (mv 1)) (fe_var (mv 2)))) (fa_nil ma_nil))))))))))))))))
theorem sc_law_q : FnScope ["pool", "sign", "kind"] ["pool"] (defScope s_law_q) := ⟨rfl, rfl, rfl, by decide +kernel, rfl, by decide +kernel, by decide +kernel⟩
theorem ok_law_q {f : Nat → Addr} {fd : Nat → FuncData} {cls : Nat → Addr} (T : Txt K mg f fd cls) : FnOk P w K mg base CX0 3 (f 4) (fd 4) ["pool"] (spI K (sI F_law_q_8717)) := by
  have G_law_figures := ok_law_figures (P := P) (w := w) (base := base) T
  have G_law_lowest := ok_law_lowest (P := P) (w := w) (base := base) T
  have G_law_take := ok_law_take (P := P) (w := w) (base := base) T
  refine fn_okI T.F_law_q sc_law_q (S := S_law_q_8717) rfl rfl (fun cdv A outer s H E hr => ?_)
  have hu := hr.units
  exact (fs_seq (mss_cons (fs_set (ms_set (i := 1) sc_law_q.nd rfl (Or.inl rfl) (fe_binS b_sub (m_opS op_sub p2_int0 (fe_c mc_int) (fe_binS b_mul (m_opS op_mulG p2_mul (fe_c mc_int) (fe_callI (m_callI (i := 0) G_law_take (hr.mono (by decide)) (by rfl) T.m_law_take T.F_law_take.kp T.b_law_take pass0 (fa_cons2 (fe_c mc_int) (fa_nil ma_nil))))))))))
      (fs_seq (mss_cons (fs_set (ms_set (i := 2) sc_law_q.nd rfl (Or.inl rfl) (fe_callI (m_callI (i := 0) G_law_take (hr.mono (by decide)) (by rfl) T.m_law_take T.F_law_take.kp T.b_law_take pass0 (fa_cons2 (fe_c mc_int) (fa_nil ma_nil))))))
      (fs_seq (mss_cons (fs_if (ms_if (ft_cmp b_eq (mt_cmp (op_eqA hu) p2_eq (fe_var (mv 2)) (fe_c mc_int) (hm := (nomark _)))) (mss_one (fs_ret (ms_ret (fe_tup (m_tup (fa_cons2 (fe_c mc_int) (fa_cons2 (fe_c mc_int) (fa_nil ma_nil)))))))) (fss_nil mss_nil)))
      (fs_seq (mss_cons (fs_if (ms_if (ft_cmp b_lt (mt_cmp op_lt p2_cmp (fe_var (mv 2)) (fe_c mc_int) (hm := (nomark _)))) (mss_one (fs_ret (ms_ret (fe_call (m_call G_law_lowest (hr.mono (by decide)) (by rfl) T.m_law_lowest T.F_law_lowest.kp T.b_law_lowest pass0 (fa_cons2 (fe_binS b_mul (m_opS op_mulG p2_mul (fe_var (mv 1)) (fe_callI (m_callI (i := 0) G_law_take (hr.mono (by decide)) (by rfl) T.m_law_take T.F_law_take.kp T.b_law_take pass0 (fa_cons2 (fe_c mc_int) (fa_nil ma_nil)))))) (fa_cons2 (fe_as (fe_bin b_ix (m_ix (ix_seqK rfl) p2_ix (fe_lst (m_lst (fa_cons2 (fe_c mc_int) (fa_cons2 (fe_c mc_int) (fa_cons2 (fe_c mc_int) (fa_cons2 (fe_c mc_int) (fa_cons2 (fe_c mc_int) (fa_nil ma_nil)))))))) (fe_callI (m_callI (i := 0) G_law_take (hr.mono (by decide)) (by rfl) T.m_law_take T.F_law_take.kp T.b_law_take pass0 (fa_cons2 (fe_c mc_int) (fa_nil ma_nil)))) (hs := fun _ _ => rfl)))) (fa_nil ma_nil)))))))) (fss_nil mss_nil)))
      (mss_one (fs_ret (ms_ret (fe_call (m_call G_law_lowest (hr.mono (by decide)) (by rfl) T.m_law_lowest T.F_law_lowest.kp T.b_law_lowest pass0 (fa_cons2 (fe_binS b_mul (m_opS op_mulG p2_mul (fe_var (mv 1)) (fe_callI (m_callI (i := 0) G_law_figures (hr.mono (by decide)) (by rfl) T.m_law_figures T.F_law_figures.kp T.b_law_figures pass0 (fa_nil ma_nil))))) (fa_cons2 (fe_as (fe_bin b_ix (m_ix (ix_seqK rfl) p2_ix (fe_lst (m_lst (fa_cons2 (fe_c mc_int) (fa_cons2 (fe_binS b_add (m_opS op_add p2_int0 (fe_c mc_int) (fe_binS b_mod (m_opS op_modN p2_int (fe_callI (m_callI (i := 0) G_law_figures (hr.mono (by decide)) (by rfl) T.m_law_figures T.F_law_figures.kp T.b_law_figures pass0 (fa_nil ma_nil))) (fe_binS b_sub (m_opS op_sub p2_int0 (fe_binS b_pow (m_opS op_powG p2_pow (fe_c mc_int) (fe_c mc_int))) (fe_c mc_int))))))) (fa_nil ma_nil))))) (fe_binS b_sub (m_opS op_sub p2_int0 (fe_var (mv 2)) (fe_c mc_int))) (hs := fun _ _ => rfl)))) (fa_nil ma_nil))))))))))))))))
theorem sc_law_text : FnScope ["number", "found", "left"] ["number"] (defScope s_law_text) := ⟨rfl, rfl, rfl, by decide +kernel, rfl, by decide +kernel, by decide +kernel⟩
theorem ok_law_text {f : Nat → Addr} {fd : Nat → FuncData} {cls : Nat → Addr} (T : Txt K mg f fd cls) : FnOk P w K mg base CX0 1 (f 5) (fd 5) ["number"] (spD K (sD F_law_text_a903)) := by
  refine fn_okD T.F_law_text sc_law_text (S := S_law_text_a903) rfl rfl (fun cdv A outer s H E hr => ?_)
  have hu := hr.units
  exact (fs_seq (mss_cons (fs_set (ms_set (i := 1) sc_law_text.nd rfl (Or.inl rfl) (fe_c mc_str)))
      (fs_seq (mss_cons (fs_set (ms_set (i := 2) sc_law_text.nd rfl (Or.inl rfl) (fe_blS b_abs (m_blS pn_abs call_abs (by rfl) T.z_abs L2.B.boot_abs (fa_cons2 (fe_var (mv 0)) (fa_nil ma_nil))))))
      (fs_seq (mss_cons (fs_while (ms_while PassesOwn.never (MW.mt (ft_or (mw_or (ft_cmp b_gt (mt_cmp op_gt p2_cmp (fe_var (mv 2)) (fe_c mc_int) (hm := (nomark _)))) (mw_or1 (ft_cmp b_eq (mt_cmp (op_eqA hu) p2_eq (fe_var (mv 1)) (fe_c mc_str) (hm := (nomark _)))))))) (fs_seq (mss_cons (fs_set (ms_set (i := 1) sc_law_text.nd rfl (Or.inl rfl) (fe_binS b_catS (m_opS op_add_str p2_catS (fe_as (fe_bin b_ixS (m_ix (ix_seqK rfl) p2_ixS (fe_c mc_str) (fe_binS b_mod (m_opS op_modN p2_int (fe_var (mv 2)) (fe_c mc_int))) (hs := fun _ _ => rfl)))) (fe_var (mv 1))))))
      (mss_one (fs_set (ms_set (i := 2) sc_law_text.nd rfl (Or.inl rfl) (fe_binS b_fdiv (m_opS op_fdivG p2_div (fe_var (mv 2)) (fe_c mc_int))))))))))
      (mss_one (fs_ret (ms_ret (fe_binS b_catS (m_opS op_add_str p2_catS (fe_as (fe_bin b_ix (m_ix (ix_seqK rfl) p2_ix (fe_lst (m_lst (fa_cons2 (fe_c mc_str) (fa_cons2 (fe_c mc_str) (fa_nil ma_nil))))) (fe_blS b_int (m_tyS pn_int call_int1 (by rfl) T.z_int L2.B.boot_int (fa_cons2 (fe_binS b_lt (m_cmp op_lt p2_cmp (fe_var (mv 0)) (fe_c mc_int) (hm := (nomark _)))) (fa_nil ma_nil)))) (hs := fun _ _ => rfl)))) (fe_var (mv 1)))))))))))))
theorem sc_greatest_divisor : FnScope ["a", "b", "left"] ["a", "b"] (defScope s_greatest_divisor) := ⟨rfl, rfl, rfl, by decide +kernel, rfl, by decide +kernel, by decide +kernel⟩
theorem ok_greatest_divisor {f : Nat → Addr} {fd : Nat → FuncData} {cls : Nat → Addr} (T : Txt K mg f fd cls) : FnOk P w K mg base CX0 1 (f 6) (fd 6) ["a", "b"] (spD K (sD F_greatest_divisor_46d9)) := by
  refine fn_okD T.F_greatest_divisor sc_greatest_divisor (S := S_greatest_divisor_46d9) rfl rfl (fun cdv A outer s H E hr => ?_)
  have hu := hr.units
  exact (fs_seq (mss_cons (fs_set (ms_set (i := 0) sc_greatest_divisor.nd rfl (Or.inl rfl) (fe_blS b_abs (m_blS pn_abs call_abs (by rfl) T.z_abs L2.B.boot_abs (fa_cons2 (fe_var (mv 0)) (fa_nil ma_nil))))))
      (fs_seq (mss_cons (fs_set (ms_set (i := 1) sc_greatest_divisor.nd rfl (Or.inl rfl) (fe_blS b_abs (m_blS pn_abs call_abs (by rfl) T.z_abs L2.B.boot_abs (fa_cons2 (fe_var (mv 1)) (fa_nil ma_nil))))))
      (fs_seq (mss_cons (fs_while (ms_while PassesOwn.never (ft_cmp b_ne (mt_cmp (op_neA hu) p2_ne (fe_var (mv 1)) (fe_c mc_int) (hm := (nomark _)))) (fs_seq (mss_cons (fs_set (ms_set (i := 2) sc_greatest_divisor.nd rfl (Or.inl rfl) (fe_binS b_mod (m_opS op_modN p2_int (fe_var (mv 0)) (fe_var (mv 1))))))
      (fs_seq (mss_cons (fs_set (ms_set (i := 0) sc_greatest_divisor.nd rfl (Or.inl rfl) (fe_var (mv 1))))
      (mss_one (fs_set (ms_set (i := 1) sc_greatest_divisor.nd rfl (Or.inl rfl) (fe_var (mv 2)))))))))))
      (mss_one (fs_ret (ms_ret (fe_var (mv 0)))))))))))
theorem sc_in_least : FnScope ["top", "bottom", "shared"] ["top", "bottom"] (defScope s_in_least) := ⟨rfl, rfl, rfl, by decide +kernel, rfl, by decide +kernel, by decide +kernel⟩
theorem ok_in_least {f : Nat → Addr} {fd : Nat → FuncData} {cls : Nat → Addr} (T : Txt K mg f fd cls) : FnOk P w K mg base CX0 2 (f 7) (fd 7) ["top", "bottom"] (spD K (sD F_in_least_2747)) := by
  have G_greatest_divisor := ok_greatest_divisor (P := P) (w := w) (base := base) T
  refine fn_okD T.F_in_least sc_in_least (S := S_in_least_2747) rfl rfl (fun cdv A outer s H E hr => ?_)
  have hu := hr.units
  exact (fs_seq (mss_cons (fs_set (ms_set (i := 2) sc_in_least.nd rfl (Or.inl rfl) (fe_call (m_call G_greatest_divisor (hr.mono (by decide)) (by rfl) T.m_greatest_divisor T.F_greatest_divisor.kp T.b_greatest_divisor pass0 (fa_cons2 (fe_var (mv 0)) (fa_cons2 (fe_var (mv 1)) (fa_nil ma_nil)))))))
      (fs_seq (mss_cons (fs_if (ms_if (ft_cmp b_lt (mt_cmp op_lt p2_cmp (fe_var (mv 1)) (fe_c mc_int) (hm := (nomark _)))) (mss_one (fs_set (ms_set (i := 2) sc_in_least.nd rfl (Or.inl rfl) (fe_neg (m_neg (fe_var (mv 2))))))) (fss_nil mss_nil)))
      (mss_one (fs_ret (ms_ret (fe_tup (m_tup (fa_cons2 (fe_binS b_fdiv (m_opS op_fdivG p2_div (fe_var (mv 0)) (fe_var (mv 2)))) (fa_cons2 (fe_binS b_fdiv (m_opS op_fdivG p2_div (fe_var (mv 1)) (fe_var (mv 2)))) (fa_nil ma_nil))))))))))))
theorem sc_plus : FnScope ["q", "r"] ["q", "r"] (defScope s_plus) := ⟨rfl, rfl, rfl, by decide +kernel, rfl, by decide +kernel, by decide +kernel⟩
theorem ok_plus {f : Nat → Addr} {fd : Nat → FuncData} {cls : Nat → Addr} (T : Txt K mg f fd cls) : FnOk P w K mg base CX0 3 (f 8) (fd 8) ["q", "r"] (spD K (sD F_plus_b155)) := by
  have G_in_least := ok_in_least (P := P) (w := w) (base := base) T
  refine fn_okD T.F_plus sc_plus (S := S_plus_b155) rfl rfl (fun cdv A outer s H E hr => ?_)
  have hu := hr.units
  exact (mss_one (fs_ret (ms_ret (fe_call (m_call G_in_least (hr.mono (by decide)) (by rfl) T.m_in_least T.F_in_least.kp T.b_in_least pass0 (fa_cons2 (fe_binS b_add (m_opS op_add p2_int0 (fe_binS b_mul (m_opS op_mulG p2_mul (fe_as (fe_bin b_ix (m_ix (ix_seqK rfl) p2_ix (fe_var (mv 0)) (fe_c mc_int) (hs := fun _ _ => rfl)))) (fe_as (fe_bin b_ix (m_ix (ix_seqK rfl) p2_ix (fe_var (mv 1)) (fe_c mc_int) (hs := fun _ _ => rfl)))))) (fe_binS b_mul (m_opS op_mulG p2_mul (fe_as (fe_bin b_ix (m_ix (ix_seqK rfl) p2_ix (fe_var (mv 1)) (fe_c mc_int) (hs := fun _ _ => rfl)))) (fe_as (fe_bin b_ix (m_ix (ix_seqK rfl) p2_ix (fe_var (mv 0)) (fe_c mc_int) (hs := fun _ _ => rfl)))))))) (fa_cons2 (fe_binS b_mul (m_opS op_mulG p2_mul (fe_as (fe_bin b_ix (m_ix (ix_seqK rfl) p2_ix (fe_var (mv 0)) (fe_c mc_int) (hs := fun _ _ => rfl)))) (fe_as (fe_bin b_ix (m_ix (ix_seqK rfl) p2_ix (fe_var (mv 1)) (fe_c mc_int) (hs := fun _ _ => rfl)))))) (fa_nil ma_nil))))))))
theorem sc_show_fraction : FnScope ["q", "top"] ["q"] (defScope s_show_fraction) := ⟨rfl, rfl, rfl, by decide +kernel, rfl, by decide +kernel, by decide +kernel⟩
theorem ok_show_fraction {f : Nat → Addr} {fd : Nat → FuncData} {cls : Nat → Addr} (T : Txt K mg f fd cls) : FnOk P w K mg base CX0 1 (f 9) (fd 9) ["q"] (spD K (sD F_show_fraction_50aa)) := by
  refine fn_okD T.F_show_fraction sc_show_fraction (S := S_show_fraction_50aa) rfl rfl (fun cdv A outer s H E hr => ?_)
  have hu := hr.units
  exact (fs_seq (mss_cons (fs_set (ms_set (i := 1) sc_show_fraction.nd rfl (Or.inl rfl) (fe_blS b_str (m_tyS pn_str call_str_int (by rfl) T.z_str L2.B.boot_str (fa_cons2 (fe_as (fe_bin b_ix (m_ix (ix_seqK rfl) p2_ix (fe_var (mv 0)) (fe_c mc_int) (hs := fun _ _ => rfl)))) (fa_nil ma_nil))))))
      (fs_seq (mss_cons (fs_if (ms_if (ft_cmp b_eq (mt_cmp (op_eqA hu) p2_eq (fe_as (fe_bin b_ix (m_ix (ix_seqK rfl) p2_ix (fe_var (mv 0)) (fe_c mc_int) (hs := fun _ _ => rfl)))) (fe_c mc_int) (hm := (nomark _)))) (mss_one (fs_ret (ms_ret (fe_var (mv 1))))) (fss_nil mss_nil)))
      (mss_one (fs_ret (ms_ret (fe_binS b_catS (m_opS op_add_str p2_catS (fe_binS b_catS (m_opS op_add_str p2_catS (fe_var (mv 1)) (fe_c mc_str))) (fe_blS b_str (m_tyS pn_str call_str_int (by rfl) T.z_str L2.B.boot_str (fa_cons2 (fe_as (fe_bin b_ix (m_ix (ix_seqK rfl) p2_ix (fe_var (mv 0)) (fe_c mc_int) (hs := fun _ _ => rfl)))) (fa_nil ma_nil)))))))))))))
theorem sc_times : FnScope ["q", "r"] ["q", "r"] (defScope s_times) := ⟨rfl, rfl, rfl, by decide +kernel, rfl, by decide +kernel, by decide +kernel⟩
theorem ok_times {f : Nat → Addr} {fd : Nat → FuncData} {cls : Nat → Addr} (T : Txt K mg f fd cls) : FnOk P w K mg base CX0 3 (f 10) (fd 10) ["q", "r"] (spD K (sD F_times_1f0d)) := by
  have G_in_least := ok_in_least (P := P) (w := w) (base := base) T
  refine fn_okD T.F_times sc_times (S := S_times_1f0d) rfl rfl (fun cdv A outer s H E hr => ?_)
  have hu := hr.units
  exact (mss_one (fs_ret (ms_ret (fe_call (m_call G_in_least (hr.mono (by decide)) (by rfl) T.m_in_least T.F_in_least.kp T.b_in_least pass0 (fa_cons2 (fe_binS b_mul (m_opS op_mulG p2_mul (fe_as (fe_bin b_ix (m_ix (ix_seqK rfl) p2_ix (fe_var (mv 0)) (fe_c mc_int) (hs := fun _ _ => rfl)))) (fe_as (fe_bin b_ix (m_ix (ix_seqK rfl) p2_ix (fe_var (mv 1)) (fe_c mc_int) (hs := fun _ _ => rfl)))))) (fa_cons2 (fe_binS b_mul (m_opS op_mulG p2_mul (fe_as (fe_bin b_ix (m_ix (ix_seqK rfl) p2_ix (fe_var (mv 0)) (fe_c mc_int) (hs := fun _ _ => rfl)))) (fe_as (fe_bin b_ix (m_ix (ix_seqK rfl) p2_ix (fe_var (mv 1)) (fe_c mc_int) (hs := fun _ _ => rfl)))))) (fa_nil ma_nil))))))))
theorem sc_law : FnScope ["script", "known", "k", "pool", "q", "rows", "one", "due", "found"] ["script"] (defScope s_law) := ⟨rfl, rfl, rfl, by decide +kernel, rfl, by decide +kernel, by decide +kernel⟩
theorem ok_law {f : Nat → Addr} {fd : Nat → FuncData} {cls : Nat → Addr} (T : Txt K mg f fd cls) : FnOk P w K mg base CX0 4 (f 11) (fd 11) ["script"] (spD K (sD F_law_1faf)) := by
  have G_law_pool := ok_law_pool (P := P) (w := w) (base := base) T
  have G_law_q := ok_law_q (P := P) (w := w) (base := base) T
  have G_law_text := ok_law_text (P := P) (w := w) (base := base) T
  have G_plus := ok_plus (P := P) (w := w) (base := base) T
  have G_show_fraction := ok_show_fraction (P := P) (w := w) (base := base) T
  have G_times := ok_times (P := P) (w := w) (base := base) T
  refine fn_okD T.F_law sc_law (S := S_law_1faf) rfl rfl (fun cdv A outer s H E hr => ?_)
  have hu := hr.units
  exact (fs_seq (mss_cons (fs_setO (ms_setO (i := 1) sc_law.nd rfl (Or.inl rfl) (fe_dict m_dictK)))
      (fs_seq (mss_cons (fs_for (ms_for PassesOwn.never rfl (fi_r1 (mi_range1 (by rfl) T.z_range (fa_cons2 (fe_blS b_max (m_blS pn_max2 (call_max2 (by rfl)) (by rfl) T.z_max L2.B.boot_max (fa_cons2 (fe_c mc_int) (fa_cons2 (fe_blS b_min (m_blS pn_min2 (call_min2 (by rfl)) (by rfl) T.z_min L2.B.boot_min (fa_cons2 (fe_c mc_int) (fa_cons2 (fe_blS b_len (m_blS pn_len (call_lenK rfl) (by rfl) T.z_len L2.B.boot_len (fa_cons2 (fe_var (mv 0)) (fa_nil ma_nil)))) (fa_nil ma_nil))))) (fa_nil ma_nil))))) (fa_nil ma_nil)))) (fg_name (mg_name (i := 2) sc_law.nd))
      (fs_seq (mss_cons (fs_setO (ms_setO (i := 3) sc_law.nd rfl (Or.inl rfl) (fe_call (m_call G_law_pool (hr.mono (by decide)) (by rfl) T.m_law_pool T.F_law_pool.kp T.b_law_pool pass0 (fa_cons2 (fe_var (mv 0)) (fa_cons2 (fe_var (mv 2)) (fa_nil ma_nil)))))))
      (fs_seq (mss_cons (fs_set (ms_set (i := 4) sc_law.nd rfl (Or.inl rfl) (fe_callI (m_callI (i := 3) G_law_q (hr.mono (by decide)) (by rfl) T.m_law_q T.F_law_q.kp T.b_law_q pass0 (fa_nil ma_nil)))))
      (fs_seq (mss_cons (fs_setO (ms_setO (i := 5) sc_law.nd rfl (Or.inl rfl) (fe_lst (m_lst (fa_cons2 (fe_var (mv 4)) (fa_cons2 (fe_tup (m_tup (fa_cons2 (fe_binS b_sub (m_opS op_sub p2_int0 (fe_c mc_int) (fe_as (fe_bin b_ix (m_ix (ix_seqK rfl) p2_ix (fe_var (mv 4)) (fe_c mc_int) (hs := fun _ _ => rfl)))))) (fa_cons2 (fe_as (fe_bin b_ix (m_ix (ix_seqK rfl) p2_ix (fe_var (mv 4)) (fe_c mc_int) (hs := fun _ _ => rfl)))) (fa_nil ma_nil))))) (fa_cons2 (fe_tup (m_tup (fa_cons2 (fe_as (fe_bin b_ix (m_ix (ix_seqK rfl) p2_ix (fe_var (mv 4)) (fe_c mc_int) (hs := fun _ _ => rfl)))) (fa_cons2 (fe_c mc_int) (fa_nil ma_nil))))) (fa_cons2 (fe_tup (m_tup (fa_cons2 (fe_as (fe_bin b_ix (m_ix (ix_seqK rfl) p2_ix (fe_var (mv 4)) (fe_c mc_int) (hs := fun _ _ => rfl)))) (fa_cons2 (fe_c mc_int) (fa_nil ma_nil))))) (fa_cons2 (fe_call (m_call G_plus (hr.mono (by decide)) (by rfl) T.m_plus T.F_plus.kp T.b_plus pass0 (fa_cons2 (fe_var (mv 4)) (fa_cons2 (fe_callI (m_callI (i := 3) G_law_q (hr.mono (by decide)) (by rfl) T.m_law_q T.F_law_q.kp T.b_law_q pass0 (fa_nil ma_nil))) (fa_nil ma_nil))))) (fa_cons2 (fe_call (m_call G_times (hr.mono (by decide)) (by rfl) T.m_times T.F_times.kp T.b_times pass0 (fa_cons2 (fe_var (mv 4)) (fa_cons2 (fe_var (mv 4)) (fa_nil ma_nil))))) (fa_nil ma_nil)))))))))))
      (fs_seq (mss_cons (fs_if (ms_if (ft_cmp b_gt (mt_cmp op_gt p2_cmp (fe_as (fe_bin b_ix (m_ix (ix_seqK rfl) p2_ix (fe_var (mv 4)) (fe_c mc_int) (hs := fun _ _ => rfl)))) (fe_c mc_int) (hm := (nomark _)))) (mss_one (fs_append (ms_append 5 (fe_tup (m_tup (fa_cons2 (fe_as (fe_bin b_ix (m_ix (ix_seqK rfl) p2_ix (fe_var (mv 4)) (fe_c mc_int) (hs := fun _ _ => rfl)))) (fa_cons2 (fe_as (fe_bin b_ix (m_ix (ix_seqK rfl) p2_ix (fe_var (mv 4)) (fe_c mc_int) (hs := fun _ _ => rfl)))) (fa_nil ma_nil)))))))) (fss_nil mss_nil)))
      (mss_one (fs_freeze (ms_freeze 5 (fs_for (ms_for PassesOwn.never rfl (fi_list (mi_list (fe_var (mv 5)))) (fg_name (mg_name (i := 6) sc_law.nd))
      (fs_seq (mss_cons (fs_set (ms_set (i := 7) sc_law.nd rfl (Or.inl rfl) (fe_call (m_call G_law_text (hr.mono (by decide)) (by rfl) T.m_law_text T.F_law_text.kp T.b_law_text pass0 (fa_cons2 (fe_as (fe_bin b_ix (m_ix (ix_seqK rfl) p2_ix (fe_var (mv 6)) (fe_c mc_int) (hs := fun _ _ => rfl)))) (fa_nil ma_nil))))))
      (fs_seq (mss_cons (fs_if (ms_if (ft_cmp b_ne (mt_cmp (op_neA hu) p2_ne (fe_as (fe_bin b_ix (m_ix (ix_seqK rfl) p2_ix (fe_var (mv 6)) (fe_c mc_int) (hs := fun _ _ => rfl)))) (fe_c mc_int) (hm := (nomark _)))) (mss_one (fs_set (ms_set (i := 7) sc_law.nd rfl (Or.inl rfl) (fe_binS b_catS (m_opS op_add_str p2_catS (fe_binS b_catS (m_opS op_add_str p2_catS (fe_var (mv 7)) (fe_c mc_str))) (fe_call (m_call G_law_text (hr.mono (by decide)) (by rfl) T.m_law_text T.F_law_text.kp T.b_law_text pass0 (fa_cons2 (fe_as (fe_bin b_ix (m_ix (ix_seqK rfl) p2_ix (fe_var (mv 6)) (fe_c mc_int) (hs := fun _ _ => rfl)))) (fa_nil ma_nil))))))))) (fss_nil mss_nil)))
      (fs_seq (mss_cons (fs_set (ms_set (i := 8) sc_law.nd rfl (Or.inl rfl) (fe_call (m_call G_show_fraction (hr.mono (by decide)) (by rfl) T.m_show_fraction T.F_show_fraction.kp T.b_show_fraction pass0 (fa_cons2 (fe_var (mv 6)) (fa_nil ma_nil))))))
      (fs_seq (mss_cons (fs_if (ms_if (MW.mt (ft_or (mw_or (ft_not (mt_not (ft_tru (mt_tru (fe_isi (m_isi (by decide) (by rfl) T.z_isinstance L2.B.boot_isinstance (by rfl) T.z_str L2.B.boot_str (fe_var (mv 8)))) (fun _ => rfl))))) (ft_or (mw_or (ft_cmp b_ne (mt_cmp (op_neA hu) p2_ne (fe_var (mv 8)) (fe_var (mv 7)) (hm := (nomark _)))) (mw_or1 (ft_cmp b_ne (mt_cmp (op_neA hu) p2_ne (fe_get2 (m_dget2 hu (fe_own (mo 1)) (fe_var (mv 8)) (fe_var (mv 6)) ⟨rfl, rfl, rfl, rfl⟩)) (fe_var (mv 6)) (hm := (nomark _)))))))))) (mss_one (fs_ret (ms_ret (fe_c mc_bl)))) (fss_nil mss_nil)))
      (mss_one (fs_dput (ms_dput 1 hu (fe_var (mv 6)) (fe_var (mv 8))))))))))))))))))))))))))))
      (mss_one (fs_ret (ms_ret (fe_binS b_eq (m_cmp (op_eqA hu) p2_eq (fe_call (m_call G_show_fraction (hr.mono (by decide)) (by rfl) T.m_show_fraction T.F_show_fraction.kp T.b_show_fraction pass0 (fa_cons2 (fe_tup (m_tup (fa_cons2 (fe_c mc_int) (fa_cons2 (fe_c mc_int) (fa_nil ma_nil))))) (fa_nil ma_nil)))) (fe_c mc_str) (hm := (nomark _)))))))))))
theorem ok_lawS {f : Nat → Addr} {fd : Nat → FuncData} {cls : Nat → Addr} (T : Txt K mg f fd cls) : FnOk P w K mg base CX0 4 (f 11) (fd 11) ["script"] (spD K SLaw) := (ok_law T).imp fun vs H Q E q => by
  obtain ⟨L, ds, k, h1, ⟨ns, e, hl, hk⟩, h3⟩ := q
  exact ⟨L, ds, k, h1, ⟨_, by rw [e]; exact law_true ns hl, hk⟩, h3⟩
end
theorem all_mk {l : PySem.W.OpenLaw} {w : World} {K : PySem.W.Frag} {h : Heap} {mg : Str → Option Value} {fa : Addr} (X : K.In h) (G : h.Ns mainGlobals mg) (hfa : mg "law" = some (.ref fa))
    {f1 : Addr} {od1 an1 : Option Addr} {sl1 : Array (Option Value)} {oc1 kV1 dc1 pm1 cd1 ct1 : Value}
    {f2 : Addr} {od2 an2 : Option Addr} {sl2 : Array (Option Value)} {oc2 kV2 dc2 pm2 cd2 ct2 : Value}
    {f3 : Addr} {od3 an3 : Option Addr} {sl3 : Array (Option Value)} {oc3 kV3 dc3 pm3 cd3 ct3 : Value}
    {f4 : Addr} {od4 an4 : Option Addr} {sl4 : Array (Option Value)} {oc4 kV4 dc4 pm4 cd4 ct4 : Value}
    {f5 : Addr} {od5 an5 : Option Addr} {sl5 : Array (Option Value)} {oc5 kV5 dc5 pm5 cd5 ct5 : Value}
    {f6 : Addr} {od6 an6 : Option Addr} {sl6 : Array (Option Value)} {oc6 kV6 dc6 pm6 cd6 ct6 : Value}
    {f7 : Addr} {od7 an7 : Option Addr} {sl7 : Array (Option Value)} {oc7 kV7 dc7 pm7 cd7 ct7 : Value}
    {f8 : Addr} {od8 an8 : Option Addr} {sl8 : Array (Option Value)} {oc8 kV8 dc8 pm8 cd8 ct8 : Value}
    {f9 : Addr} {od9 an9 : Option Addr} {sl9 : Array (Option Value)} {oc9 kV9 dc9 pm9 cd9 ct9 : Value}
    {f10 : Addr} {od10 an10 : Option Addr} {sl10 : Array (Option Value)} {oc10 kV10 dc10 pm10 cd10 ct10 : Value}
    {f11 : Addr} {od11 an11 : Option Addr} {sl11 : Array (Option Value)} {oc11 kV11 dc11 pm11 cd11 ct11 : Value}
    {f12 : Addr} {od12 an12 : Option Addr} {sl12 : Array (Option Value)} {oc12 kV12 dc12 pm12 cd12 ct12 : Value}
    (a1 : PySem.W.nsIn K mainGlobals "_law_pool" = some (some (.ref f1))) (l1 : K.lookup f1 = some ⟨oc1, od1, .func (PySem.W.fnOf "_law_pool" "_law_pool" (defArgs s_law_pool) (defBody s_law_pool) (defScope s_law_pool) .none kV1 dc1 pm1 an1 cd1 ct1), sl1⟩) (c1 : PySem.W.codeIn K cd1 "_law_pool" = true) (k1 : PySem.W.keepIn K (.ref f1) = true)
    (a2 : PySem.W.nsIn K mainGlobals "_law_take" = some (some (.ref f2))) (l2 : K.lookup f2 = some ⟨oc2, od2, .func (PySem.W.fnOf "_law_take" "_law_take" (defArgs s_law_take) (defBody s_law_take) (defScope s_law_take) .none kV2 dc2 pm2 an2 cd2 ct2), sl2⟩) (c2 : PySem.W.codeIn K cd2 "_law_take" = true) (k2 : PySem.W.keepIn K (.ref f2) = true)
    (a3 : PySem.W.nsIn K mainGlobals "_law_figures" = some (some (.ref f3))) (l3 : K.lookup f3 = some ⟨oc3, od3, .func (PySem.W.fnOf "_law_figures" "_law_figures" (defArgs s_law_figures) (defBody s_law_figures) (defScope s_law_figures) .none kV3 dc3 pm3 an3 cd3 ct3), sl3⟩) (c3 : PySem.W.codeIn K cd3 "_law_figures" = true) (k3 : PySem.W.keepIn K (.ref f3) = true)
    (a4 : PySem.W.nsIn K mainGlobals "_law_lowest" = some (some (.ref f4))) (l4 : K.lookup f4 = some ⟨oc4, od4, .func (PySem.W.fnOf "_law_lowest" "_law_lowest" (defArgs s_law_lowest) (defBody s_law_lowest) (defScope s_law_lowest) .none kV4 dc4 pm4 an4 cd4 ct4), sl4⟩) (c4 : PySem.W.codeIn K cd4 "_law_lowest" = true) (k4 : PySem.W.keepIn K (.ref f4) = true)
    (a5 : PySem.W.nsIn K mainGlobals "_law_q" = some (some (.ref f5))) (l5 : K.lookup f5 = some ⟨oc5, od5, .func (PySem.W.fnOf "_law_q" "_law_q" (defArgs s_law_q) (defBody s_law_q) (defScope s_law_q) .none kV5 dc5 pm5 an5 cd5 ct5), sl5⟩) (c5 : PySem.W.codeIn K cd5 "_law_q" = true) (k5 : PySem.W.keepIn K (.ref f5) = true)
    (a6 : PySem.W.nsIn K mainGlobals "_law_text" = some (some (.ref f6))) (l6 : K.lookup f6 = some ⟨oc6, od6, .func (PySem.W.fnOf "_law_text" "_law_text" (defArgs s_law_text) (defBody s_law_text) (defScope s_law_text) .none kV6 dc6 pm6 an6 cd6 ct6), sl6⟩) (c6 : PySem.W.codeIn K cd6 "_law_text" = true) (k6 : PySem.W.keepIn K (.ref f6) = true)
    (a7 : PySem.W.nsIn K mainGlobals "greatest_divisor" = some (some (.ref f7))) (l7 : K.lookup f7 = some ⟨oc7, od7, .func (PySem.W.fnOf "greatest_divisor" "greatest_divisor" (defArgs s_greatest_divisor) (defBody s_greatest_divisor) (defScope s_greatest_divisor) .none kV7 dc7 pm7 an7 cd7 ct7), sl7⟩) (c7 : PySem.W.codeIn K cd7 "greatest_divisor" = true) (k7 : PySem.W.keepIn K (.ref f7) = true)
    (a8 : PySem.W.nsIn K mainGlobals "in_least" = some (some (.ref f8))) (l8 : K.lookup f8 = some ⟨oc8, od8, .func (PySem.W.fnOf "in_least" "in_least" (defArgs s_in_least) (defBody s_in_least) (defScope s_in_least) .none kV8 dc8 pm8 an8 cd8 ct8), sl8⟩) (c8 : PySem.W.codeIn K cd8 "in_least" = true) (k8 : PySem.W.keepIn K (.ref f8) = true)
    (a9 : PySem.W.nsIn K mainGlobals "plus" = some (some (.ref f9))) (l9 : K.lookup f9 = some ⟨oc9, od9, .func (PySem.W.fnOf "plus" "plus" (defArgs s_plus) (defBody s_plus) (defScope s_plus) .none kV9 dc9 pm9 an9 cd9 ct9), sl9⟩) (c9 : PySem.W.codeIn K cd9 "plus" = true) (k9 : PySem.W.keepIn K (.ref f9) = true)
    (a10 : PySem.W.nsIn K mainGlobals "show_fraction" = some (some (.ref f10))) (l10 : K.lookup f10 = some ⟨oc10, od10, .func (PySem.W.fnOf "show_fraction" "show_fraction" (defArgs s_show_fraction) (defBody s_show_fraction) (defScope s_show_fraction) .none kV10 dc10 pm10 an10 cd10 ct10), sl10⟩) (c10 : PySem.W.codeIn K cd10 "show_fraction" = true) (k10 : PySem.W.keepIn K (.ref f10) = true)
    (a11 : PySem.W.nsIn K mainGlobals "times" = some (some (.ref f11))) (l11 : K.lookup f11 = some ⟨oc11, od11, .func (PySem.W.fnOf "times" "times" (defArgs s_times) (defBody s_times) (defScope s_times) .none kV11 dc11 pm11 an11 cd11 ct11), sl11⟩) (c11 : PySem.W.codeIn K cd11 "times" = true) (k11 : PySem.W.keepIn K (.ref f11) = true)
    (a12 : PySem.W.nsIn K mainGlobals "law" = some (some (.ref f12))) (l12 : K.lookup f12 = some ⟨oc12, od12, .func (PySem.W.fnOf "law" "law" (defArgs s_law) (defBody s_law) (defScope s_law) .none kV12 dc12 pm12 an12 cd12 ct12), sl12⟩) (c12 : PySem.W.codeIn K cd12 "law" = true) (k12 : PySem.W.keepIn K (.ref f12) = true)
    (z_abs : PySem.W.nsIn K mainGlobals "abs" = some none)
    (z_int : PySem.W.nsIn K mainGlobals "int" = some none)
    (z_isinstance : PySem.W.nsIn K mainGlobals "isinstance" = some none)
    (z_len : PySem.W.nsIn K mainGlobals "len" = some none)
    (z_max : PySem.W.nsIn K mainGlobals "max" = some none)
    (z_min : PySem.W.nsIn K mainGlobals "min" = some none)
    (z_range : PySem.W.nsIn K mainGlobals "range" = some none)
    (z_str : PySem.W.nsIn K mainGlobals "str" = some none)
    : ∃ fd : FuncData, (∀ (s : Shared) (v : Value), BindsTo s fd ⟨[v], []⟩ [("script", v)]) ∧ ∀ base : Heap, K.In base → base.Ns mainGlobals mg → FnOk l.prog w K mg base CX0 4 fa fd ["script"] (spD K SLaw) := by
  have e := hfa.symm.trans (PySem.W.mg_of X G a12)
  cases e
  have F1 := fun_mk (st := s_law_pool) l1 c1 k1
  have b1 := F1.binds (ps := ["script", "k"]) fun _ _ _ _ _ _ us hl => len2 (P := fun us => PySem.bindArgs _ { pos := us } = pure (List.zip _ us)) (fun _ _ => rfl) us hl
  have F2 := fun_mk (st := s_law_take) l2 c2 k2
  have b2 := F2.binds (ps := ["pool", "many"]) fun _ _ _ _ _ _ us hl => len2 (P := fun us => PySem.bindArgs _ { pos := us } = pure (List.zip _ us)) (fun _ _ => rfl) us hl
  have F3 := fun_mk (st := s_law_figures) l3 c3 k3
  have b3 := F3.binds (ps := ["pool"]) fun _ _ _ _ _ _ us hl => len1 (P := fun us => PySem.bindArgs _ { pos := us } = pure (List.zip _ us)) (fun _ => rfl) us hl
  have F4 := fun_mk (st := s_law_lowest) l4 c4 k4
  have b4 := F4.binds (ps := ["top", "bottom"]) fun _ _ _ _ _ _ us hl => len2 (P := fun us => PySem.bindArgs _ { pos := us } = pure (List.zip _ us)) (fun _ _ => rfl) us hl
  have F5 := fun_mk (st := s_law_q) l5 c5 k5
  have b5 := F5.binds (ps := ["pool"]) fun _ _ _ _ _ _ us hl => len1 (P := fun us => PySem.bindArgs _ { pos := us } = pure (List.zip _ us)) (fun _ => rfl) us hl
  have F6 := fun_mk (st := s_law_text) l6 c6 k6
  have b6 := F6.binds (ps := ["number"]) fun _ _ _ _ _ _ us hl => len1 (P := fun us => PySem.bindArgs _ { pos := us } = pure (List.zip _ us)) (fun _ => rfl) us hl
  have F7 := fun_mk (st := s_greatest_divisor) l7 c7 k7
  have b7 := F7.binds (ps := ["a", "b"]) fun _ _ _ _ _ _ us hl => len2 (P := fun us => PySem.bindArgs _ { pos := us } = pure (List.zip _ us)) (fun _ _ => rfl) us hl
  have F8 := fun_mk (st := s_in_least) l8 c8 k8
  have b8 := F8.binds (ps := ["top", "bottom"]) fun _ _ _ _ _ _ us hl => len2 (P := fun us => PySem.bindArgs _ { pos := us } = pure (List.zip _ us)) (fun _ _ => rfl) us hl
  have F9 := fun_mk (st := s_plus) l9 c9 k9
  have b9 := F9.binds (ps := ["q", "r"]) fun _ _ _ _ _ _ us hl => len2 (P := fun us => PySem.bindArgs _ { pos := us } = pure (List.zip _ us)) (fun _ _ => rfl) us hl
  have F10 := fun_mk (st := s_show_fraction) l10 c10 k10
  have b10 := F10.binds (ps := ["q"]) fun _ _ _ _ _ _ us hl => len1 (P := fun us => PySem.bindArgs _ { pos := us } = pure (List.zip _ us)) (fun _ => rfl) us hl
  have F11 := fun_mk (st := s_times) l11 c11 k11
  have b11 := F11.binds (ps := ["q", "r"]) fun _ _ _ _ _ _ us hl => len2 (P := fun us => PySem.bindArgs _ { pos := us } = pure (List.zip _ us)) (fun _ _ => rfl) us hl
  have F12 := fun_mk (st := s_law) l12 c12 k12
  have b12 := F12.binds (ps := ["script"]) fun _ _ _ _ _ _ us hl => len1 (P := fun us => PySem.bindArgs _ { pos := us } = pure (List.zip _ us)) (fun _ => rfl) us hl
  have T : Txt K mg (fun k => [_, _, _, _, _, _, _, _, _, _, _, _].getD k 0) (fun k => [_, _, _, _, _, _, _, _, _, _, _, _].getD k (PySem.W.fnOf "law" "law" (defArgs s_law) (defBody s_law) (defScope s_law) .none kV12 dc12 pm12 an12 cd12 ct12)) (fun k => [].getD k 0) := { F_law_pool := F1, b_law_pool := b1, m_law_pool := PySem.W.mg_of X G a1, F_law_take := F2, b_law_take := b2, m_law_take := PySem.W.mg_of X G a2, F_law_figures := F3, b_law_figures := b3, m_law_figures := PySem.W.mg_of X G a3, F_law_lowest := F4, b_law_lowest := b4, m_law_lowest := PySem.W.mg_of X G a4, F_law_q := F5, b_law_q := b5, m_law_q := PySem.W.mg_of X G a5, F_law_text := F6, b_law_text := b6, m_law_text := PySem.W.mg_of X G a6, F_greatest_divisor := F7, b_greatest_divisor := b7, m_greatest_divisor := PySem.W.mg_of X G a7, F_in_least := F8, b_in_least := b8, m_in_least := PySem.W.mg_of X G a8, F_plus := F9, b_plus := b9, m_plus := PySem.W.mg_of X G a9, F_show_fraction := F10, b_show_fraction := b10, m_show_fraction := PySem.W.mg_of X G a10, F_times := F11, b_times := b11, m_times := PySem.W.mg_of X G a11, F_law := F12, b_law := b12, m_law := PySem.W.mg_of X G a12, z_abs := PySem.W.mg_none_of X G z_abs, z_int := PySem.W.mg_none_of X G z_int, z_isinstance := PySem.W.mg_none_of X G z_isinstance, z_len := PySem.W.mg_none_of X G z_len, z_max := PySem.W.mg_none_of X G z_max, z_min := PySem.W.mg_none_of X G z_min, z_range := PySem.W.mg_none_of X G z_range, z_str := PySem.W.mg_none_of X G z_str }
  exact ⟨PySem.W.fnOf "law" "law" (defArgs s_law) (defBody s_law) (defScope s_law) .none kV12 dc12 pm12 an12 cd12 ct12, fun s v => .of_eq rfl, fun base _ _ => ok_lawS (P := l.prog) (w := w) (base := base) T⟩
theorem walk {l : PySem.W.OpenLaw} {q : Program} {loose : List Str} {XP : (Str → Option Value) → Heap → Prop} {YP : World → Heap → Prop} {d : DefRec} {K : Params → PySem.W.Frag} (hn : l.most = some 63) (hdf : d.params.defaults = [])
    (hY : ∀ (w : World) (h : Heap), YP w h → (K w.params).In h)
    (F : ∀ (w : World) (mg : Str → Option Value) (fa : Addr) (h : Heap), (K w.params).In h → h.Ns mainGlobals mg → mg d.name = some (.ref fa) →
      ∃ fd : FuncData, (∀ (s : Shared) (u : Value), BindsTo s fd ⟨[u], []⟩ [("script", u)]) ∧ ∀ base : Heap, (K w.params).In base → base.Ns mainGlobals mg → FnOk l.prog w (K w.params) mg base CX0 4 fa fd ["script"] (spD (K w.params) SLaw)) :
    PySem.W.WalkO q loose XP YP l.row.toRowW d [] (fun f vs => PySem.call f vs) :=
  L2.walk_of (n := 63) (k := 4) (x := "script") (CX := fun _ => CX0) (sp := fun w => spD (K w.params) SLaw) hn (by decide) hdf ⟨rfl, by decide, by decide⟩ hY F (fun _ _ a ns hl _ hS => law_sp hl hS) fun _ _ _ _ _ z => z
end My
open PySem PySem.W PyProof.Rows
set_option maxRecDepth 100000 in
set_option maxHeartbeats 0 in
theorem PySem.Challenge.cw_farcuts_k04_fractions_shown_holds : PySem.Challenge.rw_farcuts_k04_fractions_shown.Holds := by
  w_on; o_law; k_head; (case hw => w_witness2)
  k_fill
  refine My.walk (l := PySem.Challenge.rw_farcuts_k04_fractions_shown) rfl rfl (fun w h Y => PySem.W.kIn_of Y) ?F
  case F =>
    intro w mg fa h KX G hmg
    refine' My.all_mk KX G hmg ?a1 ?l1 ?c1 ?k1 ?a2 ?l2 ?c2 ?k2 ?a3 ?l3 ?c3 ?k3 ?a4 ?l4 ?c4 ?k4 ?a5 ?l5 ?c5 ?k5 ?a6 ?l6 ?c6 ?k6 ?a7 ?l7 ?c7 ?k7 ?a8 ?l8 ?c8 ?k8 ?a9 ?l9 ?c9 ?k9 ?a10 ?l10 ?c10 ?k10 ?a11 ?l11 ?c11 ?k11 ?a12 ?l12 ?c12 ?k12 ?z_abs ?z_int ?z_isinstance ?z_len ?z_max ?z_min ?z_range ?z_str
    (case a1 => k_is)
    (case l1 => k_is)
    (case c1 => k_is)
    (case k1 => k_is)
    (case a2 => k_is)
    (case l2 => k_is)
    (case c2 => k_is)
    (case k2 => k_is)
    (case a3 => k_is)
    (case l3 => k_is)
    (case c3 => k_is)
    (case k3 => k_is)
    (case a4 => k_is)
    (case l4 => k_is)
    (case c4 => k_is)
    (case k4 => k_is)
    (case a5 => k_is)
    (case l5 => k_is)
    (case c5 => k_is)
    (case k5 => k_is)
    (case a6 => k_is)
    (case l6 => k_is)
    (case c6 => k_is)
    (case k6 => k_is)
    (case a7 => k_is)
    (case l7 => k_is)
    (case c7 => k_is)
    (case k7 => k_is)
    (case a8 => k_is)
    (case l8 => k_is)
    (case c8 => k_is)
    (case k8 => k_is)
    (case a9 => k_is)
    (case l9 => k_is)
    (case c9 => k_is)
    (case k9 => k_is)
    (case a10 => k_is)
    (case l10 => k_is)
    (case c10 => k_is)
    (case k10 => k_is)
    (case a11 => k_is)
    (case l11 => k_is)
    (case c11 => k_is)
    (case k11 => k_is)
    (case a12 => k_is)
    (case l12 => k_is)
    (case c12 => k_is)
    (case k12 => k_is)
    (case z_abs => k_is)
    (case z_int => k_is)
    (case z_isinstance => k_is)
    (case z_len => k_is)
    (case z_max => k_is)
    (case z_min => k_is)
    (case z_range => k_is)
    (case z_str => k_is)
#print axioms PySem.Challenge.cw_farcuts_k04_fractions_shown_holds
