import PyProof.Rows.All
import Wide.All
import OpenK.AllK
import Wide.FinOn
import PyProof.EqAt
import PyProof.EqKinds
import PyProof.TupleCall
import PyProof.P3In
import PyProof.ZipIter
import PyProof.ListRange
import PyProof.SetRoads
import PyProof.Rows.SetFrom
import PyProof.Rows.SeqMore2
import KE.RegKIsAll
import PySem.Challenge.RW_farcuts_k12_cuts_told
set_option Elab.async false
set_option linter.all false
set_option maxRecDepth 100000
/-! THE HAND LAYER, for ints, bools, texts, own classes, LISTS and tuples (index, slices, in, append, pop ..), calls, loops. Paste it whole ahead of your own text; what your proof does not reach may be deleted. -/
namespace L2
open PySem PySem.Spec PyProof.Rows
noncomputable abbrev Key := Sum Int Str
noncomputable def keyIs : Key → Value → Bool
  | .inl k, v => Value.isInt k v
  | .inr x, v => Value.isStrOf x v
noncomputable def keyH (w : World) : Key → Int
  | .inl k => hashInt k
  | .inr x => hashStr w x
theorem keyIs_shape : ∀ {k : Key} {v : Value}, keyIs k v = true → (∃ i t, k = Sum.inl i ∧ v = Value.int i t) ∨ (∃ x t, k = Sum.inr x ∧ v = Value.str x t)
  | .inl i, v, h => by
    obtain ⟨t, e⟩ := Value.isInt_shape (k := i) (v := v) h
    exact .inl ⟨i, t, rfl, e⟩
  | .inr x, v, h => by
    obtain ⟨t, e⟩ := Value.isStrOf_shape (x := x) (v := v) h
    exact .inr ⟨x, t, rfl, e⟩
theorem key_ll (a b : Int) : decide ((Sum.inl a : Key) = Sum.inl b) = (a == b) := by
  by_cases e : a = b
  · subst e; simp
  · have h : ¬ (Sum.inl a : Key) = Sum.inl b := fun q => e (Sum.inl.inj q)
    rw [decide_eq_false h]
    exact (beq_eq_false_iff_ne.mpr e).symm
theorem key_rr (a b : Str) : decide ((Sum.inr a : Key) = Sum.inr b) = decide (a = b) := by
  by_cases e : a = b
  · subst e; simp
  · have h : ¬ (Sum.inr a : Key) = Sum.inr b := fun q => e (Sum.inr.inj q)
    rw [decide_eq_false h, decide_eq_false e]
theorem key_lr (a : Int) (b : Str) : decide ((Sum.inl a : Key) = Sum.inr b) = false := decide_eq_false (fun q => nomatch q)
theorem key_rl (a : Str) (b : Int) : decide ((Sum.inr a : Key) = Sum.inl b) = false := decide_eq_false (fun q => nomatch q)
noncomputable def mixKind (prog : Program) (w : World) : PySem.KeyKind prog w Key where
  is := keyIs
  hash := keyH w
  inj := fun v a b ha hb => by
    rcases keyIs_shape ha with ⟨i, t, rfl, rfl⟩ | ⟨x, t, rfl, rfl⟩
    · rcases keyIs_shape hb with ⟨j, u, rfl, e⟩ | ⟨y, u, rfl, e⟩
      · injection e with e1 _; rw [e1]
      · exact nomatch e
    · rcases keyIs_shape hb with ⟨j, u, rfl, e⟩ | ⟨y, u, rfl, e⟩
      · exact nomatch e
      · injection e with e1 _; rw [e1]
  byValue := fun k v h => by
    rcases keyIs_shape h with ⟨i, t, rfl, rfl⟩ | ⟨x, t, rfl, rfl⟩ <;> rfl
  pyHash := fun hv h => by
    rcases keyIs_shape hv with ⟨i, t, rfl, rfl⟩ | ⟨x, t, rfl, rfl⟩
    · exact wpAny_pyHash_int h
    · exact wpAny_pyHash_str h
  eqBool := fun hu hv h => by
    rcases keyIs_shape hu with ⟨i, t, rfl, rfl⟩ | ⟨x, t, rfl, rfl⟩
    · rcases keyIs_shape hv with ⟨j, u, rfl, rfl⟩ | ⟨y, u, rfl, rfl⟩
      · rw [key_ll] at h; exact wpAny_eqBool_int h
      · rw [key_lr] at h; exact SeqAt.EqAt.int_str i t y u _ _ _ _ h
    · rcases keyIs_shape hv with ⟨j, u, rfl, rfl⟩ | ⟨y, u, rfl, rfl⟩
      · rw [key_rl] at h; exact SeqAt.EqAt.str_int x t j u _ _ _ _ h
      · rw [key_rr] at h; exact wpAny_eqBool_str h
  «strs» := fun k x t v h => by
    rcases keyIs_shape h with ⟨i, u, rfl, e⟩ | ⟨y, u, rfl, e⟩
    · exact nomatch e
    · injection e with e1 _
      subst e1
      cases v <;> rfl
end L2
namespace L2
open PySem PySem.Spec PyProof.Rows
inductive V where
  | non | bl (b : Bool) | int (i : Int) | str (x : Str) | byt (b : Array UInt8) | flt (b : UInt64) | ref (a : Addr) | ty (n : String)
  deriving DecidableEq
noncomputable def RelV : V → Value → Prop
  | .non, u => u = Value.none
  | .bl b, u => u = Value.bool b
  | .int i, u => ∃ t, u = Value.int i t
  | .str x, u => ∃ t, u = Value.str x t
  | .byt b, u => ∃ t, u = Value.bytes b t
  | .flt b, u => ∃ t, u = Value.float b t
  | .ref a, u => u = Value.ref a
  | .ty n, u => u = Value.type n
noncomputable abbrev Vals : List V → List Value → Prop := Paired RelV
theorem Vals.length {xs : List V} {us : List Value} (r : Vals xs us) : xs.length = us.length := Paired.length r
theorem Vals.get {xs : List V} {us : List Value} {i : Nat} {x : V} (h : Vals xs us) (e : xs[i]? = some x) : ∃ u, us[i]? = some u ∧ RelV x u := by
  induction h generalizing i with
  | nil => exact (Option.some_ne_none _ (e.symm.trans List.getElem?_nil)).elim
  | cons r t ih =>
    cases i with
    | zero => exact ⟨_, rfl, Option.some.inj e ▸ r⟩
    | succ i => exact ih e
theorem Vals.set {x : V} {u : Value} (r : RelV x u) {xs : List V} {us : List Value} (i : Nat) (h : Vals xs us) : Vals (xs.set i x) (us.set i u) := by
  induction h generalizing i with
  | nil => exact .nil
  | cons q t ih =>
    cases i with
    | zero => exact .cons r t
    | succ i => exact .cons q (ih i)
theorem Vals.append {xs ys : List V} {us ws : List Value} (h : Vals xs us) (s : Vals ys ws) : Vals (xs ++ ys) (us ++ ws) := by
  induction h with
  | nil => exact s
  | cons r t ih => exact .cons r ih
theorem Vals.take {xs : List V} {us : List Value} (n : Nat) (h : Vals xs us) : Vals (xs.take n) (us.take n) := by
  induction h generalizing n with
  | nil => rw [List.take_nil, List.take_nil]; exact .nil
  | cons r t ih =>
    cases n with
    | zero => exact .nil
    | succ n => exact .cons r (ih n)
theorem Vals.drop {xs : List V} {us : List Value} (n : Nat) (h : Vals xs us) : Vals (xs.drop n) (us.drop n) := by
  induction h generalizing n with
  | nil => rw [List.drop_nil, List.drop_nil]; exact .nil
  | cons r t ih =>
    cases n with
    | zero => exact .cons r t
    | succ n => exact ih n
noncomputable def RelO : Option V → Option Value → Prop
  | some v, some u => RelV v u
  | none, none => True
  | _, _ => False
noncomputable def KV {κ : Type} : List (κ × V) → List (κ × Value) → Prop := Paired fun (p : κ × V) (q : κ × Value) => p.1 = q.1 ∧ RelV p.2 q.2
noncomputable def kV : Key → V
  | .inl i => .int i
  | .inr x => .str x
inductive HO where
    | lst (xs : List V)
    | tup (xs : List V)
    | dK (kvs : List (Key × V)) | dT (kvs : List (List Key × V))
    | set (S : Int → Bool) (n : Nat)
    | ins (C dx : Addr) (fs : List (Str × V))
    | own (x : Addr)
    | xd (fs : List (Str × V))
    | met (f x : Addr)
    | rng (lo hi : Int)
    | frz (o : Obj) (u : HO)
    | tbl (ps : Array Value)
    | ext (φ : Heap → Prop)
noncomputable abbrev Hp := Addr → Option HO
noncomputable def upd (H : Hp) (a : Addr) (o : HO) : Hp := fun b => if b = a then some o else H b
theorem upd_same {H : Hp} {a : Addr} {o : HO} : upd H a o a = some o := by unfold upd; rw [if_pos rfl]
theorem upd_ne {H : Hp} {a b : Addr} {o : HO} (h : b ≠ a) : upd H a o b = H b := by unfold upd; rw [if_neg h]
theorem ne_of_none {H : Hp} {a b : Addr} {o : HO} (h : H a = some o) (h' : H b = none) : a ≠ b := by
  intro e; subst e; rw [h] at h'; cases h'
section
variable (P : Program) (w : World)
noncomputable def ObjOk (H : Hp) (h : Heap) (a : Addr) : HO → Prop
  | .lst xs => xs.length ≤ sizeLine ∧ ∃ (its : List Value) (n : Nat), Vals xs its ∧ h.get? a = some { cls := .type "list", data := .seq its.toArray n }
  | .tup xs => xs.length ≤ sizeLine ∧ ∃ its : List Value, Vals xs its ∧ IsTup h a its.toArray
  | .dK kvs => kvs.length ≤ sizeLine ∧ (a == sysModules) = false ∧ ∃ vs, KV kvs vs ∧ h.DictOf (mixKind P w) a vs
  | .dT kvs => kvs.length ≤ sizeLine ∧ (a == sysModules) = false ∧ ∃ xs : List (List Key × Addr × Value),
      Paired (fun (p : List Key × V) (q : List Key × Addr × Value) => p.1 = q.1 ∧ H q.2.1 = some (.tup (p.1.map kV)) ∧ RelV p.2 q.2.2) kvs xs ∧
      ∃ o es ep, h.get? a = some o ∧ o.ExactDict ∧ o.data = .dict es ep ∧ es.toList = xs.map (entryOfKey (tupleKind (mixKind P w))) ∧ (xs.map (·.1)).Nodup
  | .set S n => h.SetOf (intKind P w) a S n
  | .ins C dx fs => H dx = some (.own a) ∧ fs.length ≤ 1000 ∧ dx ≠ a ∧ h.get? a = some (PySem.W.instObj C dx) ∧
      ∃ mA, h.Ns1 dx mA ∧ (∀ f, RelO (fs.lookup f) (mA f)) ∧ PySem.Within mA (fs.map (·.1))
  | .own _ => ∃ o, h.get? a = some o
  | .xd fs => ∃ mA, h.Ns1 a mA ∧ ∀ f, RelO (fs.lookup f) (mA f)
  | .rng lo hi => ∃ t u v, h.get? a = some { cls := .type "range", data := .fields #[.int lo t, .int hi u, .int 1 v] }
  | .frz o u => h.get? a = some o ∧ ObjOk H h a u
  | .tbl ps => h.get? a = some { cls := .none, data := .fields ps }
  | .met f x => h.get? a = some (PySem.W.methodObj (.ref f) (.ref x))
  | .ext φ => φ h ∧ (∃ o, h.get? a = some o) ∧ ∀ h1 h2 : Heap, φ h1 → (∀ o, h1.get? a = some o → h2.get? a = some o) → φ h2
noncomputable def HOk (H : Hp) (h : Heap) : Prop := ∀ a o, H a = some o → ObjOk P w H h a o
end
section
variable {P : Program} {w : World} {H H' : Hp} {h h' : Heap} {a : Addr} {o : HO}
theorem ObjOk.lt (x : ObjOk P w H h a o) : a < h.objs.size := by
  cases o with
  | lst xs => obtain ⟨_, _, _, _, e⟩ := x; exact Heap.lt_size e
  | tup xs => obtain ⟨_, _, _, p⟩ := x; exact p.lt
  | dK kvs => obtain ⟨_, _, _, _, o, _, _, e, _⟩ := x; exact Heap.lt_size e
  | dT kvs => obtain ⟨_, _, _, _, o, _, _, e, _⟩ := x; exact Heap.lt_size e
  | set S n => obtain ⟨o, _, _, _, e, _⟩ := x; exact Heap.lt_size e
  | ins C dx fs => obtain ⟨_, _, _, e, _⟩ := x; exact Heap.lt_size e
  | own y => obtain ⟨_, e⟩ := x; exact Heap.lt_size e
  | xd fs => obtain ⟨_, ⟨_, _, _, e, _⟩, _⟩ := x; exact Heap.lt_size e
  | rng lo hi => obtain ⟨_, _, _, e⟩ := x; exact Heap.lt_size e
  | frz ob u => obtain ⟨e, _⟩ := x; exact Heap.lt_size e
  | tbl ps => exact Heap.lt_size (show h.get? a = some _ from x)
  | met f y => exact Heap.lt_size (show h.get? a = some _ from x)
  | ext φ => obtain ⟨_, ⟨_, e⟩, _⟩ := x; exact Heap.lt_size e
theorem Paired.mapP {α β : Type} {F G : α → β → Prop} {l₁ : List α} {l₂ : List β} (h : Paired F l₁ l₂) (f : ∀ a b, F a b → G a b) : Paired G l₁ l₂ := by
  induction h with
  | nil => exact .nil
  | cons r t ih => exact .cons (f _ _ r) ih
theorem ObjOk.stay (x : ObjOk P w H h a o) (k : ∀ b u, (b = a ∨ H b = some (.own a)) → h.get? b = some u → h'.get? b = some u)
    (ho : ∀ b, H b = some (.own a) → H' b = some (.own a)) (ht : ∀ b xs, H b = some (.tup xs) → H' b = some (.tup xs)) : ObjOk P w H' h' a o := by
  induction o with
  | lst xs => obtain ⟨z, its, n, r, e⟩ := x; exact ⟨z, its, n, r, k _ _ (.inl rfl) e⟩
  | tup xs => obtain ⟨z, its, r, ob, e, c⟩ := x; exact ⟨z, its, r, ob, k _ _ (.inl rfl) e, c⟩
  | dK kvs => obtain ⟨z, y, vs, r, ob, es, ep, e, c⟩ := x; exact ⟨z, y, vs, r, ob, es, ep, k _ _ (.inl rfl) e, c⟩
  | dT kvs =>
    obtain ⟨z, y, xs, r, ob, es, ep, e, c⟩ := x
    exact ⟨z, y, xs, Paired.mapP r fun p q z => ⟨z.1, ht _ _ z.2.1, z.2.2⟩, ob, es, ep, k _ _ (.inl rfl) e, c⟩
  | set S n => obtain ⟨ob, es, ep, t, e, c⟩ := x; exact ⟨ob, es, ep, t, k _ _ (.inl rfl) e, c⟩
  | ins C dx fs =>
    obtain ⟨d, z, ne, e, mA, ⟨od, es, ep, e2, c⟩, r⟩ := x
    exact ⟨ho _ d, z, ne, k _ _ (.inl rfl) e, mA, ⟨od, es, ep, k _ _ (.inr d) e2, c⟩, r⟩
  | own y => obtain ⟨ob, e⟩ := x; exact ⟨ob, k _ _ (.inl rfl) e⟩
  | xd fs => obtain ⟨mA, ⟨od, es, ep, e, c⟩, r⟩ := x; exact ⟨mA, ⟨od, es, ep, k _ _ (.inl rfl) e, c⟩, r⟩
  | rng lo hi => obtain ⟨t, u, v, e⟩ := x; exact ⟨t, u, v, k _ _ (.inl rfl) e⟩
  | frz ob u ih => obtain ⟨e, q⟩ := x; exact ⟨k _ _ (.inl rfl) e, ih q⟩
  | tbl ps =>
    have e : h.get? a = some { cls := .none, data := .fields ps } := x
    show h'.get? a = some { cls := .none, data := .fields ps }
    exact k a _ (.inl rfl) e
  | met f y =>
    have e : h.get? a = some (PySem.W.methodObj (.ref f) (.ref y)) := x
    show h'.get? a = some (PySem.W.methodObj (.ref f) (.ref y))
    exact k a _ (.inl rfl) e
  | ext φ => obtain ⟨p, ⟨o, e⟩, st⟩ := x; exact ⟨st _ _ p fun o q => k _ _ (.inl rfl) q, ⟨o, k _ _ (.inl rfl) e⟩, st⟩
theorem HOk.lt (x : HOk P w H h) (e : H a = some o) : a < h.objs.size := (x a o e).lt
theorem HOk.fresh (x : HOk P w H h) (e : h.objs.size ≤ a) : H a = none := by
  cases q : H a with
  | none => rfl
  | some u => exact absurd (Nat.lt_of_lt_of_le (x.lt q) e) (Nat.lt_irrefl _)
theorem HOk.kept (x : HOk P w H h) (k : ∀ b u, h.get? b = some u → h'.get? b = some u) : HOk P w H h' := fun a o e =>
  (x a o e).stay (fun b u _ q => k b u q) (fun _ q => q) fun _ _ q => q
theorem HOk.laid (x : HOk P w H h) (k : ∀ b u, h.get? b = some u → h'.get? b = some u) (hp : h.objs.size ≤ a) (new : ObjOk P w (upd H a o) h' a o) : HOk P w (upd H a o) h' := fun b u e => by
  have hn := x.fresh hp
  by_cases hb : b = a
  · subst hb; rw [upd_same] at e; cases e; exact new
  · rw [upd_ne hb] at e
    exact (x b u e).stay (fun c v _ q => k c v q) (fun c q => by rw [upd_ne (ne_of_none q hn)]; exact q) fun c xs q => by rw [upd_ne (ne_of_none q hn)]; exact q
end
noncomputable def Rd (H : Hp) (a : Addr) (u : HO) : Prop := H a = some u ∨ ∃ o, H a = some (.frz o u)
theorem Rd.ok {P : Program} {w : World} {H : Hp} {h : Heap} {a : Addr} {u : HO} (r : Rd H a u) (x : HOk P w H h) : ObjOk P w H h a u := by
  rcases r with r | ⟨o, r⟩
  · exact x a u r
  · obtain ⟨_, q⟩ := x a _ r
    exact q
noncomputable def Mut : Option HO → Prop
  | some (.lst _) => True
  | some (.dK _) => True
  | some (.dT _) => True
  | some (.set _ _) => True
  | some (.ins _ _ _) => True
  | some (.ext _) => True
  | _ => False
section
variable {P : Program} {w : World} {H : Hp} {h h' : Heap} {x e : Addr} {o' : HO}
theorem HOk.write (ok : HOk P w H h) (mu : Mut (H x)) (he : e = x ∨ H e = some (.own x)) (k : ∀ b u, b ≠ e → h.get? b = some u → h'.get? b = some u) (heo : ∃ u, h'.get? e = some u)
    (new : ObjOk P w (upd H x o') h' x o') : HOk P w (upd H x o') h' := fun b u q => by
  have nown : ∀ c y, H c = some (.own y) → c ≠ x := fun c y r z => by subst z; rw [r] at mu; exact mu
  have ntup : ∀ c xs, H c = some (.tup xs) → c ≠ x := fun c xs r z => by subst z; rw [r] at mu; exact mu
  by_cases hb : b = x
  · subst hb; rw [upd_same] at q; cases q; exact new
  · rw [upd_ne hb] at q
    by_cases hbe : b = e
    · have q' : H b = some (.own x) := by
        rcases he with z | z
        · exact absurd (hbe.trans z) hb
        · rw [hbe]; exact z
      rw [q] at q'; cases q'
      obtain ⟨v, hv⟩ := heo
      exact ⟨v, by rw [hbe]; exact hv⟩
    · refine (ok b u q).stay (fun c v hc r => k c v ?_ r) (fun c r => by rw [upd_ne (nown c b r)]; exact r) fun c xs r => by rw [upd_ne (ntup c xs r)]; exact r
      rcases hc with rfl | hc
      · exact hbe
      · rintro rfl
        rcases he with z | z
        · exact nown c b hc z
        · rw [hc] at z; cases z; exact hb rfl
end
structure Un (fs ex : List Addr) (H H' : Hp) (h h' : Heap) : Prop where
  keep : ∀ b o, h.get? b = some o → H b = none → b ∉ fs → b ∉ ex → h'.get? b = some o
  slot : ∀ b o, h.get? b = some o → H b = none → b ∈ fs → b ∉ ex → ∃ sl, h'.get? b = some { o with slots := sl }
  free : ∀ b o, h.get? b = some o → H b = none → b ∉ ex → H' b = none
  there : ∀ b o, h.get? b = some o → b ∉ ex → ∃ o', h'.get? b = some o'
  tups : ∀ b xs, H b = some (.tup xs) → H' b = some (.tup xs)
  frzs : ∀ b o u, H b = some (.frz o u) → H' b = some (.frz o u)
  tbls : ∀ b ps, H b = some (.tbl ps) → ∃ more, H' b = some (.tbl (ps ++ more))
section
variable {fs fs' ex ex' : List Addr} {H H1 H2 : Hp} {h h1 h2 h' : Heap} {a x e : Addr} {o : HO}
theorem Un.any (u : Un fs ex H H1 h h1) {b : Addr} {ob : Obj} (q : h.get? b = some ob) (n : H b = none) (hx : b ∉ ex) : ∃ sl, h1.get? b = some { ob with slots := sl } := by
  by_cases hb : b ∈ fs
  · exact u.slot b ob q n hb hx
  · exact ⟨ob.slots, u.keep b ob q n hb hx⟩
theorem Un.kept (k : ∀ b u, h.get? b = some u → h'.get? b = some u) : Un fs ex H H h h' :=
  ⟨fun b ob q _ _ _ => k b ob q, fun b ob q _ _ _ => ⟨ob.slots, k b ob q⟩, fun _ _ _ n _ => n, fun b ob q _ => ⟨ob, k b ob q⟩, fun _ _ q => q, fun _ _ _ q => q, fun _ ps q => ⟨#[], by rw [q]; simp⟩⟩
theorem Un.refl : Un fs ex H H h h := Un.kept fun _ _ q => q
theorem Un.laid (k : ∀ b u, h.get? b = some u → h'.get? b = some u) (hp : h.objs.size ≤ a) (hn : H a = none) : Un fs ex H (upd H a o) h h' where
  keep := fun b u q _ _ _ => k b u q
  slot := fun b u q _ _ _ => ⟨u.slots, k b u q⟩
  free := fun b u q n _ => by rw [upd_ne (Nat.ne_of_lt (Nat.lt_of_lt_of_le (Heap.lt_size q) hp))]; exact n
  there := fun b u q _ => ⟨u, k b u q⟩
  tups := fun b xs q => by rw [upd_ne (ne_of_none q hn)]; exact q
  frzs := fun b u xs q => by rw [upd_ne (ne_of_none q hn)]; exact q
  tbls := fun b ps q => ⟨#[], by rw [upd_ne (ne_of_none q hn), q]; simp⟩
theorem Un.write (mu : Mut (H x)) (he : e = x ∨ H e = some (.own x)) (k : ∀ b u, b ≠ e → h.get? b = some u → h'.get? b = some u) (heo : ∃ u, h'.get? e = some u) : Un fs ex H (upd H x o) h h' := by
  have hx : ∀ b, H b = none → b ≠ x := fun b n z => by subst z; rw [n] at mu; exact mu
  have hb : ∀ b, H b = none → b ≠ e := fun b n z => by
    subst z
    rcases he with r | r
    · exact hx b n r
    · rw [n] at r; cases r
  have hm : ∀ b u, H b = some u → ¬ Mut (some u) → b ≠ x := fun b u q nm z => by subst z; rw [q] at mu; exact nm mu
  refine ⟨fun b u q n _ _ => k b u (hb b n) q, fun b u q n _ _ => ⟨u.slots, k b u (hb b n) q⟩, fun b u q n _ => by rw [upd_ne (hx b n)]; exact n, fun b u q _ => ?_,
    fun b xs q => by rw [upd_ne (hm b _ q fun z => z)]; exact q, fun b u xs q => by rw [upd_ne (hm b _ q fun z => z)]; exact q, fun b ps q => ⟨#[], by rw [upd_ne (hm b _ q fun z => z), q]; simp⟩⟩
  by_cases hbe : b = e
  · subst hbe; exact heo
  · exact ⟨u, k b u hbe q⟩
end
noncomputable def trk (h : Heap) (H : Hp) : List Addr := (List.range h.objs.size).filter fun a => (H a).isSome
noncomputable def hidT (h : Heap) (H : Hp) : Heap := PySem.W.hideAll h (trk h H)
theorem hidT_size (h : Heap) (H : Hp) : (hidT h H).objs.size = h.objs.size := PySem.W.hideAll_size _ _
theorem hidT_get {h : Heap} {H : Hp} {b : Addr} {o : Obj} (e : h.get? b = some o) (n : H b = none) : (hidT h H).get? b = some o :=
  PySem.W.hideAll_get _ e fun hm => by
    have q : (H b).isSome = true := (List.mem_filter.mp hm).2
    rw [n] at q; simp at q
theorem of_hidT {h : Heap} {H : Hp} {b : Addr} {o : Obj} (e : (hidT h H).get? b = some o) : h.get? b = some o ∧ H b = none := by
  have e' : h.get? b = some o := PySem.W.of_hideAll (trk h H) e
  refine ⟨e', ?_⟩
  cases q : H b with
  | none => rfl
  | some x =>
    have hm : b ∈ trk h H := List.mem_filter.mpr ⟨List.mem_range.mpr (Heap.lt_size e'), by simp [q]⟩
    have z : (hidT h H).get? b = none := PySem.W.hideAll_none (trk h H) hm
    rw [z] at e; cases e
noncomputable def allNews (g h : Heap) (L : Addr) : List (Addr × Obj) := (List.range h.objs.size).filterMap fun a => if a = L ∨ (g.get? a).isSome = true then none else (h.get? a).map fun o => (a, o)
noncomputable def rest (g h : Heap) (L d : Addr) : List (Addr × Obj) := (allNews g h L).filter fun p => decide (p.1 ≠ d)
end L2
namespace L2
open PySem PySem.Spec PyProof.Rows
structure Mod (K : PySem.W.Frag) (mg : Str → Option Value) (base : Heap) : Prop where
  kin : K.In base
  glob : base.Ns mainGlobals mg
  blt : ∃ mb, base.Ns builtinsNs mb ∧ ∀ x : Str, x ≠ "__name__" → mb x = bootBuiltins x
  nolimit : base.NoLimit
set_option genInjectivity false in
structure Cx where
  prog : Program
  w : World
  K : PySem.W.Frag
  mg : Str → Option Value
  base : Heap
  A : Around
  N : List Str
  s₀ : Shared
  H₀ : Hp
  env : Env
  outer : List Env
  stack : List Env
  ex : List Addr
  fn : Str → Bool
  calm : Bool
  pn : List (Addr × Obj)
  xe : Value → Shared → Prop
noncomputable def frs (l : List Env) : List Addr := l.filterMap (·.frame)
noncomputable abbrev Cx.fs (X : Cx) : List Addr := frs X.outer
noncomputable def Vis (sc : Scope) (x : Str) : Prop := sc.names.lookup x = some .local ∨ sc.names.lookup x = some .cell ∨ sc.names.lookup x = some .free
noncomputable def Loc (sc : Scope) (x : Str) : Prop := sc.names.lookup x = some .local ∨ sc.names.lookup x = some .cell
noncomputable def Look (env : Env) (h : Heap) (m : Str → Option Value) (x : Str) (u : Value) : Prop :=
  (env.kindOf x = some .local ∧ m x = some u) ∨ ((env.kindOf x = some .cell ∨ env.kindOf x = some .free) ∧ ∃ c, env.cells.lookup x = some c ∧ h.IsCell c (some u))
structure Cx.Ok (X : Cx) : Prop where
  mod : Mod X.K X.mg X.base
  kind : X.env.scope.kind = .function
  glob : X.env.globals = mainGlobals
  blt : X.env.builtins = builtinsNs
  above : X.s₀.heap.objs.size ≤ X.env.locals
  inj : ∀ x y c, X.env.cells.lookup x = some c → X.env.cells.lookup y = some c → x = y
  has : ∀ x, (X.env.kindOf x = some .cell ∨ X.env.kindOf x = some .free) → ∃ c, X.env.cells.lookup x = some c
  cab : ∀ x c, X.fn x = true → X.env.cells.lookup x = some c → X.s₀.heap.objs.size ≤ c
  hd : X.calm = true → X.A.handled = none
  frames : X.A.frames = some X.stack
  stk : X.stack = X.outer ∨ (X.stack = X.env :: X.outer ∧ X.env.frame = some X.env.locals)
  exf : ∀ b ∈ X.ex, b ≠ X.env.locals ∧ ∀ x c, X.env.cells.lookup x = some c → c ≠ b
  bs : ∀ b o, X.base.get? b = some o → X.s₀.heap.get? b = some o ∧ X.H₀ b = none
  bsz : X.base.objs.size ≤ X.s₀.heap.objs.size
  noex : ∀ b o, X.base.get? b = some o → b ∉ X.ex
  exfs : ∀ b ∈ X.ex, b ∉ X.fs
  funs : X.s₀.heap.FunFrames X.base X.outer
  frf : ∀ b ∈ X.fs, X.H₀ b = none
structure Inv (X : Cx) (pins : List (Addr × Obj)) (σ : List (Option V)) (H : Hp) (s : Shared) : Prop where
  ok : X.Ok
  os : s.os = X.s₀.os
  bare : AllBare s.gens
  base : Un X.fs X.ex X.H₀ H X.s₀.heap s.heap
  loc : ∃ m, s.heap.Ns X.env.locals m ∧ ∀ (i : Nat) (x : Str) (v : V), X.N[i]? = some x → σ[i]? = some (some v) → Vis X.env.scope x → ∃ u, RelV v u ∧ Look X.env s.heap m x u
  cell : ∀ x c, X.env.cells.lookup x = some c → ∃ v, s.heap.IsCell c v
  free : H X.env.locals = none
  freeC : ∀ x c, X.env.cells.lookup x = some c → H c = none
  pin : ∀ p ∈ X.pn ++ pins, s.heap.get? p.1 = some p.2 ∧ H p.1 = none ∧ p.1 ≠ X.env.locals ∧ p.1 ∉ X.fs ∧ ∀ v, p.2.data ≠ .cell v
  hok : HOk X.prog X.w H s.heap
  len : σ.length = X.N.length
section
variable {X : Cx} {pins : List (Addr × Obj)} {σ : List (Option V)} {H H' : Hp} {s : Shared} {h' : Heap}
theorem Cx.Ok.nofr (ok : X.Ok) {b : Addr} {o : Obj} (e : X.base.get? b = some o) : b ∉ X.fs := fun hb => by
  have := (ok.funs.mem hb).1
  rw [e] at this; cases this
theorem Inv.bs (I : Inv X pins σ H s) : ∀ b o, X.base.get? b = some o → s.heap.get? b = some o ∧ H b = none := fun b o e =>
  ⟨I.base.keep b o (I.ok.bs b o e).1 (I.ok.bs b o e).2 (I.ok.nofr e) (I.ok.noex b o e), I.base.free b o (I.ok.bs b o e).1 (I.ok.bs b o e).2 (I.ok.noex b o e)⟩
theorem Inv.bk (I : Inv X pins σ H s) : ∀ b o, X.base.get? b = some o → s.heap.get? b = some o := fun b o e => (I.bs b o e).1
theorem Inv.mod (I : Inv X pins σ H s) : Mod X.K X.mg X.base := I.ok.mod
theorem Inv.kIn (I : Inv X pins σ H s) : X.K.In s.heap := I.ok.mod.kin.keeps I.bk
theorem Inv.lt (I : Inv X pins σ H s) : X.env.locals < s.heap.objs.size := let ⟨_, hn, _⟩ := I.loc; hn.lt
theorem Inv.sz (I : Inv X pins σ H s) : X.s₀.heap.objs.size ≤ s.heap.objs.size := Nat.le_trans I.ok.above (Nat.le_of_lt I.lt)
theorem Inv.nofs (I : Inv X pins σ H s) {a : Addr} (h : s.heap.objs.size ≤ a) : a ∉ X.fs := fun hb => by
  obtain ⟨_, o, ho, _⟩ := I.ok.funs.mem hb
  exact absurd (Nat.lt_of_lt_of_le (Heap.lt_size ho) (Nat.le_trans I.sz h)) (Nat.lt_irrefl _)
theorem Inv.cne (I : Inv X pins σ H s) : ∀ x c, X.env.cells.lookup x = some c → c ≠ X.env.locals := fun x c e z => by
  obtain ⟨v, o, ho, hd⟩ := I.cell x c e
  obtain ⟨m, ⟨o', es, ep, ho', hd', _⟩, _⟩ := I.loc
  rw [z, ho'] at ho; cases ho; rw [hd'] at hd; cases hd
theorem Inv.funs (I : Inv X pins σ H s) : s.heap.FunFrames X.base X.outer := by
  have all : ∀ (l : List Env), (∀ b ∈ frs l, b ∈ X.fs) → X.s₀.heap.FunFrames X.base l → s.heap.FunFrames X.base l := by
    intro l
    induction l with
    | nil => intro _ _; trivial
    | cons env r ih =>
      intro hs hl
      obtain ⟨hk, ⟨L, o, hf, hn, ho, hd⟩, hr⟩ := hl
      have hL : L ∈ X.fs := hs L (by unfold frs; rw [List.filterMap_cons, hf]; exact List.mem_cons_self)
      obtain ⟨sl, e⟩ := I.base.slot L o ho (I.ok.frf L hL) hL fun z => I.ok.exfs L z hL
      exact ⟨hk, ⟨L, _, hf, hn, e, hd⟩, ih (fun b hb => hs b (by unfold frs; rw [List.filterMap_cons, hf]; exact List.mem_cons_of_mem _ hb)) hr⟩
  exact all X.outer (fun _ hb => hb) I.ok.funs
theorem Inv.stack (I : Inv X pins σ H s) : s.heap.FunFrames X.base X.stack := by
  rcases I.ok.stk with e | ⟨e, hf⟩
  · rw [e]; exact I.funs
  · rw [e]
    obtain ⟨m, hn, _⟩ := I.loc
    refine .cons (by rw [I.ok.kind]; decide) hf hn ?_ I.funs
    exact Heap.get?_none_of_le (Nat.le_trans I.ok.bsz I.ok.above)
theorem Inv.stkSub (I : Inv X pins σ H s) : ∀ b ∈ frs X.stack, b ∈ X.env.locals :: X.fs := fun b hb => by
  rcases I.ok.stk with e | ⟨e, hf⟩
  · rw [e] at hb; exact List.mem_cons_of_mem _ hb
  · rw [e] at hb
    unfold frs at hb
    rw [List.filterMap_cons, hf] at hb
    exact hb
theorem Inv.stkFree (I : Inv X pins σ H s) : ∀ b ∈ frs X.stack, H b = none := fun b hb => by
  rcases List.mem_cons.mp (I.stkSub b hb) with e | hb
  · rw [e]; exact I.free
  · obtain ⟨_, o, ho, _⟩ := I.ok.funs.mem hb
    exact I.base.free b o ho (I.ok.frf b hb) fun z => I.ok.exfs b z hb
theorem Inv.step {g' : Array GenState} {t' : Nat} {d' : Drawn} {ch : List Addr} (I : Inv X pins σ H s)
    (hch : ∀ b ∈ ch, (b ∈ X.ex ∨ X.s₀.heap.objs.size ≤ b) ∧ b ≠ X.env.locals ∧ (∀ x c, X.env.cells.lookup x = some c → c ≠ b) ∧ ∀ p ∈ X.pn ++ pins, p.1 ≠ b)
    (keep : ∀ b o, b ≠ X.env.locals → b ∉ X.fs → b ∉ ch → s.heap.get? b = some o → H b = none → h'.get? b = some o)
    (slot : ∀ b o, b ≠ X.env.locals → b ∈ X.fs → b ∉ ch → s.heap.get? b = some o → H b = none → ∃ sl, h'.get? b = some { o with slots := sl }) (free : ∀ b o, b ∉ ch → s.heap.get? b = some o → H b = none → H' b = none)
    (there : ∀ b o, b ∉ ch → s.heap.get? b = some o → ∃ o', h'.get? b = some o')
    (tups : ∀ b xs, H b = some (.tup xs) → H' b = some (.tup xs)) (frzs : ∀ b o u, H b = some (.frz o u) → H' b = some (.frz o u)) (tbls : ∀ b ps, H b = some (.tbl ps) → ∃ more, H' b = some (.tbl (ps ++ more)))
    (ns : ∀ m, s.heap.Ns X.env.locals m → h'.Ns X.env.locals m) (hok : HOk X.prog X.w H' h') (hg : AllBare g') :
    Inv X pins σ H' { s with heap := h', gens := g', drawn := d', toks := t' } := by
  have neL : ∀ b o, X.s₀.heap.get? b = some o → b ≠ X.env.locals := fun b o e => Nat.ne_of_lt (Nat.lt_of_lt_of_le (Heap.lt_size e) I.ok.above)
  have neC : ∀ b o, X.s₀.heap.get? b = some o → b ∉ X.ex → b ∉ ch := fun b o e hx hb => by
    rcases (hch b hb).1 with z | z
    · exact hx z
    · exact absurd (Nat.lt_of_lt_of_le (Heap.lt_size e) z) (Nat.lt_irrefl _)
  have cellK : ∀ x c, X.env.cells.lookup x = some c → ∀ v, s.heap.IsCell c v → h'.IsCell c v := fun x c e v ⟨o, ho, hd⟩ => by
    have nch : c ∉ ch := fun z => (hch c z).2.2.1 x c e rfl
    by_cases hc : c ∈ X.fs
    · obtain ⟨sl, q⟩ := slot c o (I.cne x c e) hc nch ho (I.freeC x c e)
      exact ⟨_, q, hd⟩
    · exact ⟨o, keep c o (I.cne x c e) hc nch ho (I.freeC x c e), hd⟩
  refine ⟨I.ok, I.os, hg, ⟨fun b o e n hb hx => ?_, fun b o e n hb hx => ?_, fun b o e n hx => ?_, fun b o e hx => ?_, fun b xs e => tups b xs (I.base.tups b xs e), fun b o xs e => frzs b o xs (I.base.frzs b o xs e), fun b ps e => ?_⟩, ?_, fun x c e => ?_, ?_, fun x c e => ?_, fun p hp => ?_, hok, I.len⟩
  · exact keep b o (neL b o e) hb (neC b o e hx) (I.base.keep b o e n hb hx) (I.base.free b o e n hx)
  · obtain ⟨sl, e1⟩ := I.base.slot b o e n hb hx
    obtain ⟨sl', e2⟩ := slot b _ (neL b o e) hb (neC b o e hx) e1 (I.base.free b o e n hx)
    exact ⟨sl', e2⟩
  · obtain ⟨o', e1⟩ := I.base.there b o e hx
    exact free b o' (neC b o e hx) e1 (I.base.free b o e n hx)
  · obtain ⟨o', e1⟩ := I.base.there b o e hx
    exact there b o' (neC b o e hx) e1
  · obtain ⟨m1, e1⟩ := I.base.tbls b ps e
    obtain ⟨m2, e2⟩ := tbls b _ e1
    exact ⟨m1 ++ m2, by rw [e2, Array.append_assoc]⟩
  · obtain ⟨m, hn, hl⟩ := I.loc
    refine ⟨m, ns m hn, fun i x v e1 e2 e3 => ?_⟩
    obtain ⟨u, r, l⟩ := hl i x v e1 e2 e3
    refine ⟨u, r, ?_⟩
    rcases l with l | ⟨k, c, e, z⟩
    · exact .inl l
    · exact .inr ⟨k, c, e, cellK x c e _ z⟩
  · obtain ⟨v, z⟩ := I.cell x c e
    exact ⟨v, cellK x c e v z⟩
  · obtain ⟨m, ⟨o, _, _, ho, _⟩, _⟩ := I.loc
    exact free _ o (fun z => (hch _ z).2.1 rfl) ho I.free
  · obtain ⟨v, o, ho, hd⟩ := I.cell x c e
    exact free c o (fun z => (hch c z).2.2.1 x c e rfl) ho (I.freeC x c e)
  · obtain ⟨e, n, ne, nf, d⟩ := I.pin p hp
    have nch : p.1 ∉ ch := fun z => (hch p.1 z).2.2.2 p hp rfl
    exact ⟨keep p.1 p.2 ne nf nch e n, free p.1 p.2 nch e n, ne, nf, d⟩
theorem Inv.un {t' : Nat} (I : Inv X pins σ H s) (u : Un X.fs [] H H' s.heap h') (hok : HOk X.prog X.w H' h') : Inv X pins σ H' { s with heap := h', toks := t' } := by
  obtain ⟨m, ⟨o, es, ep, ho, r⟩, _⟩ := id I.loc
  obtain ⟨sl, hL⟩ := u.any ho I.free (by simp)
  exact I.step (g' := s.gens) (d' := s.drawn) (ch := []) (fun _ z => nomatch z) (fun b o _ hb _ e n => u.keep b o e n hb (by simp)) (fun b o _ hb _ e n => u.slot b o e n hb (by simp)) (fun b o _ e n => u.free b o e n (by simp)) (fun b o _ e => u.there b o e (by simp)) u.tups u.frzs u.tbls (fun m' hm => by
    obtain ⟨o', es', ep', ho', r'⟩ := hm
    rw [ho] at ho'; cases ho'
    exact ⟨_, es', ep', hL, r'⟩) hok I.bare
theorem Inv.call {g' : Array GenState} {t' : Nat} {d' : Drawn} {ch : List Addr} (I : Inv X pins σ H s) (u : Un (frs X.stack) ch H H' s.heap h') (hok : HOk X.prog X.w H' h') (hg : AllBare g')
    (hch : ∀ b ∈ ch, (b ∈ X.ex ∨ X.s₀.heap.objs.size ≤ b) ∧ b ≠ X.env.locals ∧ (∀ x c, X.env.cells.lookup x = some c → c ≠ b) ∧ ∀ p ∈ X.pn ++ pins, p.1 ≠ b) :
    Inv X pins σ H' { s with heap := h', gens := g', drawn := d', toks := t' } := by
  obtain ⟨m, ⟨o, es, ep, ho, r⟩, _⟩ := id I.loc
  obtain ⟨sl, hL⟩ := u.any ho I.free fun z => (hch _ z).2.1 rfl
  exact I.step (ch := ch) hch (fun b o hL hb hc e n => u.keep b o e n (fun z => (List.mem_cons.mp (I.stkSub b z)).elim hL hb) hc) (fun b o _ _ hc e n => u.any e n hc) (fun b o hc e n => u.free b o e n hc) (fun b o hc e => u.there b o e hc) u.tups u.frzs u.tbls (fun m' hm => by
    obtain ⟨o', es', ep', ho', r'⟩ := hm
    rw [ho] at ho'; cases ho'
    exact ⟨_, es', ep', hL, r'⟩) hok hg
theorem Inv.turned {t' : Nat} {it : Addr} (I : Inv X pins σ H s) (k : ∀ b o, b ≠ it → s.heap.get? b = some o → h'.get? b = some o) (hn : H it = none) (hL : it ≠ X.env.locals)
    (h1 : it ∈ X.ex ∨ X.s₀.heap.objs.size ≤ it) (h2 : ∀ x c, X.env.cells.lookup x = some c → c ≠ it) (h3 : ∀ p ∈ X.pn ++ pins, p.1 ≠ it) : Inv X pins σ H { s with heap := h', toks := t' } := by
  have nit : ∀ b u, H b = some u → b ≠ it := fun b u e z => by rw [z, hn] at e; cases e
  refine I.step (g' := s.gens) (d' := s.drawn) (ch := [it]) (fun b hb => ?_) (fun b o _ _ hc e _ => k b o (fun z => hc (by simp [z])) e) (fun b o _ _ hc e _ => ⟨o.slots, k b o (fun z => hc (by simp [z])) e⟩) (fun _ _ _ _ n => n)
    (fun b o hc e => ⟨o, k b o (fun z => hc (by simp [z])) e⟩) (fun _ _ e => e) (fun _ _ _ e => e) (fun b ps e => ⟨#[], by rw [e]; simp⟩) (fun m hm => ?_) (fun b u e => ?_) I.bare
  · have e : b = it := by simpa using hb
    subst e
    exact ⟨h1, hL, h2, h3⟩
  · obtain ⟨o, es, ep, ho, r⟩ := hm
    exact ⟨o, es, ep, k _ o (Ne.symm hL) ho, r⟩
  · refine (I.hok b u e).stay (fun c v hc q => k c v ?_ q) (fun _ q => q) fun _ _ q => q
    rcases hc with z | z
    · rw [z]; exact nit b u e
    · exact nit c _ z
theorem Inv.tok (I : Inv X pins σ H s) (t : Nat) : Inv X pins σ H { s with toks := t } := I.un (h' := s.heap) (t' := t) Un.refl I.hok
theorem Inv.kept {t' : Nat} (I : Inv X pins σ H s) (k : ∀ b u, s.heap.get? b = some u → h'.get? b = some u) : Inv X pins σ H { s with heap := h', toks := t' } := I.un (Un.kept k) (I.hok.kept k)
theorem Inv.laid {a : Addr} {o : HO} {t' : Nat} (I : Inv X pins σ H s) (k : ∀ b u, s.heap.get? b = some u → h'.get? b = some u) (hp : s.heap.objs.size ≤ a) (new : ObjOk X.prog X.w (upd H a o) h' a o) :
    Inv X pins σ (upd H a o) { s with heap := h', toks := t' } := I.un (Un.laid k hp (I.hok.fresh hp)) (I.hok.laid k hp new)
theorem Inv.write {x e : Addr} {o : HO} {t' : Nat} (I : Inv X pins σ H s) (mu : Mut (H x)) (he : e = x ∨ H e = some (.own x)) (k : ∀ b u, b ≠ e → s.heap.get? b = some u → h'.get? b = some u) (heo : ∃ u, h'.get? e = some u)
    (new : ObjOk X.prog X.w (upd H x o) h' x o) : Inv X pins σ (upd H x o) { s with heap := h', toks := t' } := I.un (Un.write mu he k heo) (I.hok.write mu he k heo new)
theorem Inv.pins_of {pins' : List (Addr × Obj)} (I : Inv X pins σ H s) (h : ∀ p ∈ pins', s.heap.get? p.1 = some p.2 ∧ H p.1 = none ∧ p.1 ≠ X.env.locals ∧ p.1 ∉ X.fs ∧ ∀ v, p.2.data ≠ .cell v) : Inv X pins' σ H s :=
  ⟨I.ok, I.os, I.bare, I.base, I.loc, I.cell, I.free, I.freeC, fun p hp => (List.mem_append.mp hp).elim (fun z => I.pin p (List.mem_append_left _ z)) (h p), I.hok, I.len⟩
theorem nodup_ix {N : List Str} (hN : N.Nodup) {i j : Nat} {x : Str} (a : N[i]? = some x) (b : N[j]? = some x) : i = j := by
  obtain ⟨h1, e1⟩ := List.getElem?_eq_some_iff.mp a
  obtain ⟨h2, e2⟩ := List.getElem?_eq_some_iff.mp b
  exact (List.getElem_inj hN).mp (e1.trans e2.symm)
theorem store_ok2 {M : Model} {A : Around} {E : Value → Shared → Prop} {i : Nat} {x : Str} {v : V} {u : Value} {Q : Unit → Shared → Prop} (I : Inv X pins σ H s) (hN : X.N.Nodup) (hi : X.N[i]? = some x) (hx : Loc X.env.scope x) (r : RelV v u)
    (h : ∀ s', Inv X pins (σ.set i (some v)) H s' → (∃ a, Heap.SameBut a s.heap s'.heap ∧ (a = X.env.locals ∨ X.env.cells.lookup x = some a)) → Q () s') (hf : X.fn x = true ∨ X.env.scope.names.lookup x = some .local := by first | exact .inl rfl | exact .inr rfl | assumption) : wpAny M A (storeName X.env x u) Q E s := by
  obtain ⟨m, hn, hl⟩ := id I.loc
  have hcls : (X.env.scope.kind == .class || (X.env.scope.kind == .module && X.env.locals != X.env.globals)) = false := by rw [I.ok.kind]; rfl
  have hiσ : i < σ.length := by rw [I.len]; exact (List.getElem?_eq_some_iff.mp hi).1
  have cne := I.cne
  have tracked : ∀ {a : Addr} {h' : Heap}, (∃ o, s.heap.get? a = some o ∧ H a = none) → Heap.SameBut a s.heap h' → HOk X.prog X.w H h' := fun {a h'} ha hs b ob e => by
    obtain ⟨_, _, hfree⟩ := ha
    refine (I.hok b ob e).stay (fun c w' hc q => (hs.2 c ?_).trans q) (fun _ q => q) fun _ _ q => q
    rintro rfl
    rcases hc with rfl | hc
    · rw [hfree] at e; cases e
    · rw [hfree] at hc; cases hc
  rcases hx with hk | hk
  · refine wpAny_storeName_local hk hn (fun h' hn' hs => ?_) hcls
    obtain ⟨oL, _, _, hoL, _⟩ := id hn
    refine h _ ⟨I.ok, I.os, I.bare, ⟨fun b o e n hb hx => ?_, fun b o e n hb hx => ?_, I.base.free, fun b o e hx => ?_, I.base.tups, I.base.frzs, I.base.tbls⟩, ⟨_, hn', fun j y v' e1 e2 e3 => ?_⟩, fun y c e => ?_, I.free, I.freeC, fun p hp => ?_, tracked ⟨oL, hoL, I.free⟩ hs, by simpa using I.len⟩ ⟨_, hs, .inl rfl⟩
    · exact (hs.2 b (Nat.ne_of_lt (Nat.lt_of_lt_of_le (Heap.lt_size e) I.ok.above))).trans (I.base.keep b o e n hb hx)
    · obtain ⟨sl, e1⟩ := I.base.slot b o e n hb hx
      exact ⟨sl, (hs.2 b (Nat.ne_of_lt (Nat.lt_of_lt_of_le (Heap.lt_size e) I.ok.above))).trans e1⟩
    · obtain ⟨o', e1⟩ := I.base.there b o e hx
      exact ⟨o', (hs.2 b (Nat.ne_of_lt (Nat.lt_of_lt_of_le (Heap.lt_size e) I.ok.above))).trans e1⟩
    · by_cases hj : j = i
      · subst hj
        rw [hi] at e1; cases e1
        rw [List.getElem?_set_self hiσ] at e2
        cases e2
        exact ⟨u, r, .inl ⟨hk, by simp⟩⟩
      · rw [List.getElem?_set_ne (Ne.symm hj)] at e2
        obtain ⟨u', r', q⟩ := hl j y v' e1 e2 e3
        refine ⟨u', r', ?_⟩
        rcases q with ⟨k, e⟩ | ⟨k, c, e, z⟩
        · refine .inl ⟨k, ?_⟩
          have : y ≠ x := fun e => hj (nodup_ix hN e1 (e ▸ hi))
          simp [this, e]
        · exact .inr ⟨k, c, e, z.sameBut hs (cne y c e)⟩
    · obtain ⟨w', z⟩ := I.cell y c e
      exact ⟨w', z.sameBut hs (cne y c e)⟩
    · obtain ⟨e, n, ne, nf, d⟩ := I.pin p hp
      exact ⟨(hs.2 p.1 ne).trans e, n, ne, nf, d⟩
  · have hfn : X.fn x = true := by
      rcases hf with z | z
      · exact z
      · rw [z] at hk; cases hk
    obtain ⟨c, hc⟩ := I.ok.has x (.inl hk)
    obtain ⟨w', z⟩ := I.cell x c hc
    refine wpAny_storeName_cell I.ok.kind hk hc z (fun h' hc' hs => ?_)
    obtain ⟨oc, hoc, hocd⟩ := id z
    refine h { s with heap := h' } ⟨I.ok, I.os, I.bare, ⟨fun b o e n hb hx => ?_, fun b o e n hb hx => ?_, I.base.free, fun b o e hx => ?_, I.base.tups, I.base.frzs, I.base.tbls⟩, ⟨m, hn.sameBut hs (Ne.symm (cne x c hc)), fun j y v' e1 e2 e3 => ?_⟩, fun y c' e => ?_, I.free, I.freeC, fun p hp => ?_, tracked ⟨oc, hoc, I.freeC x c hc⟩ hs, by simpa using I.len⟩ ⟨c, hs, .inr hc⟩
    · exact (hs.2 b (Nat.ne_of_lt (Nat.lt_of_lt_of_le (Heap.lt_size e) (I.ok.cab x c hfn hc)))).trans (I.base.keep b o e n hb hx)
    · obtain ⟨sl, e1⟩ := I.base.slot b o e n hb hx
      exact ⟨sl, (hs.2 b (Nat.ne_of_lt (Nat.lt_of_lt_of_le (Heap.lt_size e) (I.ok.cab x c hfn hc)))).trans e1⟩
    · obtain ⟨o', e1⟩ := I.base.there b o e hx
      exact ⟨o', (hs.2 b (Nat.ne_of_lt (Nat.lt_of_lt_of_le (Heap.lt_size e) (I.ok.cab x c hfn hc)))).trans e1⟩
    · by_cases hj : j = i
      · subst hj
        rw [hi] at e1; cases e1
        rw [List.getElem?_set_self hiσ] at e2
        cases e2
        exact ⟨u, r, .inr ⟨.inl hk, c, hc, hc'⟩⟩
      · rw [List.getElem?_set_ne (Ne.symm hj)] at e2
        obtain ⟨u', r', q⟩ := hl j y v' e1 e2 e3
        refine ⟨u', r', ?_⟩
        rcases q with q | ⟨k, c', e, z'⟩
        · exact .inl q
        · refine .inr ⟨k, c', e, z'.sameBut hs ?_⟩
          rintro rfl
          exact hj (nodup_ix hN e1 (I.ok.inj _ _ _ e hc ▸ hi))
    · by_cases hcc : c' = c
      · subst hcc; exact ⟨_, hc'⟩
      · obtain ⟨w2, z2⟩ := I.cell y c' e
        exact ⟨w2, z2.sameBut hs hcc⟩
    · obtain ⟨e, n, ne, nf, d⟩ := I.pin p hp
      refine ⟨(hs.2 p.1 ?_).trans e, n, ne, nf, d⟩
      intro q
      rw [q, hoc] at e
      have q' : oc = p.2 := Option.some.inj e
      exact d w' (by rw [← q']; exact hocd)
theorem store_ok {M : Model} {A : Around} {E : Value → Shared → Prop} {i : Nat} {x : Str} {v : V} {u : Value} {Q : Unit → Shared → Prop} (I : Inv X pins σ H s) (hN : X.N.Nodup) (hi : X.N[i]? = some x) (hx : Loc X.env.scope x) (r : RelV v u)
    (h : ∀ s', Inv X pins (σ.set i (some v)) H s' → Q () s') (hf : X.fn x = true ∨ X.env.scope.names.lookup x = some .local := by first | exact .inl rfl | exact .inr rfl | assumption) : wpAny M A (storeName X.env x u) Q E s :=
  store_ok2 I hN hi hx r (fun s' I' _ => h s' I') hf
theorem Inv.call' {s' : Shared} {ch : List Addr} (I : Inv X pins σ H s) (ho : s'.os = s.os) (u : Un (frs X.stack) ch H H' s.heap s'.heap) (hok : HOk X.prog X.w H' s'.heap) (hg : AllBare s'.gens)
    (hch : ∀ b ∈ ch, (b ∈ X.ex ∨ X.s₀.heap.objs.size ≤ b) ∧ b ≠ X.env.locals ∧ (∀ x c, X.env.cells.lookup x = some c → c ≠ b) ∧ ∀ p ∈ X.pn ++ pins, p.1 ≠ b) : Inv X pins σ H' s' := by
  obtain ⟨h', g', d', t', o'⟩ := s'
  have e : o' = s.os := ho
  subst e
  exact I.call (g' := g') (t' := t') (d' := d') u hok hg hch
end
noncomputable abbrev XK := Value → Option Addr → Hp → Prop
noncomputable abbrev St := List (Option V)
noncomputable abbrev VK := V → Hp → Prop
noncomputable abbrev TE := St → Hp → VK → Prop
noncomputable abbrev TT := St → Hp → (Bool → Hp → Prop) → Prop
noncomputable abbrev TA := St → Hp → (List V → Hp → Prop) → Prop
set_option genInjectivity false in
structure Ends where
  nx : St → Hp → Prop
  rt : VK
  bk : St → Hp → Prop := fun _ _ => False
  ct : St → Hp → Prop := fun _ _ => False
noncomputable abbrev TS := Ends → St → Hp → Prop
noncomputable def EP (X : Cx) (pins : List (Addr × Obj)) (σ : St) (Q : VK) (u : Value) (s' : Shared) : Prop := ∃ v H', Inv X pins σ H' s' ∧ RelV v u ∧ Q v H'
noncomputable def TP (X : Cx) (pins : List (Addr × Obj)) (σ : St) (Q : Bool → Hp → Prop) (b : Bool) (s' : Shared) : Prop := ∃ H', Inv X pins σ H' s' ∧ Q b H'
noncomputable def AP (X : Cx) (pins : List (Addr × Obj)) (σ : St) (Q : List V → Hp → Prop) (us : List Value) (s' : Shared) : Prop := ∃ vs H', Inv X pins σ H' s' ∧ Vals vs us ∧ Q vs H'
noncomputable def SP (X : Cx) (pins : List (Addr × Obj)) (D : Ends) (f : Flow) (s' : Shared) : Prop :=
  match f with
  | .next => ∃ σ' H', Inv X pins σ' H' s' ∧ D.nx σ' H'
  | .brk => ∃ σ' H', Inv X pins σ' H' s' ∧ D.bk σ' H'
  | .cont => ∃ σ' H', Inv X pins σ' H' s' ∧ D.ct σ' H'
  | .ret u => ∃ v σ' H', Inv X pins σ' H' s' ∧ RelV v u ∧ D.rt v H'
noncomputable def PE (X : Cx) (e : Expr) (t : TE) : Prop :=
  ∀ (pins : List (Addr × Obj)) (s : Shared) (σ : St) (H : Hp) (Q : VK), Inv X pins σ H s → t σ H Q → wpAny (model X.prog X.w) X.A (eval e X.env) (EP X pins σ Q) X.xe s
noncomputable def PT (X : Cx) (e : Expr) (t : TT) : Prop :=
  ∀ (pins : List (Addr × Obj)) (s : Shared) (σ : St) (H : Hp) (Q : Bool → Hp → Prop), Inv X pins σ H s → t σ H Q → wpAny (model X.prog X.w) X.A (isTrue e X.env (eval e X.env)) (TP X pins σ Q) X.xe s
noncomputable def PW (X : Cx) (e : Expr) (t : TT) : Prop :=
  ∀ (whole : Sem Value) (pins : List (Addr × Obj)) (s : Shared) (σ : St) (H : Hp) (Q : Bool → Hp → Prop), Inv X pins σ H s → t σ H Q → wpAny (model X.prog X.w) X.A (isTrue e X.env whole) (TP X pins σ Q) X.xe s
theorem PW.pt {X : Cx} {e : Expr} {t : TT} (h : PW X e t) : PT X e t := h _
noncomputable def PA (X : Cx) (es : List Expr) (t : TA) : Prop :=
  ∀ (pos : Pos) (pins : List (Addr × Obj)) (s : Shared) (σ : St) (H : Hp) (Q : List V → Hp → Prop), Inv X pins σ H s → t σ H Q → wpAny (model X.prog X.w) X.A (spliced (backTo pos (starEach es X.env))) (AP X pins σ Q) X.xe s
noncomputable def PS (X : Cx) (st : Stmt) (t : TS) : Prop :=
  ∀ (pins : List (Addr × Obj)) (s : Shared) (σ : St) (H : Hp) (D : Ends), Inv X pins σ H s → t D σ H → wpAny (model X.prog X.w) X.A (exec st X.env) (SP X pins D) X.xe s
noncomputable def PSs (X : Cx) (st : List Stmt) (t : TS) : Prop :=
  ∀ (pins : List (Addr × Obj)) (s : Shared) (σ : St) (H : Hp) (D : Ends), Inv X pins σ H s → t D σ H → wpAny (model X.prog X.w) X.A (execs st X.env) (SP X pins D) X.xe s
theorem thn {α : Type} {t : Sem α} {Q Q' : α → Shared → Prop} {M : Model} {A : Around} {E : Value → Shared → Prop} {s : Shared} (h : wpAny M A t Q E s) (hQ : ∀ a s, Q a s → Q' a s) : wpAny M A t Q' E s := wpAny_mono h hQ fun _ _ x => x
end L2
namespace L2
open PySem PySem.Spec PyProof.Rows
section
variable {X : Cx}
noncomputable def tVar (i : Nat) : TE := fun σ H Q => ∃ v, σ[i]? = some (some v) ∧ Q v H
noncomputable def tC (v : V) : TE := fun _ H Q => Q v H
theorem pe_var {i : Nat} {x : Str} {pos : Pos} (hN : X.N[i]? = some x) (hv : Vis X.env.scope x) (hd : (x == ("__debug__" : Str)) = false := by decide) (hcd : (x == ("__classdict__" : Str)) = false := by decide) : PE X (.Name x pos) (tVar i) := by
  intro pins s σ H Q I h
  obtain ⟨v, e, h⟩ := h
  obtain ⟨m, hn, hl⟩ := I.loc
  obtain ⟨u, r, l⟩ := hl i x v hN e hv
  have fin : EP X pins σ Q u s := ⟨v, H, I, r, h⟩
  rcases l with ⟨hk, hm⟩ | ⟨hk, c, hc, hcell⟩
  · exact wpAny_Name (wpAny_loadName_local I.ok.kind hk hn hm fin) hd
  · rcases hk with hk | hk
    · exact wpAny_Name (wpAny_loadName_cell I.ok.kind hk hc hcell fin) hd
    · exact wpAny_Name (wpAny_loadName_free I.ok.kind hk hc hcell fin hcd) hd
theorem pe_int {i j pos} : PE X (.Constant (.int i) j pos) (tC (.int i)) := fun _ _ _ H _ I h => wpAny_Constant_int ⟨.int i, H, I.tok _, ⟨_, rfl⟩, h⟩
theorem pe_bl {b j pos} : PE X (.Constant (.bool b) j pos) (tC (.bl b)) := fun _ _ _ H _ I h => Constant_bool ⟨.bl b, H, I, rfl, h⟩
theorem pe_non {j pos} : PE X (.Constant .none j pos) (tC .non) := fun _ _ _ H _ I h => Constant_none ⟨.non, H, I, rfl, h⟩
noncomputable def Gl (X : Cx) (x : Str) : Prop := X.env.kindOf x = some .globalImplicit
theorem ld_glob {E : Value → Shared → Prop} {pins : List (Addr × Obj)} {s : Shared} {σ : St} {H : Hp} {x : Str} {u : Value} {pos : Pos} {Q : Value → Shared → Prop} (I : Inv X pins σ H s) (hg : Gl X x) (hm : X.mg x = some u) (h : Q u s)
    (hd : (x == ("__debug__" : Str)) = false := by decide) : wpAny (model X.prog X.w) X.A (eval (.Name x pos) X.env) Q E s :=
  Calls.Name_function_global I.ok.kind hg (Calls.loadGlobal_global (by rw [I.ok.glob]; exact I.mod.glob.keeps I.bk) hm h) hd
theorem ld_blt {E : Value → Shared → Prop} {pins : List (Addr × Obj)} {s : Shared} {σ : St} {H : Hp} {x : Str} {u : Value} {pos : Pos} {Q : Value → Shared → Prop} (I : Inv X pins σ H s) (hg : Gl X x) (hm : X.mg x = none) (hv : bootBuiltins x = some u) (h : Q u s)
    (hn : x ≠ "__name__" := by decide) (hd : (x == ("__debug__" : Str)) = false := by decide) : wpAny (model X.prog X.w) X.A (eval (.Name x pos) X.env) Q E s := by
  obtain ⟨mb, h1, h2⟩ := I.mod.blt
  exact Calls.Name_function_global I.ok.kind hg (Calls.loadGlobal_builtin (by rw [I.ok.glob]; exact I.mod.glob.keeps I.bk) hm (by rw [I.ok.blt]; exact h1.keeps I.bk) ((h2 x hn).trans hv) h) hd
theorem pe_glob {x : Str} {v : V} {u : Value} {pos : Pos} (hg : Gl X x) (hm : X.mg x = some u) (r : RelV v u) (hd : (x == ("__debug__" : Str)) = false := by decide) : PE X (.Name x pos) (tC v) :=
  fun _ _ _ H _ I h => ld_glob I hg hm ⟨v, H, I, r, h⟩ hd
theorem pe_bltn {x : Str} {v : V} {u : Value} {pos : Pos} (hg : Gl X x) (hm : X.mg x = none) (hv : bootBuiltins x = some u) (r : RelV v u) (hn : x ≠ "__name__" := by decide) (hd : (x == ("__debug__" : Str)) = false := by decide) : PE X (.Name x pos) (tC v) :=
  fun _ _ _ H _ I h => ld_blt I hg hm hv ⟨v, H, I, r, h⟩ hn hd
noncomputable def t2I (ta tb : TE) (k : Int → Int → Hp → Prop) : St → Hp → Prop := fun σ H => ta σ H fun x H1 => tb σ H1 fun y H2 => ∃ i j, x = .int i ∧ y = .int j ∧ k i j H2
variable {a b : Expr} {ta tb : TE} {pos : Pos}
noncomputable def tCmp (p : Int → Int → Bool) (ta tb : TE) : TE := fun σ H Q => t2I ta tb (fun i j H2 => Q (.bl (p i j)) H2) σ H
noncomputable abbrev tLt : TE → TE → TE := tCmp fun i j => decide (i < j)
noncomputable abbrev tLe : TE → TE → TE := tCmp fun i j => decide (i ≤ j)
noncomputable abbrev tGt : TE → TE → TE := tCmp fun i j => decide (j < i)
noncomputable abbrev tGe : TE → TE → TE := tCmp fun i j => decide (j ≤ i)
noncomputable abbrev tEqI : TE → TE → TE := tCmp fun i j => decide (i = j)
noncomputable abbrev tNeI : TE → TE → TE := tCmp fun i j => !decide (i = j)
noncomputable def tB (t : TE) : TT := fun σ H Q => t σ H fun x H1 => ∃ c, x = .bl c ∧ Q c H1
variable {tA tB' : TT} {rest : List Expr}
noncomputable def tOr (t u : TT) : TT := fun σ H Q => t σ H fun c H1 => if c = true then Q true H1 else u σ H1 Q
noncomputable def tNot (t : TT) : TT := fun σ H Q => t σ H fun c H1 => Q (!c) H1
theorem pw_or1 (ha : PT X a tA) : PW X (.BoolOp .Or [a] pos) tA := by
  intro wh pins s σ H Q I h
  refine isTrue_or (thn (ha pins s σ H Q I h) fun c s1 e => ?_)
  cases c with
  | false => exact isTrue_or_nil e
  | true => exact e
theorem pw_or (ha : PT X a tA) (hb : PW X (.BoolOp .Or (b :: rest) pos) tB') : PW X (.BoolOp .Or (a :: b :: rest) pos) (tOr tA tB') := by
  intro wh pins s σ H Q I h
  refine isTrue_or (thn (ha pins s σ H _ I h) fun c s1 qz9 => ?_)
  obtain ⟨H1, I1, q1⟩ := qz9
  cases c with
  | true => exact ⟨H1, I1, q1⟩
  | false => exact hb wh pins s1 σ H1 Q I1 q1
theorem pt_not (ha : PT X a tA) : PT X (.UnaryOp .Not a pos) (tNot tA) := by
  intro pins s σ H Q I h
  exact isTrue_not (ha pins s σ H (fun c H1 => Q (!c) H1) I h)
noncomputable def tAndV (ta tb : TE) : TE := fun σ H Q => ta σ H fun x H1 => ∃ c, x = .bl c ∧ if c = true then tb σ H1 Q else Q (.bl false) H1
noncomputable def tNotV (ta : TE) : TE := fun σ H Q => ta σ H fun x H1 => ∃ c, x = .bl c ∧ Q (.bl (!c)) H1
theorem pe_one {op} {t : TE} (h : PE X a t) : PE X (.BoolOp op [a] pos) t := fun pins s σ H Q I hw => BoolOp_one (h pins s σ H Q I hw)
theorem pe_and (ha : PE X a ta) (hb : PE X (.BoolOp .And (b :: rest) pos) tb) : PE X (.BoolOp .And (a :: b :: rest) pos) (tAndV ta tb) := by
  intro pins s σ H Q I h
  refine BoolOp_and (thn (ha pins s σ H _ I h) fun v s1 qz9 => ?_)
  obtain ⟨x, H1, I1, r1, q1⟩ := qz9
  obtain ⟨c, rfl, q1⟩ := q1
  cases r1
  refine wpAny_truthy_bool ?_
  cases c with
  | true => exact hb pins s1 σ H1 Q I1 q1
  | false => exact ⟨.bl false, H1, I1, rfl, q1⟩
theorem pe_not (ha : PE X a ta) : PE X (.UnaryOp .Not a pos) (tNotV ta) := by
  intro pins s σ H Q I h
  refine UnaryOp_ (thn (ha pins s σ H _ I h) fun v s1 qz9 => ?_)
  obtain ⟨x, H1, I1, r1, q1⟩ := qz9
  obtain ⟨c, rfl, q1⟩ := q1
  cases r1
  exact not_of (wpAny_truthy_bool ⟨.bl (!c), H1, I1, rfl, q1⟩)
end
end L2
namespace L2
open PySem PySem.Spec PyProof.Rows
noncomputable def SqL (K : PySem.W.Frag) (H : Hp) (a : Addr) (xs : List V) : Prop :=
  Rd H a (.lst xs) ∨
    ∃ (o : Obj) (its : Array Value) (n : Nat), K.lookup a = some o ∧ o.cls = .type "list" ∧ o.dict = none ∧ o.data = .seq its n ∧ its.size ≤ sizeLine ∧ Vals xs its.toList
noncomputable def SqT (K : PySem.W.Frag) (H : Hp) (a : Addr) (xs : List V) : Prop :=
  Rd H a (.tup xs) ∨
    ∃ (o : Obj) (its : Array Value) (n : Nat), K.lookup a = some o ∧ o.cls = .type "tuple" ∧ o.data = .seq its n ∧ its.size ≤ sizeLine ∧ Vals xs its.toList
noncomputable def absV : Value → Option V
  | .none => some .non
  | .bool b => some (.bl b)
  | .int i _ => some (.int i)
  | .str x _ => some (.str x)
  | .bytes b _ => some (.byt b)
  | .float b _ => some (.flt b)
  | .ref a => some (.ref a)
  | .type n => some (.ty n)
  | _ => none
theorem RelV.abs {x : V} {u : Value} (r : RelV x u) : absV u = some x := by
  cases x with
  | non => cases r; rfl
  | bl _ => cases r; rfl
  | int _ => obtain ⟨t, rfl⟩ := r; rfl
  | str _ => obtain ⟨t, rfl⟩ := r; rfl
  | byt _ => obtain ⟨t, rfl⟩ := r; rfl
  | flt _ => obtain ⟨t, rfl⟩ := r; rfl
  | ref _ => cases r; rfl
  | ty _ => cases r; rfl
theorem RelV.inj {x y : V} {u : Value} (r : RelV x u) (q : RelV y u) : x = y := Option.some.inj (r.abs.symm.trans q.abs)
theorem Vals.inj {xs ys : List V} {us : List Value} (h : Vals xs us) (k : Vals ys us) : xs = ys := by
  induction h generalizing ys with
  | nil => cases k; rfl
  | cons r t ih =>
    cases k with
    | cons r' t' => rw [r.inj r', ih t']
section
variable {X : Cx} {pins : List (Addr × Obj)} {σ : St} {H : Hp} {s : Shared} {a : Addr} {xs ys : List V}
theorem Inv.list (I : Inv X pins σ H s) (h : SqL X.K H a xs) : ∃ its : List Value, Vals xs its ∧ PlainL s.heap a its.toArray ∧ xs.length ≤ sizeLine := by
  rcases h with h | ⟨o, its, n, hk, hc, hd, hs, hz, r⟩
  · obtain ⟨z, its, n, r, e⟩ := h.ok I.hok
    exact ⟨its, r, ⟨_, n, e, rfl, rfl, rfl⟩, z⟩
  · refine ⟨its.toList, r, ⟨o, n, I.kIn a o hk, hc, hd, by simpa using hs⟩, ?_⟩
    have e := r.length
    simp only [Array.length_toList] at e
    omega
theorem Inv.tuple (I : Inv X pins σ H s) (h : SqT X.K H a xs) : ∃ its : List Value, Vals xs its ∧ IsTup s.heap a its.toArray ∧ xs.length ≤ sizeLine := by
  rcases h with h | ⟨o, its, n, hk, hc, hs, hz, r⟩
  · obtain ⟨z, its, r, p⟩ := h.ok I.hok
    exact ⟨its, r, p, z⟩
  · refine ⟨its.toList, r, ⟨o, I.kIn a o hk, hc, n, by simpa using hs⟩, ?_⟩
    have e := r.length
    simp only [Array.length_toList] at e
    omega
theorem Inv.list_inj (I : Inv X pins σ H s) (h : SqL X.K H a xs) (h' : SqL X.K H a ys) : xs = ys := by
  obtain ⟨its, r, ⟨o, n, e, _, _, d⟩, _⟩ := I.list h
  obtain ⟨its', r', ⟨o', n', e', _, _, d'⟩, _⟩ := I.list h'
  rw [e] at e'; cases e'
  rw [d] at d'
  injection d' with d1 _
  have : its = its' := by simpa using congrArg Array.toList d1
  subst this
  exact r.inj r'
end
noncomputable abbrev Cx.wish (X : Cx) (E : Value → Shared → Prop) : Cx := { X with xe := E }
noncomputable abbrev Cx.nox (X : Cx) : Cx := X.wish fun _ _ => False
theorem Cx.Ok.wish {X : Cx} (ok : X.Ok) (E : Value → Shared → Prop) : (X.wish E).Ok :=
  ⟨ok.mod, ok.kind, ok.glob, ok.blt, ok.above, ok.inj, ok.has, ok.cab, ok.hd, ok.frames, ok.stk, ok.exf, ok.bs, ok.bsz, ok.noex, ok.exfs, ok.funs, ok.frf⟩
theorem Cx.Ok.unwish {X : Cx} {E : Value → Shared → Prop} (ok : (X.wish E).Ok) : X.Ok :=
  ⟨ok.mod, ok.kind, ok.glob, ok.blt, ok.above, ok.inj, ok.has, ok.cab, ok.hd, ok.frames, ok.stk, ok.exf, ok.bs, ok.bsz, ok.noex, ok.exfs, ok.funs, ok.frf⟩
section
variable {X : Cx} {pins : List (Addr × Obj)} {σ : St} {H : Hp} {s : Shared} {E : Value → Shared → Prop}
theorem Inv.wish (I : Inv X pins σ H s) (E : Value → Shared → Prop) : Inv (X.wish E) pins σ H s := ⟨I.ok.wish E, I.os, I.bare, I.base, I.loc, I.cell, I.free, I.freeC, I.pin, I.hok, I.len⟩
theorem Inv.unwish (I : Inv (X.wish E) pins σ H s) : Inv X pins σ H s := ⟨I.ok.unwish, I.os, I.bare, I.base, I.loc, I.cell, I.free, I.freeC, I.pin, I.hok, I.len⟩
theorem SP.unwish {D : Ends} {f : Flow} {s' : Shared} (h : SP (X.wish E) pins D f s') : SP X pins D f s' := by
  cases f with
  | next => obtain ⟨σ', H', I, q⟩ := h; exact ⟨σ', H', I.unwish, q⟩
  | brk => obtain ⟨σ', H', I, q⟩ := h; exact ⟨σ', H', I.unwish, q⟩
  | cont => obtain ⟨σ', H', I, q⟩ := h; exact ⟨σ', H', I.unwish, q⟩
  | ret u => obtain ⟨v, σ', H', I, r, q⟩ := h; exact ⟨v, σ', H', I.unwish, r, q⟩
theorem PSs.nox {st : List Stmt} {t : TS} (h : PSs X.nox st t) : PSs X st t := fun pins s σ H D I hw =>
  wpAny_mono (h pins s σ H D (I.wish _) hw) (fun _ _ q => q.unwish) fun _ _ z => False.elim z
end
section
variable {X : Cx} {st : Stmt} {rest : List Stmt} {t u : TS} {e : Expr} {te : TE} {pos : Pos}
noncomputable def tNext : TS := fun D σ H => D.nx σ H
noncomputable def tSeq (t u : TS) : TS := fun D σ H => t { D with nx := u D } σ H
theorem pss_nil : PSs X [] tNext := fun _ _ σ H _ I h => wpAny_execs_nil ⟨σ, H, I, h⟩
theorem pss_cons (h1 : PS X st t) (h2 : PSs X rest u) : PSs X (st :: rest) (tSeq t u) := by
  intro pins s σ H D I h
  refine wpAny_execs_cons (thn (h1 pins s σ H { D with nx := u D } I h) fun f s1 q => ?_)
  cases f with
  | next =>
    obtain ⟨σ', H', I', q⟩ := q
    exact h2 pins s1 σ' H' D I' q
  | ret v => exact q
  | brk => exact q
  | cont => exact q
theorem pss_one (h1 : PS X st t) : PSs X [st] t := by
  intro pins s σ H D I h
  refine wpAny_execs_cons (thn (h1 pins s σ H D I h) fun f s1 q => ?_)
  cases f with
  | next => exact wpAny_execs_nil q
  | ret v => exact q
  | brk => exact q
  | cont => exact q
theorem Inv.quiet {pins : List (Addr × Obj)} {σ : St} {H : Hp} {s : Shared} (I : Inv X pins σ H s) : interactive X.env = false := by simp [interactive, I.ok.kind]
noncomputable def tDrop (te : TE) : TS := fun D σ H => te σ H fun _ H1 => D.nx σ H1
theorem ps_expr (he : PE X e te) (hs : swapsWith e none pos.line X.env = pure false := by rfl) : PS X (.Expr e pos) (tDrop te) := by
  intro pins s σ H D I h
  refine wpAny_Expr_any (thn (he pins s σ H _ I h) fun v s1 qz9 => ?_) I.quiet hs
  obtain ⟨x, H1, I1, r1, q1⟩ := qz9
  exact ⟨σ, H1, I1, q1⟩
noncomputable def tRet (te : TE) : TS := fun D σ H => te σ H D.rt
theorem ps_ret (he : PE X e te) : PS X (.Return (some e) pos) (tRet te) := by
  intro pins s σ H D I h
  refine wpAny_Return_some (thn (he pins s σ H _ I h) fun v s1 qz9 => ?_)
  obtain ⟨x, H1, I1, r1, q1⟩ := qz9
  exact ⟨x, σ, H1, I1, r1, q1⟩
noncomputable def tIfS (c : TT) (t u : TS) : TS := fun D σ H => c σ H fun b H1 => if b = true then t D σ H1 else u D σ H1
theorem ps_if {c : Expr} {a b : List Stmt} {tc : TT} (hc : PT X c tc) (ha : PSs X a t) (hb : PSs X b u) : PS X (.If c a b pos) (tIfS tc t u) := by
  intro pins s σ H D I h
  refine wpAny_If (thn (hc pins s σ H _ I h) fun d s1 qz9 => ?_)
  obtain ⟨H1, I1, q1⟩ := qz9
  cases d with
  | true => exact ha pins s1 σ H1 D I1 q1
  | false => exact hb pins s1 σ H1 D I1 q1
noncomputable def tNever : TS := fun _ _ _ => False
theorem ps_never : PS X st tNever := fun _ _ _ _ _ _ h => h.elim
end
noncomputable abbrev TG := V → St → Hp → (St → Hp → Prop) → Prop
noncomputable abbrev TGs := List V → St → Hp → (St → Hp → Prop) → Prop
noncomputable def PG (X : Cx) (target : Expr) (t : TG) : Prop :=
  ∀ (pins : List (Addr × Obj)) (s : Shared) (σ : St) (H : Hp) (v : V) (u : Value) (Q : St → Hp → Prop), Inv X pins σ H s → RelV v u → t v σ H Q →
    wpAny (model X.prog X.w) X.A (assign target X.env u) (fun _ s' => ∃ σ' H', Inv X pins σ' H' s' ∧ Q σ' H') X.xe s
noncomputable abbrev TSet := V → V → V → Hp → (Hp → Prop) → Prop
noncomputable def PSet (X : Cx) (t : TSet) : Prop :=
  ∀ (pins : List (Addr × Obj)) (s : Shared) (σ : St) (H : Hp) (o i v : V) (ov iv u : Value) (Q : Hp → Prop), Inv X pins σ H s → RelV o ov → RelV i iv → RelV v u → t o i v H Q →
    wpAny (model X.prog X.w) X.A (setItem ov iv u) (fun _ s' => ∃ H', Inv X pins σ H' s' ∧ Q H') X.xe s
noncomputable abbrev TIp := V → V → Hp → VK → Prop
section
variable {X : Cx} {pos : Pos}
noncomputable def gName (i : Nat) : TG := fun v σ H Q => Q (σ.set i (some v)) H
theorem pg_name {i : Nat} {x : Str} (hN : X.N.Nodup) (hi : X.N[i]? = some x) (hx : Loc X.env.scope x) (hf : X.fn x = true ∨ X.env.scope.names.lookup x = some .local := by first | exact .inl rfl | exact .inr rfl | assumption) : PG X (.Name x pos) (gName i) := by
  intro pins s σ H v u Q I r h
  exact wpAny_assign_Name (store_ok I hN hi hx r (fun s' I' => ⟨_, H, I', h⟩) hf)
noncomputable def gSub (to ti : TE) (t : TSet) : TG := fun v σ H Q => to σ H fun o H1 => ti σ H1 fun i H2 => t o i v H2 fun H3 => Q σ H3
theorem pg_sub {o i : Expr} {to ti : TE} {t : TSet} (ho : PE X o to) (hi : PE X i ti) (hs : PSet X t)
    (ha : ∀ v, assign (.Subscript o i pos) X.env v = (do
      let ov ← holding [v] (eval o X.env)
      let iv ← holding [v, ov] (eval i X.env)
      standAt pos
      holding [v, ov, iv] (setItem ov iv v)
      release [v, ov, iv] []) := by intro _; rfl) : PG X (.Subscript o i pos) (gSub to ti t) := by
  intro pins s σ H v u Q I r h
  rw [ha]
  refine wpAny_bind (wpAny_holding (thn (ho pins s σ H _ I h) fun ov s1 qz9 => ?_))
  obtain ⟨x, H1, I1, r1, q1⟩ := qz9
  refine wpAny_bind (wpAny_holding (thn (hi pins s1 σ H1 _ I1 q1) fun iv s2 qz9 => ?_))
  obtain ⟨y, H2, I2, r2, q2⟩ := qz9
  refine wpAny_bind (wpAny_standAt (wpAny_bind (wpAny_holding (thn (hs pins s2 σ H2 x y v ov iv u _ I2 r1 r2 r q2) fun _ s3 qz9 => ?_))))
  obtain ⟨H3, I3, q3⟩ := qz9
  exact wpAny_release ⟨σ, H3, I3, q3⟩
noncomputable def tAsg (te : TE) (g : TG) : TS := fun D σ H => te σ H fun x H1 => g x σ H1 D.nx
theorem ps_asg {tg e : Expr} {te : TE} {g : TG} (he : PE X e te) (hg : PG X tg g) (hs : swapsWithSole [tg] e pos.line X.env = pure false := by rfl) (hw : swappedStores [tg] e X.env = pure none := by rfl)
    (h1 : (assignEach [tg] X.env).map (·.2) = [assign tg X.env] := by rfl) : PS X (.Assign [tg] e pos) (tAsg te g) := by
  intro pins s σ H D I h
  refine wpAny_Assign_stores (thn (he pins s σ H _ I h) fun v s1 qz9 => ?_) hs hw
  obtain ⟨x, H1, I1, r1, q1⟩ := qz9
  rw [h1]
  exact thn (hg pins s1 σ H1 x v _ I1 r1 q1) fun _ s2 q => q
theorem ps_set {i : Nat} {x : Str} {e : Expr} {te : TE} {pos' : Pos} (hN : X.N.Nodup) (hi : X.N[i]? = some x) (hx : Loc X.env.scope x) (he : PE X e te) (hs : swapsWith e (some (.Name x pos')) pos.line X.env = pure false := by rfl) (hf : X.fn x = true ∨ X.env.scope.names.lookup x = some .local := by first | exact .inl rfl | exact .inr rfl | assumption) :
    PS X (.Assign [.Name x pos'] e pos) (tAsg te (gName i)) := by
  intro pins s σ H D I h
  refine wpAny_Assign_Name (thn (he pins s σ H _ I h) fun v s1 qz9 => ?_) hs
  obtain ⟨y, H1, I1, r1, q1⟩ := qz9
  exact store_ok I1 hN hi hx r1 (fun s2 I2 => ⟨_, H1, I2, q1⟩) hf
end
section
variable {X : Cx} {pos : Pos}
end
set_option genInjectivity false in
structure It where
  go : Nat → Hp → Prop
  yld : Nat → Hp → V → Hp → Prop
  stop : Nat → Hp → Prop
noncomputable def FpOk (X : Cx) (pins : List (Addr × Obj)) (H : Hp) (b : Addr) : Prop :=
  H b = none ∧ b ≠ X.env.locals ∧ b ∉ X.fs ∧ (b ∈ X.ex ∨ X.s₀.heap.objs.size ≤ b) ∧ (∀ x c, X.env.cells.lookup x = some c → c ≠ b) ∧ ∀ p ∈ X.pn ++ pins, p.1 ≠ b
theorem Inv.fpOk {X : Cx} {pins : List (Addr × Obj)} {σ : St} {H H' : Hp} {s : Shared} {b : Addr} (I : Inv X pins σ H s) (hb : s.heap.objs.size ≤ b) (hn : H' b = none) : FpOk X pins H' b := by
  refine ⟨hn, Nat.ne_of_gt (Nat.lt_of_lt_of_le I.lt hb), I.nofs hb, .inr (Nat.le_trans I.sz hb), fun x c e z => ?_, fun p hp z => ?_⟩
  · obtain ⟨v, q⟩ := I.cell x c e
    exact absurd (Nat.lt_of_lt_of_le q.lt (by rw [z]; exact hb)) (Nat.lt_irrefl _)
  · exact absurd (Nat.lt_of_lt_of_le (Heap.lt_size (I.pin p hp).1) (by rw [z]; exact hb)) (Nat.lt_irrefl _)
structure Turn (P : Program) (w : World) (K : PySem.W.Frag) (tg : Expr) (J : It) (fp : List Addr) (it : Addr) (tn : Nat → Heap → Prop) : Prop where
  mem : it ∈ fp
  obj : ∀ i h, tn i h → ∀ b ∈ fp, ∃ o, h.get? b = some o ∧ ∀ v, o.data ≠ .cell v
  keep : ∀ i h h', tn i h → (∀ b ∈ fp, ∀ o, h.get? b = some o → h'.get? b = some o) → tn i h'
  item : ∀ (X : Cx), X.prog = P → X.w = w → X.K = K → X.calm = true → ∀ (i : Nat) (pins : List (Addr × Obj)) (s : Shared) (σ : St) (H : Hp) (E : Value → Shared → Prop), Inv X pins σ H s → (∀ b ∈ fp, FpOk X pins H b) → tn i s.heap → J.go i H →
    wpAny (model P w) X.A (pyNext (.ref it)) (fun r s1 => ∃ u, r = some u ∧
      wpAny (model P w) X.A (letOwnedTupleGo tg (.ref it) u) (fun _ s2 => ∃ x H', Inv X pins σ H' s2 ∧ RelV x u ∧ J.yld i H x H' ∧ tn (i + 1) s2.heap ∧ ∀ b ∈ fp, H' b = none) E s1) E s
  done : ∀ (X : Cx), X.prog = P → X.w = w → X.K = K → X.calm = true → ∀ (i : Nat) (pins : List (Addr × Obj)) (s : Shared) (σ : St) (H : Hp) (E : Value → Shared → Prop), Inv X pins σ H s → (∀ b ∈ fp, FpOk X pins H b) → tn i s.heap → J.stop i H →
    wpAny (model P w) X.A (pyNext (.ref it)) (fun r s1 => r = none ∧ Inv X pins σ H s1) E s
  self : ∀ (A : Around) (i : Nat) (s : Shared) (Q : Value → Shared → Prop) (E : Value → Shared → Prop), tn i s.heap → Q (.ref it) s → wpAny (model P w) A (pyIter (.ref it)) Q E s
noncomputable abbrev TI := St → Hp → (It → Hp → Prop) → Prop
noncomputable def PIE (X : Cx) (pins : List (Addr × Obj)) (σ : St) (tg : Expr) (R : It → Hp → Prop) (itv : Value) (s2 : Shared) : Prop :=
  ∃ (it : Addr) (fp : List Addr) (tn : Nat → Heap → Prop) (J : It) (H' : Hp), itv = .ref it ∧ Inv X pins σ H' s2 ∧ Turn X.prog X.w X.K tg J fp it tn ∧ tn 0 s2.heap ∧ (∀ b ∈ fp, FpOk X pins H' b) ∧ R J H'
noncomputable def PI (X : Cx) (tg iter : Expr) (wi : TI) : Prop :=
  ∀ (pins : List (Addr × Obj)) (s : Shared) (σ : St) (H : Hp) (R : It → Hp → Prop), Inv X pins σ H s → wi σ H R →
    wpAny (model X.prog X.w) X.A (eval iter X.env) (fun v s1 => wpAny (model X.prog X.w) X.A (pyIter v) (PIE X pins σ tg R) X.xe s1) X.xe s
theorem go_of {M : Model} {A : Around} {E : Value → Shared → Prop} {s : Shared} {tg : Expr} {it : Addr} {u : Value} {o : Obj} {n : String} {vs : Array Value} {Q : Unit → Shared → Prop} (ho : s.heap.get? it = some o) (hc : o.cls = .type n) (hd : o.data = .fields vs)
    (hn : ["enumerate", "zip", "dict_itemiterator", "dict_reverseitemiterator", "odict_iterator", "itertools.zip_longest", "itertools.pairwise"].contains n = false) (hQ : Q () s) : wpAny M A (letOwnedTupleGo tg (.ref it) u) Q E s := by
  unfold letOwnedTupleGo
  cases tg <;> first
    | exact wpAny_pure hQ
    | (cases u <;> first
        | exact wpAny_pure hQ
        | (refine wpAny_bind (wpAny_load ho ?_)
           rw [hc, hd]
           show wpAny M A (if (["enumerate", "zip", "dict_itemiterator", "dict_reverseitemiterator", "odict_iterator", "itertools.zip_longest", "itertools.pairwise"].contains n && vs[0]? == some (rawInt _)) = true then _ else _) Q E s
           rw [if_neg (by intro h; rw [hn, Bool.false_and] at h; cases h)]
           exact wpAny_pure hQ))
noncomputable def Itl (K : PySem.W.Frag) (a : Addr) : It :=
  ⟨fun i H => ∃ xs x, SqL K H a xs ∧ xs[i]? = some x, fun i H x H' => H' = H ∧ ∀ xs, SqL K H a xs → xs[i]? = some x, fun i H => ∃ xs, SqL K H a xs ∧ xs.length ≤ i⟩
noncomputable def Itr (lo : Int) (n : Nat) : It := ⟨fun i _ => i < n, fun i H x H' => H' = H ∧ x = .int (lo + i), fun i _ => n ≤ i⟩
theorem turn_list {P : Program} {w : World} {K : PySem.W.Frag} {tg : Expr} (a it : Addr) : Turn P w K tg (Itl K a) [it] it (fun i h => h.IsListIter it a i) where
  mem := by simp
  obj := fun i h st b hb => by
    have e : b = it := by simpa using hb
    subst e
    obtain ⟨o, e, c, d⟩ := st
    exact ⟨o, e, fun v z => by rw [d] at z; cases z⟩
  keep := fun i h h' st k => st.at fun o e => k it (by simp) o e
  item := by
    intro X hP hw hK hc i pins s σ H E I hf st hg
    subst hP hw hK
    obtain ⟨xs, x, hq, hx⟩ := hg
    obtain ⟨its, rv, p, hz⟩ := I.list hq
    obtain ⟨u, hu, ru⟩ := rv.get hx
    obtain ⟨f0, f1, f2, f3, f4, f5⟩ := hf it (by simp)
    refine wpAny_pyNext_list_item st p.isList (x := u) (by simpa using hu) fun h' st' sb => ?_
    have I1 : Inv X pins σ H { s with heap := h' } := I.turned (t' := s.toks) (fun b o hb e => (sb.2 b hb).trans e) f0 f1 f3 f4 f5
    obtain ⟨o, e, c, d⟩ := id st'
    exact ⟨u, rfl, go_of (s := { s with heap := h' }) e c d (by decide) ⟨x, H, I1, ru, ⟨rfl, fun ys hy => by rw [I.list_inj hy hq]; exact hx⟩, st', fun b hb => (hf b hb).1⟩⟩
  done := by
    intro X hP hw hK hc i pins s σ H E I hf st hg
    subst hP hw hK
    obtain ⟨xs, hq, hx⟩ := hg
    obtain ⟨its, rv, p, hz⟩ := I.list hq
    obtain ⟨f0, f1, f2, f3, f4, f5⟩ := hf it (by simp)
    have hl := rv.length
    exact wpAny_pyNext_list_end (I.ok.hd hc) st p.isList (by simp; omega) fun h' eb => ⟨rfl, I.turned (t' := s.toks) (fun b o hb e => eb b o hb e) f0 f1 f3 f4 f5⟩
  self := fun _ _ _ _ _ st h => wpAny_pyIter_listiter st h
theorem turn_range {P : Program} {w : World} {K : PySem.W.Frag} {tg : Expr} (it : Addr) (lo : Int) (n : Nat) : Turn P w K tg (Itr lo n) [it] it (fun i h => IsRangeIter h it (lo + (i : Nat) * 1) ((n : Int) - (i : Nat)) 1) where
  mem := by simp
  obj := fun i h st b hb => by
    have e : b = it := by simpa using hb
    subst e
    exact ⟨_, st, fun v z => by
      have z' : Data.fields _ = Data.cell v := z
      cases z'⟩
  keep := fun i h h' st k => k it (by simp) _ st
  item := by
    intro X hP hw hK hc i pins s σ H E I hf st hg
    subst hP hw hK
    obtain ⟨f0, f1, f2, f3, f4, f5⟩ := hf it (by simp)
    have W := Walks.range (prog := X.prog) (w := X.w) (I.ok.hd hc) it lo 1 n
    refine W.item i s _ _ hg st fun v h' tk hv st' kk => ?_
    obtain ⟨t, rfl⟩ := hv
    have I1 : Inv X pins σ H { s with heap := h', toks := tk } := I.turned (fun b o hb e => kk b o (by simpa using hb) e) f0 f1 f3 f4 f5
    refine ⟨_, rfl, go_of (s := { s with heap := h', toks := tk }) (n := "range_iterator") st' rfl rfl (by decide) ⟨.int (lo + i), H, I1, ⟨t, ?_⟩, ⟨rfl, rfl⟩, st', fun b hb => (hf b hb).1⟩⟩
    rw [Int.mul_one]
  done := by
    intro X hP hw hK hc i pins s σ H E I hf st hg
    subst hP hw hK
    obtain ⟨f0, f1, f2, f3, f4, f5⟩ := hf it (by simp)
    exact wpAny_pyNext_range_end (I.ok.hd hc) st (by have : n ≤ i := hg; omega) fun h' eb => ⟨rfl, I.turned (t' := s.toks) (fun b o hb e => eb b o hb e) f0 f1 f3 f4 f5⟩
  self := fun _ _ _ _ _ st h => wpAny_pyIter_rangeiter st h
end L2
namespace L2
open PySem PySem.Spec PyProof.Rows
section
variable {X : Cx} {tg : Expr}
noncomputable def iList (K : PySem.W.Frag) (tl : TE) : TI := fun σ H R => tl σ H fun x H1 => ∃ a, x = .ref a ∧ (∃ xs, SqL K H1 a xs) ∧ R (Itl K a) H1
theorem pi_list {l : Expr} {tl : TE} (hl : PE X l tl) : PI X tg l (iList X.K tl) := by
  intro pins s σ H R I h
  refine thn (hl pins s σ H _ I h) fun v s1 qz9 => ?_
  obtain ⟨x, H1, I1, r1, q1⟩ := qz9
  obtain ⟨a, e, ⟨xs, hq⟩, q⟩ := q1
  subst e
  cases r1
  obtain ⟨its, rv, p, hz⟩ := I1.list hq
  refine wpAny_pyIter_list p.isList ?_
  refine ⟨s1.heap.objs.size, [s1.heap.objs.size], _, _, H1, rfl, I1.kept (t' := s1.toks) fun b o e => Heap.get?_push_of_some _ e, turn_list a _, ⟨_, Heap.get?_push_size _ rfl, rfl, rfl⟩, fun b hb => ?_, q⟩
  have e : b = s1.heap.objs.size := by simpa using hb
  subst e
  exact I1.fpOk (Nat.le_refl _) (I1.hok.fresh (Nat.le_refl _))
theorem range_it {pins : List (Addr × Obj)} {σ : St} {H : Hp} {s : Shared} {R : It → Hp → Prop} {E : Value → Shared → Prop} {lo hi : Int} {t u v : Tok} {tk : Nat} (I : Inv X pins σ H s) (h1 : -(2 ^ 62) ≤ lo) (h2 : lo < 2 ^ 62) (h3 : -(2 ^ 62) ≤ hi) (h4 : hi < 2 ^ 62)
    (q : R (Itr lo (hi - lo).toNat) H) : wpAny (model X.prog X.w) X.A (pyIter (.ref s.heap.objs.size)) (PIE X pins σ tg R) E { s with heap := s.heap.push { cls := .type "range", data := .fields #[.int lo t, .int hi u, .int 1 v] }, toks := tk } := by
  refine wpAny_pyIter_range (IsRange.new ..) (small_one h1 h2 h3 h4) ?_
  have I1 : Inv X pins σ H { s with heap := s.heap.push { cls := .type "range", data := .fields #[.int lo t, .int hi u, .int 1 v] }, toks := tk } := I.kept fun b o e => Heap.get?_push_of_some _ e
  refine ⟨(s.heap.push { cls := .type "range", data := .fields #[.int lo t, .int hi u, .int 1 v] }).objs.size, [(s.heap.push { cls := .type "range", data := .fields #[.int lo t, .int hi u, .int 1 v] }).objs.size], _, _, H, rfl,
    I1.kept (t' := tk) fun b o e => Heap.get?_push_of_some _ e, turn_range _ lo (hi - lo).toNat, ?_, fun b hb => ?_, q⟩
  · have e1 : lo + ((0 : Nat) : Int) * 1 = lo := by simp
    have e2 : (((hi - lo).toNat : Nat) : Int) - ((0 : Nat) : Int) = Builtin.Range.rangeSize lo hi 1 := by rw [rangeSize_one]; split <;> omega
    show IsRangeIter _ _ (lo + ((0 : Nat) : Int) * 1) ((((hi - lo).toNat : Nat) : Int) - ((0 : Nat) : Int)) 1
    rw [e1, e2]
    exact Heap.get?_push_size _ rfl
  · have e : b = (s.heap.push { cls := .type "range", data := .fields #[.int lo t, .int hi u, .int 1 v] }).objs.size := by simpa using hb
    subst e
    exact I1.fpOk (Nat.le_refl _) (I1.hok.fresh (Nat.le_refl _))
noncomputable def iRng1 (ta : TA) : TI := fun σ H R => ta σ H fun vs H1 => ∃ j : Int, vs = [.int j] ∧ -(2 ^ 62) ≤ j ∧ j < 2 ^ 62 ∧ R (Itr 0 j.toNat) H1
theorem pi_range1 {a : Expr} {ta : TA} {p pos : Pos} (hg : Gl X "range") (hm : X.mg "range" = none) (ha : PA X [a] ta) (hs : starEach [a] X.env = [(false, eval a X.env)] := by rfl) : PI X tg (.Call (.Name "range" p) [a] [] pos) (iRng1 ta) := by
  intro pins s σ H R I h
  refine Call_ (ld_blt I hg hm boot_range (PyProof.Rows.callWith_type1 (thn (ha pos pins s σ H _ I h) fun us s1 qz9 => ?_) hs rfl))
  obtain ⟨vs, H1, I1, r1, q1⟩ := qz9
  obtain ⟨j, e, q1, q2, q⟩ := q1
  subst e
  cases r1 with
  | cons r rr =>
    cases rr
    obtain ⟨t, rfl⟩ := r
    exact call_range_1 (range_it I1 (by omega) (by omega) q1 q2 (by simpa using q))
noncomputable def tFor (wi : TI) (g : TG) (tb : TS) : TS := fun D σ H => wi σ H fun J H1 => ∃ W : Nat → Nat → St → Hp → Prop, (∃ m, W 0 m σ H1) ∧ ∀ i m σ H, W i m σ H →
  (J.stop i H ∧ D.nx σ H) ∨ (J.go i H ∧ ∃ N : St → Hp → Prop, (∀ σ' H', N σ' H' → ∃ m', m' < m ∧ W (i + 1) m' σ' H') ∧ ∀ x H', J.yld i H x H' → g x σ H' fun σ2 H2 => tb { D with nx := N, ct := N, bk := D.nx } σ2 H2)
noncomputable def pinsAt (fp : List Addr) (h : Heap) : List (Addr × Obj) := fp.filterMap fun b => (h.get? b).map fun o => (b, o)
theorem mem_pinsAt {fp : List Addr} {h : Heap} {b : Addr} {o : Obj} (hb : b ∈ fp) (e : h.get? b = some o) : (b, o) ∈ pinsAt fp h := List.mem_filterMap.mpr ⟨b, hb, by rw [e]; rfl⟩
theorem of_pinsAt {fp : List Addr} {h : Heap} {p : Addr × Obj} (hp : p ∈ pinsAt fp h) : p.1 ∈ fp ∧ h.get? p.1 = some p.2 := by
  obtain ⟨b, hb, e⟩ := List.mem_filterMap.mp hp
  cases q : h.get? b with
  | none => rw [q] at e; cases e
  | some o =>
    rw [q] at e
    have e' : (b, o) = p := Option.some.inj e
    subst e'
    exact ⟨hb, q⟩
theorem Inv.pinned {pins : List (Addr × Obj)} {σ : St} {H : Hp} {s : Shared} {fp : List Addr} (I : Inv X pins σ H s) (hf : ∀ b ∈ fp, FpOk X pins H b) (ho : ∀ b ∈ fp, ∃ o, s.heap.get? b = some o ∧ ∀ v, o.data ≠ .cell v) : Inv X (pins ++ pinsAt fp s.heap) σ H s :=
  I.pins_of fun p hp => (List.mem_append.mp hp).elim (fun z => I.pin p (List.mem_append_right _ z)) fun z => by
    obtain ⟨hb, e⟩ := of_pinsAt z
    obtain ⟨f0, f1, f2, _⟩ := hf p.1 hb
    obtain ⟨o, e', d⟩ := ho p.1 hb
    rw [e] at e'; cases e'
    exact ⟨e, f0, f1, f2, d⟩
theorem Inv.unpinned {pins pl : List (Addr × Obj)} {σ : St} {H : Hp} {s : Shared} (I : Inv X (pins ++ pl) σ H s) : Inv X pins σ H s := I.pins_of fun p hp => I.pin p (List.mem_append_right _ (List.mem_append_left _ hp))
theorem ps_for {iter : Expr} {body : List Stmt} {wi : TI} {g : TG} {tb : TS} {pos : Pos} (hp : PassesOwn (model X.prog X.w) X.A X.env X.xe) (hc : X.calm = true) (hi : PI X tg iter wi) (hg : PG X tg g) (hb : PSs X body tb)
    (hs : ∀ x, foldedSetIterable iter X.env x = pure x := by intro _; rfl) : PS X (.For tg iter body [] pos) (tFor wi g tb) := by
  intro pins s σ H D I h
  refine wpAny_For (thn (hi pins s σ H _ I h) fun v s1 h1 => thn h1 fun itv s2 h2 => ?_) hs
  obtain ⟨it, fp, tn, J, H2, e, I2, T, st2, f2, W, ⟨m0, w0⟩, turn⟩ := h2
  subst e
  -- what stays true of the iterator's objects through the loop
  have stat : ∀ {H' : Hp}, (∀ b ∈ fp, H' b = none) → ∀ b ∈ fp, FpOk X pins H' b := fun hn b hb => ⟨hn b hb, (f2 b hb).2⟩
  refine codeAny_forLoop_any (fun n s' => ∃ i σ' H', Inv X pins σ' H' s' ∧ tn i s'.heap ∧ (∀ b ∈ fp, H' b = none) ∧ W i n σ' H') ?_ m0 ⟨0, σ, H2, I2, st2, fun b hb => (f2 b hb).1, w0⟩
  rintro n s3 ⟨i, σ3, H3, I3, st3, fr3, w3⟩
  rcases turn i n σ3 H3 w3 with ⟨stop, qn⟩ | ⟨go, N, hN, step⟩
  · refine wpAny_passesOwn hp (thn (T.done X rfl rfl rfl hc i pins s3 σ3 H3 X.xe I3 (stat fr3) st3 stop) fun r s4 qz9 => ?_)
    obtain ⟨hr, I4⟩ := qz9
    subst hr
    exact wpAny_execs_nil ⟨σ3, H3, I4, qn⟩
  · refine wpAny_passesOwn hp (thn (T.item X rfl rfl rfl hc i pins s3 σ3 H3 X.xe I3 (stat fr3) st3 go) fun r s4 qz9 => ?_)
    obtain ⟨u, hr, h4⟩ := qz9
    subst hr
    refine wpAny_passesOwn hp (thn h4 fun _ s5 qz9 => ?_)
    obtain ⟨x, H5, I5, r5, y5, st5, fr5⟩ := qz9
    have I5' := I5.pinned (stat fr5) (T.obj _ _ st5)
    refine wpAny_passesOwn hp (thn (hg _ s5 σ3 H5 x u _ I5' r5 (step x H5 y5)) fun _ s6 qz9 => ?_)
    obtain ⟨σ6, H6, I6, q6⟩ := qz9
    refine wpAny_passesOwn hp (thn (hb _ s6 σ6 H6 _ I6 q6) fun f s7 q7 => ?_)
    have again : ∀ {σ7 : St} {H7 : Hp}, Inv X (pins ++ pinsAt fp s5.heap) σ7 H7 s7 → N σ7 H7 → ∃ m, m < n ∧ ∃ i σ' H', Inv X pins σ' H' s7 ∧ tn i s7.heap ∧ (∀ b ∈ fp, H' b = none) ∧ W i m σ' H' := fun {σ7 H7} I7 n7 => by
      obtain ⟨m', hm, w7⟩ := hN σ7 H7 n7
      refine ⟨m', hm, i + 1, σ7, H7, I7.unpinned, T.keep _ _ _ st5 fun b hb o e => (I7.pin (b, o) (List.mem_append_right _ (List.mem_append_right _ (mem_pinsAt hb e)))).1, fun b hb => ?_, w7⟩
      obtain ⟨o, e, d⟩ := T.obj _ _ st5 b hb
      exact (I7.pin (b, o) (List.mem_append_right _ (List.mem_append_right _ (mem_pinsAt hb e)))).2.1
    cases f with
    | next => obtain ⟨σ7, H7, I7, n7⟩ := q7; exact again I7 n7
    | cont => obtain ⟨σ7, H7, I7, n7⟩ := q7; exact again I7 n7
    | brk => obtain ⟨σ7, H7, I7, q7⟩ := q7; exact ⟨σ7, H7, I7.unpinned, q7⟩
    | ret v => obtain ⟨x7, σ7, H7, I7, r7, q7⟩ := q7; exact ⟨x7, σ7, H7, I7.unpinned, r7, q7⟩
end
end L2
namespace L2
open PySem PySem.Spec PyProof.Rows
noncomputable abbrev R2 := V → V → Hp → VK → Prop
noncomputable def OpR (X : Cx) (f : Value → Value → Sem Value) (r : R2) : Prop :=
  ∀ (pins : List (Addr × Obj)) (s : Shared) (σ : St) (H : Hp) (x y : V) (v u : Value) (Q : VK), Inv X pins σ H s → RelV x v → RelV y u → r x y H Q →
    wpAny (model X.prog X.w) X.A (f v u) (EP X pins σ Q) X.xe s
noncomputable def UnR (X : Cx) (f : Value → Sem Value) (r : V → Hp → VK → Prop) : Prop :=
  ∀ (pins : List (Addr × Obj)) (s : Shared) (σ : St) (H : Hp) (x : V) (v : Value) (Q : VK), Inv X pins σ H s → RelV x v → r x H Q →
    wpAny (model X.prog X.w) X.A (f v) (EP X pins σ Q) X.xe s
noncomputable def CallR (X : Cx) (f : Value) (r : List V → Hp → VK → Prop) : Prop :=
  ∀ (pins : List (Addr × Obj)) (s : Shared) (σ : St) (H : Hp) (xs : List V) (us : List Value) (Q : VK), Inv X pins σ H s → Vals xs us → r xs H Q →
    wpAny (model X.prog X.w) X.A (call f us) (EP X pins σ Q) X.xe s
noncomputable def TruR (X : Cx) (r : V → Hp → (Bool → Hp → Prop) → Prop) : Prop :=
  ∀ (pins : List (Addr × Obj)) (s : Shared) (σ : St) (H : Hp) (x : V) (v : Value) (Q : Bool → Hp → Prop), Inv X pins σ H s → RelV x v → r x H Q →
    wpAny (model X.prog X.w) X.A (truthy v) (TP X pins σ Q) X.xe s
noncomputable def tOp (r : R2) (ta tb : TE) : TE := fun σ H Q => ta σ H fun x H1 => tb σ H1 fun y H2 => r x y H2 Q
noncomputable def tUn (r : V → Hp → VK → Prop) (ta : TE) : TE := fun σ H Q => ta σ H fun x H1 => r x H1 Q
noncomputable def rI (C : Int → Int → Prop) (g : Int → Int → V) : R2 := fun x y H Q => ∃ i j, x = .int i ∧ y = .int j ∧ C i j ∧ Q (g i j) H
noncomputable def rI0 (g : Int → Int → V) : R2 := fun x y H Q => ∃ i j, x = .int i ∧ y = .int j ∧ Q (g i j) H
noncomputable def rU (g : Int → V) : V → Hp → VK → Prop := fun x H Q => ∃ i, x = .int i ∧ Q (g i) H
section
variable {X : Cx} {a b c : Expr} {ta tb tc : TE} {pos : Pos}
theorem binT (ha : PE X a ta) (hb : PE X b tb) {pins : List (Addr × Obj)} {s : Shared} {σ : St} {H : Hp} {R : V → V → Hp → Prop} (I : Inv X pins σ H s)
    (h : ta σ H fun x H1 => tb σ H1 fun y H2 => R x y H2) {Q : Value → Shared → Prop} {f : Value → Value → Sem Value}
    (hf : ∀ v u s2 x y H2, Inv X pins σ H2 s2 → RelV x v → RelV y u → R x y H2 → wpAny (model X.prog X.w) X.A (f v u) Q X.xe s2) :
    wpAny (model X.prog X.w) X.A (eval a X.env) (fun v s₁ => wpAny (model X.prog X.w) X.A (eval b X.env) (fun u s₂ => wpAny (model X.prog X.w) X.A (f v u) Q X.xe s₂) X.xe s₁) X.xe s := by
  refine thn (ha pins s σ H _ I h) fun v s1 qz9 => ?_
  obtain ⟨x, H1, I1, r1, q1⟩ := qz9
  refine thn (hb pins s1 σ H1 _ I1 q1) fun u s2 qz9 => ?_
  obtain ⟨y, H2, I2, r2, q2⟩ := qz9
  exact hf v u s2 x y H2 I2 r1 r2 q2
theorem pe_op {op : Operator} {r : R2} (ho : OpR X (binaryOp op) r) (ha : PE X a ta) (hb : PE X b tb) : PE X (.BinOp a op b pos) (tOp r ta tb) := by
  intro pins s σ H Q I h
  exact wpAny_BinOp (binT ha hb I h fun v u s2 x y H2 I2 rx ry q => ho pins s2 σ H2 x y v u Q I2 rx ry q)
theorem pe_un {op : UnaryOp} {r : V → Hp → VK → Prop} (ho : UnR X (unaryOp op) r) (ha : PE X a ta) : PE X (.UnaryOp op a pos) (tUn r ta) := by
  intro pins s σ H Q I h
  refine UnaryOp_ (thn (ha pins s σ H _ I h) fun v s1 qz9 => ?_)
  obtain ⟨x, H1, I1, r1, q1⟩ := qz9
  exact ho pins s1 σ H1 x v Q I1 r1 q1
theorem opI {f : Value → Value → Sem Value} {C : Int → Int → Prop} {g : Int → Int → Int}
    (rule : ∀ (i j : Int) (t u : Tok) (s : Shared) (Q : Value → Shared → Prop) (E : Value → Shared → Prop), C i j → Q (.int (g i j) s.toks) { s with toks := s.toks + 1 } → wpAny (model X.prog X.w) X.A (f (.int i t) (.int j u)) Q E s) :
    OpR X f (rI C fun i j => .int (g i j)) := by
  intro pins s σ H x y v u Q I rx ry h
  obtain ⟨i, j, rfl, rfl, hc, q⟩ := h
  obtain ⟨t, rfl⟩ := rx
  obtain ⟨t', rfl⟩ := ry
  exact rule i j t t' s _ _ hc ⟨.int (g i j), H, I.tok _, ⟨_, rfl⟩, q⟩
theorem opI0 {f : Value → Value → Sem Value} {g : Int → Int → Int}
    (rule : ∀ (i j : Int) (t u : Tok) (s : Shared) (Q : Value → Shared → Prop) (E : Value → Shared → Prop), Q (.int (g i j) s.toks) { s with toks := s.toks + 1 } → wpAny (model X.prog X.w) X.A (f (.int i t) (.int j u)) Q E s) :
    OpR X f (rI0 fun i j => .int (g i j)) := by
  intro pins s σ H x y v u Q I rx ry h
  obtain ⟨i, j, rfl, rfl, q⟩ := h
  obtain ⟨t, rfl⟩ := rx
  obtain ⟨t', rfl⟩ := ry
  exact rule i j t t' s _ _ ⟨.int (g i j), H, I.tok _, ⟨_, rfl⟩, q⟩
theorem opB0 {f : Value → Value → Sem Value} {g : Int → Int → Bool}
    (rule : ∀ (i j : Int) (t u : Tok) (s : Shared) (Q : Value → Shared → Prop) (E : Value → Shared → Prop), Q (.bool (g i j)) s → wpAny (model X.prog X.w) X.A (f (.int i t) (.int j u)) Q E s) :
    OpR X f (rI0 fun i j => .bl (g i j)) := by
  intro pins s σ H x y v u Q I rx ry h
  obtain ⟨i, j, rfl, rfl, q⟩ := h
  obtain ⟨t, rfl⟩ := rx
  obtain ⟨t', rfl⟩ := ry
  exact rule i j t t' s _ _ ⟨.bl (g i j), H, I, rfl, q⟩
noncomputable def CPow (i j : Int) : Prop := 0 ≤ j ∧ j ≤ 1000000 ∧ i.natAbs < 2 ^ 64
noncomputable def CMul (i j : Int) : Prop := (-(2 ^ 64) < i ∧ i < 2 ^ 64) ∨ (-(2 ^ 64) < j ∧ j < 2 ^ 64)
theorem CMul.ok {i j : Int} (h : CMul i j) : IntMulOk i j := by
  rcases h with ⟨h1, h2⟩ | ⟨h1, h2⟩
  · exact .of_left (intBits_le_64 h1 h2)
  · exact .of_right (intBits_le_64 h1 h2)
theorem op_add : OpR X (binaryOp .Add) (rI0 fun i j => .int (i + j)) := opI0 fun _ _ _ _ _ _ _ q => add_int q
theorem op_sub : OpR X (binaryOp .Sub) (rI0 fun i j => .int (i - j)) := opI0 fun _ _ _ _ _ _ _ q => sub_int q
theorem op_modN : OpR X (binaryOp .Mod) (rI (fun _ j => j ≠ 0) fun i j => .int (i.fmod j)) := opI fun _ _ _ _ _ _ _ hc q => mod_int' hc q
theorem op_pow : OpR X (binaryOp .Pow) (rI CPow fun i j => .int (i ^ j.toNat)) := opI fun _ _ _ _ _ _ _ hc q => pow_int_small hc.1 hc.2.1 hc.2.2 q
theorem unI {f : Value → Sem Value} {g : Int → Int}
    (rule : ∀ (i : Int) (t : Tok) (s : Shared) (Q : Value → Shared → Prop) (E : Value → Shared → Prop), Q (.int (g i) s.toks) { s with toks := s.toks + 1 } → wpAny (model X.prog X.w) X.A (f (.int i t)) Q E s) :
    UnR X f (rU fun i => .int (g i)) := by
  intro pins s σ H x v Q I rx h
  obtain ⟨i, rfl, q⟩ := h
  obtain ⟨t, rfl⟩ := rx
  exact rule i t s _ _ ⟨.int (g i), H, I.tok _, ⟨_, rfl⟩, q⟩
theorem un_neg : UnR X (unaryOp .USub) (rU fun i => .int (-i)) := unI fun _ _ _ _ _ q => neg_int q
end
section
variable {X : Cx} {a b c : Expr} {ta tb tc : TE} {pos : Pos}
theorem fin_bl {pins : List (Addr × Obj)} {σ : St} {H : Hp} {s : Shared} {Q : VK} {k k' : Bool} (I : Inv X pins σ H s) (q : Q (.bl k) H) (e : k = k') : EP X pins σ Q (.bool k') s := by
  subst e
  exact ⟨.bl k, H, I, rfl, q⟩
theorem op_lt : OpR X (compareOp .Lt) (rI0 fun i j => .bl (decide (i < j))) := opB0 fun _ _ _ _ _ _ _ q => lt_int q
theorem op_le : OpR X (compareOp .LtE) (rI0 fun i j => .bl (decide (i ≤ j))) := opB0 fun _ _ _ _ _ _ _ q => le_int q
theorem op_gt : OpR X (compareOp .Gt) (rI0 fun i j => .bl (decide (j < i))) := opB0 fun _ _ _ _ _ _ _ q => gt_int q
theorem op_ge : OpR X (compareOp .GtE) (rI0 fun i j => .bl (decide (j ≤ i))) := opB0 fun _ _ _ _ _ _ _ q => ge_int q
theorem op_isN : OpR X (compareOp .Is) (fun x y H Q => y = .non ∧ Q (.bl (decide (x = .non))) H) := by
  intro pins s σ H x y v u Q I rx ry h
  obtain ⟨rfl, q⟩ := h
  cases ry
  refine is_none_gen (fin_bl I q ?_)
  cases x <;> first
    | (cases rx; rfl)
    | (obtain ⟨t, rfl⟩ := rx; rfl)
theorem op_notN : OpR X (compareOp .IsNot) (fun x y H Q => y = .non ∧ Q (.bl (!decide (x = .non))) H) := by
  intro pins s σ H x y v u Q I rx ry h
  obtain ⟨rfl, q⟩ := h
  cases ry
  refine isnot_none_gen (fin_bl I q ?_)
  cases x <;> first
    | (cases rx; rfl)
    | (obtain ⟨t, rfl⟩ := rx; rfl)
theorem nomark (b : Expr) {op : CmpOp} (h : op ≠ .In := by decide) (h2 : op ≠ .NotIn := by decide) : behindInMarks op b = false := by
  have e1 : (op == CmpOp.In) = false := by cases op <;> first | rfl | exact absurd rfl h
  have e2 : (op == CmpOp.NotIn) = false := by cases op <;> first | rfl | exact absurd rfl h2
  cases b <;> simp [behindInMarks, e1, e2]
theorem pe_cmpR {op : CmpOp} {r : R2} (ho : OpR X (compareOp op) r) (ha : PE X a ta) (hb : PE X b tb) (hm : behindInMarks op b = false) : PE X (.Compare a [op] [b] pos) (tOp r ta tb) := by
  intro pins s σ H Q I h
  exact wpAny_Compare1 (binT ha hb I h fun v u s2 x y H2 I2 rx ry q => ho pins s2 σ H2 x y v u Q I2 rx ry q) hm
noncomputable def tTest (t : TE) : TT := fun σ H Q => t σ H fun x H' => ∃ k, x = .bl k ∧ Q k H'
theorem pt_cmpR {op : CmpOp} {r : R2} (ho : OpR X (compareOp op) r) (ha : PE X a ta) (hb : PE X b tb) (hm : behindInMarks op b = false) : PT X (.Compare a [op] [b] pos) (tTest (tOp r ta tb)) := by
  intro pins s σ H Q I h
  refine wpAny_isTrue_Compare1 (thn (ha pins s σ H _ I h) fun v s1 ⟨x, H1, I1, r1, q1⟩ => thn (hb pins s1 σ H1 _ I1 q1) fun u s2 ⟨y, H2, I2, r2, q2⟩ =>
    thn (ho pins s2 σ H2 x y v u _ I2 r1 r2 q2) fun c s3 ⟨z, H3, I3, r3, k, e, q3⟩ => ?_) hm
  subst e
  cases r3
  exact wpAny_truthy_bool ⟨H3, I3, q3⟩
noncomputable def tChain (r r' : R2) (ta tb tc : TE) : TE := fun σ H Q => ta σ H fun x H1 => tb σ H1 fun y H2 => r x y H2 fun z H3 => ∃ k, z = .bl k ∧
  (if k = true then tc σ H3 fun w' H4 => r' y w' H4 Q else Q (.bl false) H3)
theorem pt_chain {op op' : CmpOp} {r r' : R2} (ho : OpR X (compareOp op) r) (ho' : OpR X (compareOp op') r') (ha : PE X a ta) (hb : PE X b tb) (hc : PE X c tc)
    (hm : lastMarks [op, op'] [b, c] = false := by with_unfolding_all rfl) : PT X (.Compare a [op, op'] [b, c] pos) (tTest (tChain r r' ta tb tc)) := by
  intro pins s σ H Q I h
  refine isTrue_chain (thn (ha pins s σ H _ I h) fun v s1 ⟨x, H1, I1, r1, q1⟩ => test_link (thn (hb pins s1 σ H1 _ I1 q1) fun u s2 ⟨y, H2, I2, r2, q2⟩ =>
    thn (ho pins s2 σ H2 x y v u _ I2 r1 r2 q2) fun d s3 ⟨z, H3, I3, r3, k, e, q3⟩ => ?_)) hm
  subst e
  cases r3
  refine wpAny_truthy_bool ?_
  cases k with
  | false =>
    obtain ⟨k', e', q'⟩ := q3
    cases e'
    exact ite_ff ⟨H3, I3, q'⟩
  | true =>
    refine ite_tt (test_last (thn (hc pins s3 σ H3 _ I3 q3) fun w' s4 qz9 => ?_))
    obtain ⟨z', H4, I4, r4, q4⟩ := qz9
    refine thn (ho' pins s4 σ H4 y z' u w' _ I4 r2 r4 q4) fun d' s5 qz9 => ?_
    obtain ⟨z2, H5, I5, r5, k2, e2, q5⟩ := qz9
    subst e2
    cases r5
    exact wpAny_truthy_bool ⟨H5, I5, q5⟩
noncomputable def TruV (K : PySem.W.Frag) (x : V) (H : Hp) (k : Bool) : Prop :=
  match x with
  | .non => k = false
  | .bl b => k = b
  | .int i => k = (i != 0)
  | .str y => y.length ≤ sizeLine ∧ k = ((y.length : Int) != 0)
  | .byt y => y.size ≤ sizeLine ∧ k = ((y.size : Int) != 0)
  | .ref p => (∃ xs, SqL K H p xs ∧ k = !xs.isEmpty) ∨ (∃ xs, SqT K H p xs ∧ k = !xs.isEmpty) ∨ ∃ kvs, H p = some (.dK kvs) ∧ k = !kvs.isEmpty
  | _ => False
theorem isEmpty_kv {κ : Type} {kvs : List (κ × V)} {vs : List (κ × Value)} (r : KV kvs vs) : (!vs.isEmpty) = !kvs.isEmpty := by
  cases r <;> rfl
theorem isEmpty_of {xs : List V} {its : List Value} (r : Vals xs its) : (!its.toArray.isEmpty) = !xs.isEmpty := by
  cases r <;> simp
theorem line63 : (sizeLine : Nat) < 2 ^ 63 := by rw [sizeLine_eq]; decide
theorem tru_ok : TruR X (fun x H Q => ∃ k, TruV X.K x H k ∧ Q k H) := by
  intro pins s σ H x v Q I rx h
  obtain ⟨k, e, q⟩ := h
  have hl := line63
  have hs : sizeLine = 16777216 := sizeLine_eq
  cases x with
  | non =>
    cases rx
    have e' : k = false := e
    subst e'
    exact truthy_none ⟨H, I, q⟩
  | bl b =>
    cases rx
    have e' : k = b := e
    subst e'
    exact wpAny_truthy_bool ⟨H, I, q⟩
  | int i =>
    obtain ⟨t, rfl⟩ := rx
    have e' : k = (i != 0) := e
    subst e'
    exact PySem.P.truthy_int ⟨H, I, q⟩
  | str y =>
    obtain ⟨t, rfl⟩ := rx
    obtain ⟨hy, e'⟩ : y.length ≤ sizeLine ∧ k = ((y.length : Int) != 0) := e
    subst e'
    exact PySem.P.truthy_str (by omega) ⟨H, I.tok _, q⟩
  | byt y =>
    obtain ⟨t, rfl⟩ := rx
    obtain ⟨hy, e'⟩ : y.size ≤ sizeLine ∧ k = ((y.size : Int) != 0) := e
    subst e'
    exact PySem.W.truthy_bytes (by omega) ⟨H, I.tok _, q⟩
  | ref p =>
    cases rx
    have e' : (∃ xs, SqL X.K H p xs ∧ k = !xs.isEmpty) ∨ (∃ xs, SqT X.K H p xs ∧ k = !xs.isEmpty) ∨ ∃ kvs, H p = some (.dK kvs) ∧ k = !kvs.isEmpty := e
    rcases e' with ⟨xs, hx, e'⟩ | ⟨xs, hx, e'⟩ | ⟨kvs, hx, e'⟩
    · subst e'
      obtain ⟨its, r, pl, hz⟩ := I.list hx
      have hlen := r.length
      exact wpAny_truthy_list pl.isList (by simp only [List.size_toArray]; omega) ⟨H, I.tok _, by rw [isEmpty_of r]; exact q⟩
    · subst e'
      obtain ⟨its, r, pl, hz⟩ := I.tuple hx
      have hlen := r.length
      exact truthy_tuple pl (by simp only [List.size_toArray]; omega) ⟨H, I.tok _, by rw [isEmpty_of r]; exact q⟩
    · subst e'
      obtain ⟨hz, hS, vs, r, m⟩ : kvs.length ≤ sizeLine ∧ (p == sysModules) = false ∧ ∃ vs, KV kvs vs ∧ s.heap.DictOf (mixKind X.prog X.w) p vs := I.hok p _ hx
      have hlen : kvs.length = vs.length := Paired.length r
      exact wpAny_truthy_dict hS m (by omega) ⟨H, I.tok _, by rw [isEmpty_kv r]; exact q⟩
  | _ => exact (show False from e).elim
theorem pt_truth (ha : PE X a ta) (he : ∀ whole, isTrue a X.env whole = (do let v ← whole; standAt a.pos; holding [v] (truthy v))) :
    PT X a (fun σ H Q => ta σ H fun x H' => ∃ k, TruV X.K x H' k ∧ Q k H') := by
  intro pins s σ H Q I h
  refine isTrue_plain (thn (ha pins s σ H _ I h) fun v s1 qz9 => ?_) (he _)
  obtain ⟨x, H1, I1, r1, q1⟩ := qz9
  exact tru_ok pins s1 σ H1 x v Q I1 r1 q1
theorem vals1 {x : V} {us : List Value} (r : Vals [x] us) : ∃ u, us = [u] ∧ RelV x u := by
  cases r with
  | cons r1 r2 => cases r2; exact ⟨_, rfl, r1⟩
theorem vals2 {x y : V} {us : List Value} (r : Vals [x, y] us) : ∃ u w', us = [u, w'] ∧ RelV x u ∧ RelV y w' := by
  cases r with
  | cons r1 r2 =>
    cases r2 with
    | cons r3 r4 => cases r4; exact ⟨_, _, rfl, r1, r3⟩
theorem call_max2 (hc : X.calm = true) : CallR X (.builtin "max") (fun xs H Q => ∃ i j, xs = [.int i, .int j] ∧ Q (.int (if j > i then j else i)) H) := by
  intro pins s σ H xs us Q I r h
  obtain ⟨i, j, rfl, q⟩ := h
  obtain ⟨u, w', rfl, ⟨t, rfl⟩, ⟨t', rfl⟩⟩ := vals2 r
  refine max_two_ints (I.ok.hd hc) fun h' tk k => ⟨_, H, I.kept k, ?_, q⟩
  by_cases hj : j > i
  · rw [if_pos hj, if_pos hj]; exact ⟨_, rfl⟩
  · rw [if_neg hj, if_neg hj]; exact ⟨_, rfl⟩
theorem call_min2 (hc : X.calm = true) : CallR X (.builtin "min") (fun xs H Q => ∃ i j, xs = [.int i, .int j] ∧ Q (.int (if j < i then j else i)) H) := by
  intro pins s σ H xs us Q I r h
  obtain ⟨i, j, rfl, q⟩ := h
  obtain ⟨u, w', rfl, ⟨t, rfl⟩, ⟨t', rfl⟩⟩ := vals2 r
  refine min_two_ints (I.ok.hd hc) fun h' tk k => ⟨_, H, I.kept k, ?_, q⟩
  by_cases hj : j < i
  · rw [if_pos hj, if_pos hj]; exact ⟨_, rfl⟩
  · rw [if_neg hj, if_neg hj]; exact ⟨_, rfl⟩
theorem call_int1 : CallR X (.type "int") (fun xs H Q => (∃ i, xs = [.int i] ∧ Q (.int i) H) ∨ ∃ k, xs = [.bl k] ∧ Q (.int (if k then 1 else 0)) H) := by
  intro pins s σ H xs us Q I r h
  rcases h with ⟨i, rfl, q⟩ | ⟨k, rfl, q⟩
  · obtain ⟨u, rfl, t, rfl⟩ := vals1 r
    exact call_int_int ⟨.int i, H, I, ⟨_, rfl⟩, q⟩
  · obtain ⟨u, rfl, r1⟩ := vals1 r
    cases r1
    exact call_int_bool ⟨.int (if k then 1 else 0), H, I.tok _, ⟨_, rfl⟩, q⟩
end
end L2
namespace L2
open PySem PySem.Spec PyProof.Rows
structure ObjM (h : Heap) (x dx C : Addr) (mA : Str → Option Value) : Prop where
  obj : h.get? x = some (PySem.W.instObj C dx)
  ns : h.Ns1 dx mA
  ne : dx ≠ x
theorem lookIn_ns {h : Heap} {dx : Addr} {mA : Str → Option Value} (n : h.Ns1 dx mA) : ∃ od, h.get? dx = some od ∧ ∀ name, PySem.W.lookIn name od = some (mA name) := by
  obtain ⟨o, es, ep, ho, hd, hk, _, hm⟩ := n
  refine ⟨o, ho, fun name => ?_⟩
  have e := hm name
  unfold nsFind findBy at e
  rw [← Array.find?_toList] at e
  unfold PySem.W.lookIn
  rw [hd]
  dsimp only
  split
  · rename_i y q
    rw [q] at e
    exact congrArg some e
  · rename_i q
    rw [q] at e
    have a : es.toList.any (·.refKey) = false := by
      rw [List.any_eq_false]
      intro y hy
      obtain ⟨z, t, hkey⟩ := hk y (Array.mem_toList_iff.mp hy)
      simp [DictEntry.refKey, hkey]
    have a' : ¬ es.toList.any (·.refKey) = true := by rw [a]; exact Bool.false_ne_true
    rw [if_neg a']
    exact congrArg some e
theorem ObjM.look {h : Heap} {x dx C : Addr} {mA : Str → Option Value} (I : ObjM h x dx C mA) : ∃ od, PySem.W.InstAt h x (PySem.W.instObj C dx) C (some od) ∧ ∀ name, PySem.W.lookIn name od = some (mA name) :=
  let ⟨od, ho, hl⟩ := lookIn_ns I.ns
  ⟨od, ⟨I.obj, rfl, rfl, ho⟩, hl⟩
section
variable {prog : Program} {w : World} {A : Around} {E : Value → Shared → Prop} {s : Shared} {K : PySem.W.Frag} {x dx C f : Addr} {mA : Str → Option Value} {name : Str} {v : Value}
end
section
variable {P : Program} {w : World} {H H' : Hp} {h h' : Heap} {a C dx : Addr} {fs fs' : List (Str × V)}
theorem ins_get (hok : HOk P w H h) (e : H a = some (.ins C dx fs)) : ∃ mA, ObjM h a dx C mA ∧ (∀ f, RelO (fs.lookup f) (mA f)) ∧ PySem.Within mA (fs.map (·.1)) ∧ fs.length ≤ 1000 ∧ H dx = some (.own a) := by
  obtain ⟨d, z, ne, ob, mA, n, r, q⟩ := (show ObjOk P w H h a (.ins C dx fs) from hok a _ e)
  exact ⟨mA, ⟨ob, n, ne⟩, r, q, z, d⟩
end
structure Cls (K : PySem.W.Frag) (C : Addr) : Prop where
  pg : PySem.W.plainGet K C Str.empty = true
  hd : PySem.W.hasDictIn K C = true
  po : PySem.W.plainOver K C = true
  sa : PySem.W.findIn K (.ref C) "__setattr__" = some (some (.builtin "object.__setattr__"))
theorem Cls.get {K : PySem.W.Frag} {C : Addr} (c : Cls K C) (f : Str) : PySem.W.plainGet K C f = true := c.pg
structure Con (K : PySem.W.Frag) (C : Addr) (f : Str) (v : V) (u : Value) : Prop where
  at_ : PySem.W.findIn K (.ref C) f = some (some u)
  rel : RelV v u
  get : PySem.W.specialIn K u "__get__" = some none
  cp : PySem.W.copiedNames.contains f = false
structure Meth (K : PySem.W.Frag) (C : Addr) (m : Str) (f : Addr) : Prop where
  at_ : PySem.W.findIn K (.ref C) m = some (some (.ref f))
  fn : PySem.W.isFn K (.ref f) = true
  kp : PySem.W.keepIn K (.ref f) = true
section
variable {X : Cx} {pins : List (Addr × Obj)} {σ : St} {H : Hp} {s : Shared} {a C dx : Addr} {fs : List (Str × V)} {f : Str} {v : V} {A : Around} {E : Value → Shared → Prop}
end
section
variable {X : Cx} {o e value : Expr} {f : Str} {pos pos' tpos : Pos} {ta tv : TE}
end
section
variable {X : Cx} {pins : List (Addr × Obj)} {σ : St} {H : Hp} {s : Shared} {A : Around} {E : Value → Shared → Prop} {Q : Value → Shared → Prop} {c : Value} {b : Bool}
inductive TyOf (K : PySem.W.Frag) (H : Hp) : V → Value → Prop where
  | non : TyOf K H .non (.type "NoneType")
  | bl (x : Bool) : TyOf K H (.bl x) (.type "bool")
  | int (i : Int) : TyOf K H (.int i) (.type "int")
  | str (x : Str) : TyOf K H (.str x) (.type "str")
  | flt (x : UInt64) : TyOf K H (.flt x) (.type "float")
  | lst {a : Addr} {xs : List V} (e : H a = some (.lst xs)) : TyOf K H (.ref a) (.type "list")
  | frz {a : Addr} {o : Obj} {xs : List V} (e : H a = some (.frz o (.lst xs))) : TyOf K H (.ref a) (.type "list")
  | tup {a : Addr} {xs : List V} (e : H a = some (.tup xs)) : TyOf K H (.ref a) (.type "tuple")
  | dK {a : Addr} {kvs : List (Key × V)} (e : H a = some (.dK kvs)) : TyOf K H (.ref a) (.type "dict")
  | dT {a : Addr} {kvs : List (List Key × V)} (e : H a = some (.dT kvs)) : TyOf K H (.ref a) (.type "dict")
  | ins {a C dx : Addr} {fs : List (Str × V)} (e : H a = some (.ins C dx fs)) (cl : Cls K C) (ha : PySem.W.findIn K (.ref C) "__class__" = some (some (.builtin "object.__class__")))
      (hn : PySem.W.specialIn K (.builtin "object.__class__") "__get__" = some (some (.builtin "getset_descriptor.__get__"))) (htk : PySem.W.takesIn K (.builtin "object.__class__") = some true)
      (hm : PySem.W.mroIn K C (.type "object") = some true) : TyOf K H (.ref a) (.ref C)
theorem isinst_ok {x : V} {u t : Value} (I : Inv X pins σ H s) (rx : RelV x u) (ty : TyOf X.K H x t) (e : PySem.W.kitOne X.K t c = some b) (h : ∀ tk, Q (.bool b) { s with toks := tk }) :
    wpAny (model X.prog X.w) A (call (.builtin "isinstance") [u, c]) Q E s := by
  cases ty with
  | non => cases (show u = Value.none from rx); exact PySem.W.kia_one PySem.W.kitx_none I.kIn True.intro e (fun z => nomatch z) h
  | bl y => cases (show u = Value.bool y from rx); exact PySem.W.kia_one PySem.W.kitx_bool I.kIn True.intro e (fun z => nomatch z) h
  | int i => obtain ⟨t, q⟩ := (show ∃ t, u = Value.int i t from rx); cases q; exact PySem.W.kia_one PySem.W.kitx_int I.kIn True.intro e (fun z => nomatch z) h
  | str y => obtain ⟨t, q⟩ := (show ∃ t, u = Value.str y t from rx); cases q; exact PySem.W.kia_one PySem.W.kitx_str I.kIn True.intro e (fun z => nomatch z) h
  | flt y => obtain ⟨t, q⟩ := (show ∃ t, u = Value.float y t from rx); cases q; exact PySem.W.kia_one PySem.W.kitx_float I.kIn True.intro e (fun z => nomatch z) h
  | @lst a xs ea =>
    cases (show u = Value.ref a from rx)
    obtain ⟨_, _, n, _, h1⟩ := (show ObjOk X.prog X.w H s.heap a (.lst xs) from I.hok a _ ea)
    exact PySem.W.kia_one PySem.W.kitx_list I.kIn ⟨_, h1, rfl⟩ e (fun z => nomatch z) h
  | @frz a ob xs ea =>
    cases (show u = Value.ref a from rx)
    obtain ⟨_, _, _, n, _, h1⟩ := (show ObjOk X.prog X.w H s.heap a (.frz ob (.lst xs)) from I.hok a _ ea)
    exact PySem.W.kia_one PySem.W.kitx_list I.kIn ⟨_, h1, rfl⟩ e (fun z => nomatch z) h
  | @tup a xs ea =>
    cases (show u = Value.ref a from rx)
    obtain ⟨_, _, _, p⟩ := (show ObjOk X.prog X.w H s.heap a (.tup xs) from I.hok a _ ea)
    obtain ⟨o, h1, h2, _⟩ := p
    exact PySem.W.kia_one PySem.W.kitx_tuple I.kIn ⟨o, h1, h2⟩ e (fun z => nomatch z) h
  | @dK a kvs ea =>
    cases (show u = Value.ref a from rx)
    obtain ⟨_, _, vs, _, p⟩ := (show ObjOk X.prog X.w H s.heap a (.dK kvs) from I.hok a _ ea)
    obtain ⟨o, es, ep, h1, h2, _⟩ := p
    exact PySem.W.kia_one PySem.W.kitx_dict I.kIn ⟨o, h1, h2.1⟩ e (fun z => nomatch z) h
  | @dT a kvs ea =>
    cases (show u = Value.ref a from rx)
    obtain ⟨_, _, xs, _, o, es, ep, h1, h2, _⟩ := (show ObjOk X.prog X.w H s.heap a (.dT kvs) from I.hok a _ ea)
    exact PySem.W.kia_one PySem.W.kitx_dict I.kIn ⟨o, h1, h2.1⟩ e (fun z => nomatch z) h
  | @ins a C dx fs ea cl ha hn htk hm =>
    cases (show u = Value.ref a from rx)
    obtain ⟨mA, O, _⟩ := ins_get I.hok ea
    obtain ⟨od, J, _⟩ := O.look
    exact PySem.W.kia_one (PySem.W.kitx_own (cl.get _) cl.hd ha hn htk hm) I.kIn J e (fun z => nomatch z) h
end
end L2
namespace L2
open PySem PySem.Spec PyProof.Rows
structure Room (k : Nat) (A : Around) : Prop where
  hd : A.handled = none
  dp : A.depth + 3 * k + 5 < recursionLimit
  un : A.units + 16 * k + 200 < cLine
theorem Room.mono {j k : Nat} {A : Around} (r : Room k A) (h : j ≤ k) : Room j A := ⟨r.hd, by have := r.dp; omega, by have := r.un; omega⟩
theorem Room.deeper {k : Nat} {A : Around} (r : Room (k + 1) A) (env : Env) : Room k (A.deeper env) :=
  ⟨r.hd, by have := r.dp; show A.depth + 1 + 3 * k + 5 < _; omega, by have := r.un; show A.units + 3 + 16 * k + 200 < _; omega⟩
theorem Room.depth {k : Nat} {A : Around} (r : Room k A) : A.depth < recursionLimit := by have := r.dp; omega
theorem Room.units {k : Nat} {A : Around} (r : Room k A) : A.units + 64 < cLine := by have := r.un; omega
noncomputable def tNil : TA := fun _ H Q => Q [] H
noncomputable def tCons (ta : TE) (tr : TA) : TA := fun σ H Q => ta σ H fun x H1 => tr σ H1 fun xs H2 => Q (x :: xs) H2
section
variable {X : Cx} {e : Expr} {es : List Expr} {te : TE} {t : TA} {pos : Pos}
theorem pa_nil : PA X [] tNil := fun _ _ _ _ H Q I h => Calls.spliced_nil ⟨[], H, I, .nil, h⟩
theorem pa_cons (ha : PE X e te) (hr : PA X es t) (hs : starEach (e :: es) X.env = (false, eval e X.env) :: starEach es X.env := by rfl) : PA X (e :: es) (tCons te t) := by
  intro pos pins s σ H Q I h
  rw [hs]
  show wpAny _ _ (spliced ((false, eval e X.env) :: backTo pos (starEach es X.env))) _ _ s
  refine Calls.spliced_cons (thn (ha pins s σ H _ I h) fun u s1 qz9 => ?_)
  obtain ⟨x, H1, I1, r1, q1⟩ := qz9
  refine thn (hr pos pins s1 σ H1 _ I1 q1) fun us s2 qz9 => ?_
  obtain ⟨xs, H2, I2, r2, q2⟩ := qz9
  exact ⟨x :: xs, H2, I2, .cons r1 r2, q2⟩
noncomputable def tTup (t : TA) : TE := fun σ H Q => t σ H fun xs H1 => xs.length ≤ sizeLine ∧ ∀ p, H1 p = none → Q (.ref p) (upd H1 p (.tup xs))
noncomputable def tLst (t : TA) : TE := fun σ H Q => t σ H fun xs H1 => xs.length ≤ sizeLine ∧ ∀ p, H1 p = none → Q (.ref p) (upd H1 p (.lst xs))
theorem pe_tup {x1} (h : PA X es t) : PE X (.Tuple es x1 pos) (tTup t) := by
  intro pins s σ H Q I hq
  refine wpAny_Tuple_spliced (thn (h pos pins s σ H _ I hq) fun us s1 ⟨xs, H1, I1, r, z, q⟩ => ⟨by rw [← r.length]; exact z, ?_⟩)
  have hf : H1 s1.heap.objs.size = none := I1.hok.fresh (Nat.le_refl _)
  refine ⟨.ref s1.heap.objs.size, upd H1 s1.heap.objs.size (.tup xs), I1.laid (t' := s1.toks) (fun b u e => Heap.get?_push_of_some _ e) (Nat.le_refl _) ?_, rfl, q _ hf⟩
  exact ⟨z, us, r, ⟨_, Heap.get?_push_size _ rfl, rfl, _, rfl⟩⟩
theorem pe_lst (h : PA X es t) : PE X (.List es pos) (tLst t) := by
  intro pins s σ H Q I hq
  refine wpAny_List_spliced (thn (h pos pins s σ H _ I hq) fun us s1 ⟨xs, H1, I1, r, z, q⟩ => ⟨by rw [← r.length]; exact z, ?_⟩)
  have hf : H1 s1.heap.objs.size = none := I1.hok.fresh (Nat.le_refl _)
  refine ⟨.ref s1.heap.objs.size, upd H1 s1.heap.objs.size (.lst xs), I1.laid (t' := s1.toks) (fun b u e => Heap.get?_push_of_some _ e) (Nat.le_refl _) ?_, rfl, q _ hf⟩
  exact ⟨z, us, 0, r, Heap.get?_push_size _ rfl⟩
end
noncomputable abbrev Sp := List V → Hp → VK → XK → Prop
noncomputable abbrev CXT := List Env → Hp → Shared → XK → Value → Shared → Prop
structure Env0 (P : Program) (w : World) (K : PySem.W.Frag) (mg : Str → Option Value) (base : Heap) (A : Around) (outer : List Env) (s : Shared) (H : Hp) : Prop where
  frames : A.frames = some outer
  mod : Mod K mg base
  bs : ∀ b o, base.get? b = some o → s.heap.get? b = some o ∧ H b = none
  bsz : base.objs.size ≤ s.heap.objs.size
  funs : s.heap.FunFrames base outer
  frf : ∀ b ∈ frs outer, H b = none
  hok : HOk P w H s.heap
  bare : AllBare s.gens
noncomputable def CE (outer : List Env) (P : Program) (w : World) (H : Hp) (s : Shared) (Q : VK) (u : Value) (s' : Shared) : Prop :=
  ∃ v H', s'.os = s.os ∧ AllBare s'.gens ∧ Un (frs outer) [] H H' s.heap s'.heap ∧ HOk P w H' s'.heap ∧ RelV v u ∧ Q v H'
noncomputable def CR (CX : CXT) (outer : List Env) (P : Program) (w : World) (H : Hp) (s : Shared) (Q : VK) (E : XK) (r : Result) (s' : Shared) : Prop :=
  match r with
  | .ok (.ret u) => CE outer P w H s Q u s'
  | .ok _ => False
  | .error e => CX outer H s E e s'
structure FnOk (P : Program) (w : World) (K : PySem.W.Frag) (mg : Str → Option Value) (base : Heap) (CX : CXT) (k : Nat) (f : Addr) (fd : FuncData) (ps : List Str) (sp : Sp) : Prop where
  len : ∀ vs H Q E, sp vs H Q E → vs.length = ps.length
  run : ∀ (A : Around) (outer : List Env) (s : Shared) (H : Hp) (args : Args) (us : List Value) (vs : List V) (Q : VK) (E : XK), Room k A → Env0 P w K mg base A outer s H → BindsTo s fd args (ps.zip us) → Vals vs us → sp vs H Q E →
    codeAny (model P w) A (.call (.ref f) args) (CR CX outer P w H s Q E) s
theorem FnOk.imp {P : Program} {w : World} {K : PySem.W.Frag} {mg : Str → Option Value} {base : Heap} {CX : CXT} {k : Nat} {f : Addr} {fd : FuncData} {ps : List Str} {sp sp' : Sp} (F : FnOk P w K mg base CX k f fd ps sp)
    (h : ∀ vs H Q E, sp' vs H Q E → sp vs H Q E) : FnOk P w K mg base CX k f fd ps sp' :=
  ⟨fun vs H Q E q => F.len vs H Q E (h _ _ _ _ q), fun A outer s H args us vs Q E hr he hb hv hs => F.run A outer s H args us vs Q E hr he hb hv (h _ _ _ _ hs)⟩
section
variable {X : Cx} {pins : List (Addr × Obj)} {σ : St} {H : Hp} {s s' : Shared}
theorem Inv.env0 (I : Inv X pins σ H s) : Env0 X.prog X.w X.K X.mg X.base X.A X.stack s H :=
  ⟨I.ok.frames, I.ok.mod, I.bs, Nat.le_trans I.ok.bsz I.sz, I.stack, I.stkFree, I.hok, I.bare⟩
theorem Inv.after {Q : VK} {u : Value} (I : Inv X pins σ H s) (h : CE X.stack X.prog X.w H s Q u s') : EP X pins σ Q u s' := by
  obtain ⟨v, H', os, bare, un, hok, r, q⟩ := h
  obtain ⟨hh, g, d, t, os'⟩ := s'
  obtain rfl : os' = s.os := os
  exact ⟨v, H', I.call (h' := hh) (g' := g) (d' := d) (t' := t) (ch := []) un hok bare (fun b z => absurd z (by simp)), r, q⟩
end
noncomputable def tCall (sp : Sp) (dvs : List V) (E : XK) (t : TA) : TE := fun σ H Q => t σ H fun vs H1 => sp (vs ++ dvs) H1 Q E
noncomputable def Binds (K : PySem.W.Frag) (fd : FuncData) (ps : List Str) (ds : List Value) : Prop :=
  ∀ (s : Shared) (us : List Value), K.In s.heap → (us ++ ds).length = ps.length → BindsTo s fd ⟨us, []⟩ (ps.zip (us ++ ds))
theorem Binds.all {K : PySem.W.Frag} {fd : FuncData} {ps : List Str} (h : ∀ us : List Value, us.length = ps.length → bindArgs fd ⟨us, []⟩ = pure (ps.zip us)) : Binds K fd ps [] := fun s us _ hl => by
  rw [List.append_nil] at hl ⊢
  exact .of_eq (h us hl)
noncomputable def Passes (CX : CXT) (X : Cx) (E : XK) : Prop := ∀ (pins : List (Addr × Obj)) (σ : St) (H : Hp) (s : Shared) (e : Value) (s' : Shared), Inv X pins σ H s → CX X.stack H s E e s' → X.xe e s'
section
variable {X : Cx} {CX : CXT} {k : Nat} {f C : Addr} {fd : FuncData} {ps : List Str} {sp : Sp} {dvs : List V} {ds : List Value} {E : XK} {x m : Str} {p pos apos : Pos} {e o : Expr} {es : List Expr} {ta : TE} {t : TA}
theorem run_fn {pins : List (Addr × Obj)} {σ : St} {H : Hp} {s : Shared} {Q : VK} {us : List Value} {vs : List V} (F : FnOk X.prog X.w X.K X.mg X.base CX k f fd ps sp) (hr : Room k X.A) (hb : Binds X.K fd ps ds) (hd : Vals dvs ds) (hx : Passes CX X E)
    (I : Inv X pins σ H s) (r : Vals vs us) (h : sp (vs ++ dvs) H Q E) : wpAny (model X.prog X.w) X.A (call (.ref f) us) (EP X pins σ Q) X.xe s := by
  have r2 : Vals (vs ++ dvs) (us ++ ds) := r.append hd
  have hl : (us ++ ds).length = ps.length := by rw [← r2.length]; exact F.len _ _ _ _ h
  refine wpAny_call (codeAny_mono (F.run X.A X.stack s H ⟨us, []⟩ (us ++ ds) (vs ++ dvs) Q E hr I.env0 (hb s us I.kIn hl) r2 h) fun r s' hq => ?_)
  cases r with
  | error e => exact hx pins σ H s e s' I hq
  | ok fl =>
    cases fl with
    | ret u => exact I.after hq
    | next => exact False.elim hq
    | brk => exact False.elim hq
    | cont => exact False.elim hq
theorem pe_call (F : FnOk X.prog X.w X.K X.mg X.base CX k f fd ps sp) (hr : Room k X.A) (hg : Gl X x) (hm : X.mg x = some (.ref f)) (hk : PySem.W.keepIn X.K (.ref f) = true) (hb : Binds X.K fd ps ds) (hd : Vals dvs ds) (hx : Passes CX X E)
    (ha : PA X (e :: es) t) (hdb : (x == ("__debug__" : Str)) = false := by decide) (he : starEach (e :: es) X.env = (false, eval e X.env) :: starEach es X.env := by rfl) (hpl : (backTo pos (starEach es X.env)).any (·.1) = false := by rfl) :
    PE X (.Call (.Name x p) (e :: es) [] pos) (tCall sp dvs E t) := by
  intro pins s σ H Q I h
  refine wpAny_Call_Name_kw (ld_glob I hg hm ?_ hdb)
  refine PySem.W.callWith_K (h₀ := X.base) I.ok.mod.kin hk (thn (ha pos pins s σ H _ I h) fun us s1 qz9 => ?_) he hpl
  obtain ⟨vs, H1, I1, r, q⟩ := qz9
  refine ⟨I1.kIn, ?_⟩
  exact run_fn F hr hb hd hx I1 r q
structure Mk (K : PySem.W.Frag) (C f : Addr) : Prop where
  makes : PySem.W.makesIn K C = true
  init : PySem.W.findIn K (.ref C) "__init__" = some (some (.ref f))
  fn : PySem.W.isFn K (.ref f) = true
  kp : PySem.W.keepIn K (.ref C) = true
end
section
variable {X : Cx} {CX : CXT} {k : Nat} {f C : Addr} {fd : FuncData} {ps ks : List Str} {sp : Sp} {E : XK} {x m : Str} {p pos apos kpos : Pos} {e o : Expr} {es : List Expr} {kws : List Keyword} {te ta : TE} {t tk : TA} {nm : Option Str}
structure KBinds (K : PySem.W.Frag) (fd : FuncData) (ps ks : List Str) (g : List Value → List Value → List Value) (gV : List V → List V → List V) : Prop where
  to : ∀ (s : Shared) (us ws : List Value), K.In s.heap → (g us ws).length = ps.length → BindsTo s fd ⟨us, ks.zip ws⟩ (ps.zip (g us ws))
  rel : ∀ {vs : List V} {us : List Value} {zs : List V} {ws : List Value}, Vals vs us → Vals zs ws → Vals (gV vs zs) (g us ws)
variable {g : List Value → List Value → List Value} {gV : List V → List V → List V}
end
structure FnScope (N P : List Str) (sc : Scope) : Prop where
  kind : sc.kind = .function
  co : sc.isCoroutine = false
  gen : sc.isGenerator = false
  nd : N.Nodup
  pre : N.take P.length = P
  par : ∀ x ∈ P, sc.names.lookup x = some .local ∨ sc.names.lookup x = some .cell
  nofree : ∀ y ∈ sc.names, y.2 ≠ .free
theorem bindL_out {kindOf : Str → Option NameKind} {x : Str} : ∀ {binds : List (Str × Value)} {m : Str → Option Value}, (∀ v, (x, v) ∉ binds) → bindL kindOf binds m x = m x
  | [], _, _ => rfl
  | (n, v) :: r, m, h => by
    unfold bindL
    rw [bindL_out fun w hw => h w (List.mem_cons_of_mem _ hw)]
    split
    · have : x ≠ n := by rintro rfl; exact h v List.mem_cons_self
      simp [this]
    · rfl
theorem bindC_out {kindOf : Str → Option NameKind} {x : Str} : ∀ {binds : List (Str × Value)} {m : Str → Option Value}, (∀ v, (x, v) ∉ binds) → bindC kindOf binds m x = m x
  | [], _, _ => rfl
  | (n, v) :: r, m, h => by
    unfold bindC
    rw [bindC_out fun w hw => h w (List.mem_cons_of_mem _ hw)]
    split
    · rfl
    · have : x ≠ n := by rintro rfl; exact h v List.mem_cons_self
      simp [this]
theorem bindL_get {kindOf : Str → Option NameKind} {x : Str} {v : Value} : ∀ {P : List Str} {vs : List Value} {i : Nat} {m : Str → Option Value}, P.Nodup → P[i]? = some x → vs[i]? = some v → kindOf x = some .local →
    bindL kindOf (P.zip vs) m x = some v
  | [], _, _, _, _, h, _, _ => by simp at h
  | _ :: _, [], _, _, _, _, h, _ => by simp at h
  | p :: P, w :: vs, 0, m, nd, h1, h2, hk => by
    simp at h1 h2; subst h1; subst h2
    show bindL kindOf ((p, w) :: P.zip vs) m p = _
    unfold bindL
    rw [bindL_out fun v hv => (List.nodup_cons.mp nd).1 (List.of_mem_zip hv).1, if_pos hk]
    simp
  | p :: P, w :: vs, i + 1, m, nd, h1, h2, hk => by
    show bindL kindOf ((p, w) :: P.zip vs) m x = _
    unfold bindL
    exact bindL_get (i := i) (List.nodup_cons.mp nd).2 (by simpa using h1) (by simpa using h2) hk
theorem bindC_get {kindOf : Str → Option NameKind} {x : Str} {v : Value} : ∀ {P : List Str} {vs : List Value} {i : Nat} {m : Str → Option Value}, P.Nodup → P[i]? = some x → vs[i]? = some v → kindOf x ≠ some .local →
    bindC kindOf (P.zip vs) m x = some v
  | [], _, _, _, _, h, _, _ => by simp at h
  | _ :: _, [], _, _, _, _, h, _ => by simp at h
  | p :: P, w :: vs, 0, m, nd, h1, h2, hk => by
    simp at h1 h2; subst h1; subst h2
    show bindC kindOf ((p, w) :: P.zip vs) m p = _
    unfold bindC
    rw [bindC_out fun v hv => (List.nodup_cons.mp nd).1 (List.of_mem_zip hv).1, if_neg hk]
    simp
  | p :: P, w :: vs, i + 1, m, nd, h1, h2, hk => by
    show bindC kindOf ((p, w) :: P.zip vs) m x = _
    unfold bindC
    exact bindC_get (i := i) (List.nodup_cons.mp nd).2 (by simpa using h1) (by simpa using h2) hk
noncomputable def start (N : List Str) (vs : List V) : St := vs.map some ++ List.replicate (N.length - vs.length) none
noncomputable def cxOf (CX : CXT) (P : Program) (w : World) (K : PySem.W.Frag) (mg : Str → Option Value) (base : Heap) (N : List Str) (qual : Str) (scope : Scope) (f : Addr) (cd : Value) (A : Around) (outer : List Env) (s : Shared) (H : Hp) (E : XK) : Cx where
  prog := P
  w := w
  K := K
  mg := mg
  base := base
  A := A.deeper (envOfC qual scope s.heap.objs.size f cd)
  N := N
  s₀ := s
  H₀ := H
  env := envOfC qual scope s.heap.objs.size f cd
  outer := outer
  stack := envOfC qual scope s.heap.objs.size f cd :: outer
  ex := []
  calm := true
  fn := fun _ => true
  pn := []
  xe := fun e s' => wpAny (model P w) (A.deeper (envOfC qual scope s.heap.objs.size f cd)) (leaving (envOfC qual scope s.heap.objs.size f cd) e) (fun _ s'' => CX outer H s E e s'') (fun e' s'' => CX outer H s E e' s'') s'
theorem cell_has {sc : Scope} {n : Nat} {x : Str} (h : sc.names.lookup x = some .cell) : ∃ c, (cellsFrom n sc.names []).lookup x = some c := by
  have q := PySem.W.cellsFrom_some sc.names n [] (.inl h)
  exact Option.isSome_iff_exists.mp q
theorem inv_start {CX : CXT} {P : Program} {w : World} {K : PySem.W.Frag} {mg : Str → Option Value} {base : Heap} {N ps : List Str} {qual : Str} {scope : Scope} {f : Addr} {cd : Value} {A : Around} {outer : List Env} {s s1 : Shared} {H : Hp} {E : XK} {us : List Value} {vs : List V}
    (S : FnScope N ps scope) (hd : A.handled = none) (e0 : Env0 P w K mg base A outer s H) (hl : vs.length = ps.length) (r : Vals vs us)
    (x : InCallC s s.heap.objs.size (bindL (envOfC qual scope s.heap.objs.size f cd).kindOf (ps.zip us) fun _ => none) (cellsFrom (s.heap.objs.size + 1) scope.names []) (bindC (envOfC qual scope s.heap.objs.size f cd).kindOf (ps.zip us) fun _ => none) s1) :
    Inv (cxOf CX P w K mg base N qual scope f cd A outer s H E) [] (start N vs) H s1 := by
  have hpl : ps.length ≤ N.length := by have := congrArg List.length S.pre; rw [List.length_take] at this; omega
  obtain ⟨h1, tk, rfl, hk⟩ := x.done
  have noA : ∀ b : Addr, b ∉ (cxOf CX P w K mg base N qual scope f cd A outer s H E).ex := fun b z => absurd (show b ∈ ([] : List Addr) from z) (by simp)
  refine ⟨⟨e0.mod, S.kind, rfl, rfl, Nat.le_refl _, fun y z c h1 h2 => ?_, fun y hy => ?_, fun y c _ h => ?_, fun _ => hd, Around.frames_deeper e0.frames, .inr ⟨rfl, rfl⟩, fun b z => absurd z (noA b), e0.bs, e0.bsz, fun b _ _ => noA b, fun b z => absurd z (noA b), e0.funs, e0.frf⟩,
    rfl, e0.bare, Un.kept hk, ⟨_, x.toInCall.ns, fun i y v h1 h2 h3 => ?_⟩, fun y c h => ⟨_, x.cell y c h⟩, e0.hok.fresh (Nat.le_refl _), fun y c h => ?_, fun p hp => absurd (show p ∈ ([] : List (Addr × Obj)) from hp) (by simp), e0.hok.kept hk, ?_⟩
  · exact name_of_addr x.apart (PySem.mem_of_lookup h1) (PySem.mem_of_lookup h2)
  · have hy : scope.names.lookup y = some .cell ∨ scope.names.lookup y = some .free := hy
    rcases hy with hy | hy
    · exact cell_has hy
    · exact absurd rfl (S.nofree _ (PySem.mem_of_lookup hy))
  · exact Nat.le_of_lt (x.above y c (PySem.mem_of_lookup h))
  · have hi : i < vs.length := by
      unfold start at h2
      by_cases hi : i < vs.length
      · exact hi
      · rw [List.getElem?_append_right (by simpa using hi)] at h2
        rw [List.getElem?_replicate] at h2
        split at h2 <;> cases h2
    have ha : vs[i]? = some v := by
      unfold start at h2
      rw [List.getElem?_append_left (by simpa using hi), List.getElem?_map] at h2
      cases e : vs[i]? with
      | none => rw [e] at h2; cases h2
      | some a => rw [e] at h2; cases h2; rfl
    obtain ⟨u, hu, rv⟩ := r.get ha
    have hp : ps[i]? = some y := by
      rw [← S.pre, List.getElem?_take_of_lt (by omega)]; exact h1
    have ndP : ps.Nodup := by rw [← S.pre]; exact S.nd.sublist (List.take_sublist _ _)
    refine ⟨u, rv, ?_⟩
    rcases S.par y (List.mem_of_getElem? hp) with k | k
    · exact .inl ⟨k, bindL_get ndP hp hu k⟩
    · obtain ⟨c, e⟩ := cell_has (n := s.heap.objs.size + 1) k
      refine .inr ⟨.inl k, c, e, ?_⟩
      have q := x.cell y c e
      rw [bindC_get ndP hp hu (by show scope.names.lookup y ≠ _; rw [k]; decide)] at q
      exact q
  · exact e0.hok.fresh (Nat.le_of_lt (x.above y c (PySem.mem_of_lookup h)))
  · unfold start
    show _ = N.length
    rw [List.length_append, List.length_map, List.length_replicate]
    omega
theorem fn_of {CX : CXT} {P : Program} {w : World} {K : PySem.W.Frag} {mg : Str → Option Value} {base : Heap} {k : Nat} {f : Addr} {name qual : Str} {params : Arguments} {body : List Stmt} {scope : Scope} {dV kV doc pm cdv ct oc : Value} {an od : Option Addr}
    {osl : Array (Option Value)} {N ps : List Str} {sp : Sp} (lk : K.lookup f = some ⟨oc, od, .func (PySem.W.fnOf name qual params body scope dV kV doc pm an cdv ct), osl⟩) (hcd : PySem.W.codeIn K cdv qual = true) (S : FnScope N ps scope)
    (len : ∀ vs H Q E, sp vs H Q E → vs.length = ps.length)
    (hbody : ∀ (A : Around) (outer : List Env) (s : Shared) (H : Hp) (vs : List V) (Q : VK) (E : XK), Room k (A.deeper (envOfC qual scope s.heap.objs.size f cdv)) → sp vs H Q E →
      ∃ t, PSs (cxOf CX P w K mg base N qual scope f cdv A outer s H E) body t ∧ t { nx := fun _ H' => Q .non H', rt := Q } (start N vs) H) :
    FnOk P w K mg base CX (k + 1) f (PySem.W.fnOf name qual params body scope dV kV doc pm an cdv ct) ps sp := by
  refine ⟨len, fun A outer s H args us vs Q E hr e0 hb r hsp => ?_⟩
  have hl := len _ _ _ _ hsp
  have KX : K.In s.heap := e0.mod.kin.keeps fun b o e => (e0.bs b o e).1
  have lim : s.heap.NoLimit := e0.mod.nolimit.keeps fun b o e => (e0.bs b o e).1
  have hkind : ∀ y ∈ ps.zip us, scope.names.lookup y.1 = some .local ∨ (scope.names.lookup y.1 = some .cell ∧ ((cellsFrom (s.heap.objs.size + 1) scope.names []).lookup y.1).isSome = true) := fun ⟨n, v⟩ hy => by
    rcases S.par n (List.of_mem_zip hy).1 with q | q
    · exact .inl q
    · exact .inr ⟨q, PySem.W.cellsFrom_some _ _ _ (.inl q)⟩
  refine codeAny_call_function hr.depth (KX _ _ lk) rfl S.co S.gen rfl (PySem.W.codeRec_of KX hcd) (hb _ _ _ _ ?_)
  refine wpAny_newFunctionEnv_cells S.kind hkind fun env he s1 x => ?_
  subst he
  refine ⟨lim.keeps x.toInCall.keep, codeAny_func ?_⟩
  obtain ⟨t, ht, hq⟩ := hbody A outer s H vs Q E (hr.deeper _) hsp
  have I : Inv (cxOf CX P w K mg base N qual scope f cdv A outer s H E) [] (start N vs) H s1 := inv_start S hr.hd e0 hl r x
  refine wpAny_mono (ht [] s1 (start N vs) H _ I hq) (fun fl s' hs => ?_) fun e s' hs => hs
  have fin : ∀ {σ' : St} {H' : Hp} {v : V} {u : Value}, Inv (cxOf CX P w K mg base N qual scope f cdv A outer s H E) [] σ' H' s' → RelV v u → Q v H' → CE outer P w H s Q u s' :=
    fun {σ' H' v u} J rv q => ⟨v, H', J.os, J.bare, J.base, J.hok, rv, q⟩
  cases fl with
  | ret u =>
    obtain ⟨v, σ', H', J, rv, q⟩ := hs
    exact fin J rv q
  | next =>
    obtain ⟨σ', H', J, q⟩ := hs
    exact fin (v := V.non) (u := Value.none) J rfl q
  | brk =>
    obtain ⟨_, _, _, q⟩ := hs
    exact False.elim q
  | cont =>
    obtain ⟨_, _, _, q⟩ := hs
    exact False.elim q
end L2
namespace L2
open PySem PySem.Spec PyProof.Rows
section
variable {X : Cx} {x : Str} {p pos : Pos} {e : Expr} {es : List Expr} {t : TA} {id T : String} {r : List V → Hp → VK → Prop}
noncomputable def tCB (r : List V → Hp → VK → Prop) (t : TA) : TE := fun σ H Q => t σ H fun vs H1 => r vs H1 Q
theorem pe_callB (hc : CallR X (.builtin id) r) (hg : Gl X x) (hm : X.mg x = none) (hv : bootBuiltins x = some (.builtin id)) (ha : PA X (e :: es) t) (hn : x ≠ "__name__" := by decide) (hdb : (x == ("__debug__" : Str)) = false := by decide)
    (he : starEach (e :: es) X.env = (false, eval e X.env) :: starEach es X.env := by rfl) (hpl : (backTo pos (starEach es X.env)).any (·.1) = false := by rfl) : PE X (.Call (.Name x p) (e :: es) [] pos) (tCB r t) := by
  intro pins s σ H Q I h
  refine wpAny_Call_Name_kw (ld_blt I hg hm hv ?_ hn hdb)
  refine PyProof.Rows.callWith_builtin1 (thn (ha pos pins s σ H _ I h) fun us s1 qz9 => ?_) he hpl
  obtain ⟨vs, H1, I1, r1, q1⟩ := qz9
  exact hc pins s1 σ H1 vs us Q I1 r1 q1
theorem pe_callTy (hc : CallR X (.type T) r) (hg : Gl X x) (hm : X.mg x = none) (hv : bootBuiltins x = some (.type T)) (ha : PA X (e :: es) t) (hn : x ≠ "__name__" := by decide) (hdb : (x == ("__debug__" : Str)) = false := by decide)
    (he : starEach (e :: es) X.env = (false, eval e X.env) :: starEach es X.env := by rfl) (hpl : (backTo pos (starEach es X.env)).any (·.1) = false := by rfl) : PE X (.Call (.Name x p) (e :: es) [] pos) (tCB r t) := by
  intro pins s σ H Q I h
  refine wpAny_Call_Name_kw (ld_blt I hg hm hv ?_ hn hdb)
  refine PyProof.Rows.callWith_type1 (thn (ha pos pins s σ H _ I h) fun us s1 qz9 => ?_) he hpl
  obtain ⟨vs, H1, I1, r1, q1⟩ := qz9
  exact hc pins s1 σ H1 vs us Q I1 r1 q1
end
end L2
namespace HT
open PySem PyProof.Rows
section
open PySem.SeqAt
open PySem.AutoSeq1 (wpAny_loadPart')
open PySem.MeetsSeq PySem.MeetsSeq2 PySem.MeetsSeq3
end
section
variable {prog : Program} {w : World} {A : Around} {E : Value → Shared → Prop} {s : Shared}
noncomputable def sIx (n d : Nat) : Option Int → Nat
  | none => d
  | some v => if v < 0 then (v + (n : Int)).toNat else min v.toNat n
end
end HT
namespace L2
open PySem PySem.Spec PyProof.Rows
noncomputable abbrev TO := St → Hp → (Option Int → Hp → Prop) → Prop
noncomputable def PO (X : Cx) (e : Option Expr) (t : TO) : Prop :=
  ∀ (pins : List (Addr × Obj)) (s : Shared) (σ : St) (H : Hp) (Q : Option Int → Hp → Prop), Inv X pins σ H s → t σ H Q →
    wpAny (model X.prog X.w) X.A (evalPart e X.env) (fun u s' => ∃ o H', Inv X pins σ H' s' ∧ IsPart u o ∧ Q o H') X.xe s
noncomputable def tNoPart : TO := fun _ H Q => Q none H
noncomputable def tPart (t : TE) : TO := fun σ H Q => t σ H fun x H1 => ∃ i, x = .int i ∧ Q (some i) H1
section
variable {X : Cx} {e : Expr} {te : TE} {lo hi : Option Expr} {tl th : TO} {pos p2 : Pos}
theorem po_none : PO X none tNoPart := by
  intro pins s σ H Q I h
  rw [evalPart_none]
  exact wpAny_pure ⟨none, H, I, .none, h⟩
theorem po_some (h : PE X e te) : PO X (some e) (tPart te) := by
  intro pins s σ H Q I hw
  rw [evalPart_some]
  refine thn (h pins s σ H _ I hw) fun u s1 qz9 => ?_
  obtain ⟨x, H1, I1, r1, q1⟩ := qz9
  obtain ⟨i, rfl, q⟩ := q1
  obtain ⟨t, rfl⟩ := r1
  exact ⟨some i, H1, I1, .int i t, q⟩
noncomputable def SlR (X : Cx) (r : V → Option Int → Option Int → Hp → VK → Prop) : Prop :=
  ∀ (pins : List (Addr × Obj)) (s : Shared) (σ : St) (H : Hp) (x : V) (v vl vu : Value) (lo hi : Option Int) (sl : Addr) (Q : VK), Inv X pins σ H s → RelV x v → s.heap.IsSliceOf sl vl vu .none → IsPart vl lo → IsPart vu hi → r x lo hi H Q →
    ∃ T id, typeLookup (.type T) "__getitem__" = pure (some (.builtin id)) ∧ s.TypeIs v T ∧ wpAny (model X.prog X.w) X.A (getItem v (.ref sl)) (EP X pins σ Q) X.xe s
noncomputable def tSl (r : V → Option Int → Option Int → Hp → VK → Prop) (te : TE) (tl th : TO) : TE := fun σ H Q => te σ H fun x H1 => tl σ H1 fun l H2 => th σ H2 fun u H3 => r x l u H3 Q
theorem pe_slice {r : V → Option Int → Option Int → Hp → VK → Prop} (hr : SlR X r) (he : PE X e te) (hl : PO X lo tl) (hu : PO X hi th) : PE X (.Subscript e (.Slice lo hi none p2) pos) (tSl r te tl th) := by
  intro pins s σ H Q I h
  refine Subscript_ (thn (he pins s σ H _ I h) fun v s1 qz9 => ?_)
  obtain ⟨x, H1, I1, r1, q1⟩ := qz9
  refine wpAny_Slice (thn (hl pins s1 σ H1 _ I1 q1) fun vl s2 qz9 => ?_)
  obtain ⟨l, H2, I2, pl, q2⟩ := qz9
  refine thn (hu pins s2 σ H2 _ I2 q2) fun vu s3 qz9 => ?_
  obtain ⟨u, H3, I3, pu, q3⟩ := qz9
  rw [evalPart_none]
  refine wpAny_pure ?_
  have I4 : Inv X pins σ H3 { s3 with heap := s3.heap.push { cls := .type "slice", data := .fields #[vl, vu, .none] } } := I3.kept (t' := s3.toks) fun b ob q => Heap.get?_push_of_some _ q
  obtain ⟨T, id, hT, ht, hg⟩ := hr pins { s3 with heap := s3.heap.push { cls := .type "slice", data := .fields #[vl, vu, .none] } } σ H3 x v vl vu l u s3.heap.objs.size Q I4 r1 (Heap.IsSliceOf.new ..) pl pu q3
  show wpAny (model X.prog X.w) X.A (subscriptTail e (.Slice lo hi none p2) v (.ref s3.heap.objs.size)) (EP X pins σ Q) X.xe { s3 with heap := s3.heap.push { cls := .type "slice", data := .fields #[vl, vu, .none] } }
  exact tail_any (ops := [.ref s3.heap.objs.size, v]) ht hT hg (by with_unfolding_all rfl)
noncomputable def cutV (xs : List V) (lo hi : Option Int) : List V := (xs.drop (HT.sIx xs.length 0 lo)).take (HT.sIx xs.length xs.length hi - HT.sIx xs.length 0 lo)
theorem cutV_length (xs : List V) (lo hi : Option Int) : (cutV xs lo hi).length ≤ xs.length := by
  unfold cutV
  rw [List.length_take, List.length_drop]
  omega
end
end L2
namespace L2
open PySem PySem.Spec PyProof.Rows
noncomputable def ixN (n : Nat) (i : Int) : Option Nat := if 0 ≤ i then (if i < n then some i.toNat else none) else if -(n : Int) ≤ i then some (i + n).toNat else none
noncomputable def atI {α : Type} (xs : List α) (i : Int) : Option α := (ixN xs.length i).bind fun j => xs[j]?
theorem ixN_seq {n : Nat} {i : Int} {j : Nat} (h : ixN n i = some j) : seqIndex? i n = some j ∧ j < n ∧ -(n : Int) ≤ i ∧ i < n := by
  unfold ixN at h
  by_cases h0 : 0 ≤ i
  · rw [if_pos h0] at h
    by_cases h1 : i < n
    · rw [if_pos h1] at h
      have e : i.toNat = j := Option.some.inj h
      exact ⟨by rw [seqIndex_of h0 h1, e], by omega, by omega, h1⟩
    · rw [if_neg h1] at h; cases h
  · rw [if_neg h0] at h
    by_cases h1 : -(n : Int) ≤ i
    · rw [if_pos h1] at h
      have e : (i + n).toNat = j := Option.some.inj h
      exact ⟨by rw [seqIndex_neg (by omega) h1, e], by omega, h1, by omega⟩
    · rw [if_neg h1] at h; cases h
theorem atI_get {α : Type} {xs : List α} {i : Int} {v : α} (h : atI xs i = some v) : ∃ j, seqIndex? i xs.length = some j ∧ xs[j]? = some v ∧ j < xs.length ∧ -(xs.length : Int) ≤ i ∧ i < xs.length := by
  unfold atI at h
  cases e : ixN xs.length i with
  | none => rw [e] at h; cases h
  | some j =>
    rw [e] at h
    obtain ⟨h1, h2, h3, h4⟩ := ixN_seq e
    exact ⟨j, h1, h, h2, h3, h4⟩
noncomputable def PlainIx (b : Expr) : Prop := ∀ o i, subscripted b false o i = operate [o, i] (getItem o i)
noncomputable def IxR (X : Cx) (r : R2) : Prop :=
  ∀ (value slice : Expr) (pins : List (Addr × Obj)) (s : Shared) (σ : St) (H : Hp) (x y : V) (v u : Value) (Q : VK), Inv X pins σ H s → RelV x v → RelV y u → r x y H Q →
    subscripted slice false v u = operate [v, u] (getItem v u) → wpAny (model X.prog X.w) X.A (subscriptTail value slice v u) (EP X pins σ Q) X.xe s
noncomputable def MtR (X : Cx) (id : String) (r : V → List V → Hp → VK → Prop) : Prop :=
  ∀ (pins : List (Addr × Obj)) (s : Shared) (σ : St) (H : Hp) (x : V) (xs : List V) (v : Value) (us : List Value) (Q : VK), Inv X pins σ H s → RelV x v → Vals xs us → r x xs H Q →
    wpAny (model X.prog X.w) X.A (call (.builtin id) (v :: us)) (EP X pins σ Q) X.xe s
section
variable {X : Cx} {a b : Expr} {ta tb : TE} {pos : Pos}
theorem IxR.or {r r' : R2} (h : IxR X r) (h' : IxR X r') : IxR X (fun x y H Q => r x y H Q ∨ r' x y H Q) := by
  intro value slice pins s σ H x y v u Q I rx ry q hs
  rcases q with q | q
  · exact h value slice pins s σ H x y v u Q I rx ry q hs
  · exact h' value slice pins s σ H x y v u Q I rx ry q hs
theorem pe_ix {r : R2} (hr : IxR X r) (ha : PE X a ta) (hb : PE X b tb) (hs : PlainIx b) : PE X (.Subscript a b pos) (tOp r ta tb) := by
  intro pins s σ H Q I h
  exact Subscript_ (binT ha hb I h fun v u s2 x y H2 I2 rx ry q => hr a b pins s2 σ H2 x y v u Q I2 rx ry q (hs _ _))
noncomputable def rIxL (K : PySem.W.Frag) : R2 := fun x y H Q => ∃ p xs i v, x = .ref p ∧ y = .int i ∧ SqL K H p xs ∧ atI xs i = some v ∧ Q v H
noncomputable def rIxT (K : PySem.W.Frag) : R2 := fun x y H Q => ∃ p xs i v, x = .ref p ∧ y = .int i ∧ SqT K H p xs ∧ atI xs i = some v ∧ Q v H
noncomputable def rIxS : R2 := fun x y H Q => ∃ z i c, x = .str z ∧ y = .int i ∧ z.length ≤ sizeLine ∧ atI z.cps.toList i = some c ∧ Q (.str ⟨#[c]⟩) H
theorem ix_list : IxR X (rIxL X.K) := by
  intro value slice pins s σ H x y v u Q I rx ry h hs
  obtain ⟨p, xs, i, z, rfl, rfl, hq, he, q⟩ := h
  cases rx
  obtain ⟨t, rfl⟩ := ry
  obtain ⟨its, r, pl, hz⟩ := I.list hq
  obtain ⟨j, h1, h2, h3, h4, h5⟩ := atI_get he
  obtain ⟨w, ew, rw'⟩ := r.get h2
  have hl := r.length
  have hn := line63
  have fin : EP X pins σ Q w s := ⟨z, H, I, rw', q⟩
  by_cases h0 : 0 ≤ i
  · have hj : i.toNat = j := by
      rw [seqIndex_of h0 h5] at h1
      exact Option.some.inj h1
    exact item_listR pl.isList h0 (by omega) (by rw [hj]; simpa using ew) fin hs
  · have hj : (i + (its.toArray.size : Int)).toNat = j := by
      rw [seqIndex_neg (by omega) h4] at h1
      rw [List.size_toArray, ← hl]
      exact Option.some.inj h1
    exact subscriptTail_builtinR (x := w) pl.isList.typeIs slot_list_getitem.lookup
      (wpAny_getItem_list_neg (Q := fun r s' => r = w ∧ EP X pins σ Q r s') pl.isList (by omega) (by rw [List.size_toArray] <;> omega) (by omega) (by rw [hj]; simpa using ew) ⟨rfl, fin⟩) hs
theorem ix_tup : IxR X (rIxT X.K) := by
  intro value slice pins s σ H x y v u Q I rx ry h hs
  obtain ⟨p, xs, i, z, rfl, rfl, hq, he, q⟩ := h
  cases rx
  obtain ⟨t, rfl⟩ := ry
  obtain ⟨its, r, pl, hz⟩ := I.tuple hq
  obtain ⟨j, h1, h2, h3, h4, h5⟩ := atI_get he
  obtain ⟨w, ew, rw'⟩ := r.get h2
  have hl := r.length
  have hn := line63
  have fin : EP X pins σ Q w s := ⟨z, H, I, rw', q⟩
  exact subscriptTail_builtinR (x := w) pl.typeIs slot_tuple_getitem.lookup
    (getItem_tuple (j := j) (Q := fun r s' => r = w ∧ EP X pins σ Q r s') pl (by omega) (by omega) (by rw [List.size_toArray, ← hl]; exact h1) (by simpa using ew) ⟨rfl, fin⟩) hs
theorem ix_str : IxR X rIxS := by
  intro value slice pins s σ H x y v u Q I rx ry h hs
  obtain ⟨z, i, c, rfl, rfl, hz, he, q⟩ := h
  obtain ⟨t, rfl⟩ := rx
  obtain ⟨t', rfl⟩ := ry
  obtain ⟨j, h1, h2, h3, h4, h5⟩ := atI_get he
  have hl : z.cps.toList.length = z.length := by simp [Str.length]
  rw [hl] at h1 h4 h5
  have hn := line63
  exact tail_any (typeIs_str s z t) slot_str_getitem.lookup (getItem_str (c := c) (by
    have e1 : decide (i < -(2 ^ 63 : Int)) = false := decide_eq_false (by omega)
    have e2 : decide (i ≥ 2 ^ 63) = false := decide_eq_false (by omega)
    rw [e1, e2, Bool.or_false]) (by rw [h1]; simpa using h2) ⟨.str ⟨#[c]⟩, H, I.tok _, ⟨_, rfl⟩, q⟩) hs
noncomputable def rIx (K : PySem.W.Frag) : R2 := fun x y H Q => rIxL K x y H Q ∨ rIxT K x y H Q ∨ rIxS x y H Q
theorem ix_seq : IxR X (rIx X.K) := ix_list.or (ix_tup.or ix_str)
theorem mapSeq_set (its : List Value) (n j : Nat) (u : Value) : Obj.mapSeq (·.setIfInBounds j u) { cls := .type "list", data := .seq its.toArray n } = { cls := .type "list", data := .seq (its.set j u).toArray n } := by
  simp [Obj.mapSeq]
theorem Inv.lst {pins : List (Addr × Obj)} {σ : St} {H : Hp} {s : Shared} {p : Addr} {xs : List V} (I : Inv X pins σ H s) (h : H p = some (.lst xs)) :
    ∃ (its : List Value) (n : Nat), Vals xs its ∧ s.heap.get? p = some { cls := .type "list", data := .seq its.toArray n } ∧ xs.length ≤ sizeLine := by
  obtain ⟨z, its, n, r, e⟩ := I.hok p _ h
  exact ⟨its, n, r, e, z⟩
theorem Inv.lstUpd {pins : List (Addr × Obj)} {σ : St} {H : Hp} {s : Shared} {p : Addr} {xs ys : List V} {its its' : List Value} {n n' : Nat} {f : Obj → Obj} (I : Inv X pins σ H s) (h : H p = some (.lst xs))
    (ho : s.heap.get? p = some { cls := .type "list", data := .seq its.toArray n }) (hf : f { cls := .type "list", data := .seq its.toArray n } = { cls := .type "list", data := .seq its'.toArray n' }) (r : Vals ys its') (hz : ys.length ≤ sizeLine) (t : Nat) :
    Inv X pins σ (upd H p (.lst ys)) { s with heap := s.heap.update p f, toks := t } := by
  have e : (s.heap.update p f).get? p = some { cls := .type "list", data := .seq its'.toArray n' } := by
    rw [Heap.get?_update_self f ho (by rw [hf] <;> rfl), hf]
  refine I.write (x := p) (e := p) (by rw [h]; trivial) (.inl rfl) (fun b u hb q => (Heap.get?_update_other _ _ (Ne.symm hb)).trans q) ⟨_, e⟩ ?_
  exact ⟨hz, its', n', r, e⟩
noncomputable def rSetL : V → V → V → Hp → (Hp → Prop) → Prop := fun o i v H Q => ∃ p xs k j, o = .ref p ∧ i = .int k ∧ H p = some (.lst xs) ∧ ixN xs.length k = some j ∧ Q (upd H p (.lst (xs.set j v)))
theorem set_list : PSet X rSetL := by
  intro pins s σ H o i v ov iv u Q I ro ri rv h
  obtain ⟨p, xs, k, j, rfl, rfl, hp, hj, q⟩ := h
  cases ro
  obtain ⟨t, rfl⟩ := ri
  obtain ⟨its, n, r, ho, hz⟩ := I.lst hp
  obtain ⟨h1, h2, h3, h4⟩ := ixN_seq hj
  have hl := r.length
  have hn := line63
  have I' : Inv X pins σ (upd H p (.lst (xs.set j v))) { s with heap := s.heap.update p (Obj.mapSeq (·.setIfInBounds j u)) } :=
    I.lstUpd hp ho (mapSeq_set its n j u) (r.set rv j) (by rw [List.length_set]; exact hz) s.toks
  by_cases h0 : 0 ≤ k
  · have hk : k.toNat = j := by
      rw [seqIndex_of h0 h4] at h1
      exact Option.some.inj h1
    exact PySem.W.ki_setAt ho h0 (by omega) (by rw [List.size_toArray, ← hl]; exact h4) (by rw [hk]; exact ⟨_, I', q⟩)
  · have hk : (k + (its.toArray.size : Int)).toNat = j := by
      rw [seqIndex_neg (by omega) h3] at h1
      rw [List.size_toArray, ← hl]
      exact Option.some.inj h1
    exact PySem.W.ki_setBack ho (by omega) (by rw [List.size_toArray, ← hl]; exact h3) (by omega) (by rw [hk]; exact ⟨_, I', q⟩)
theorem slice_bounds (lo hi : Option Int) (n : Nat) : (sliceBounds lo hi none n).1 = ((HT.sIx n 0 lo : Nat) : Int) ∧ (sliceBounds lo hi none n).2.1 = ((HT.sIx n n hi : Nat) : Int) ∧ (sliceBounds lo hi none n).2.2 = 1 := by
  refine ⟨?_, ?_, rfl⟩
  · cases lo with
    | none => simp [sliceBounds, HT.sIx]
    | some i =>
      simp only [sliceBounds, HT.sIx, Option.getD_none, show (1 : Int) > 0 by decide, if_true]
      by_cases h : i < 0
      · simp only [h, if_true] <;> omega
      · simp only [h, if_false] <;> omega
  · cases hi with
    | none => simp [sliceBounds, HT.sIx]
    | some i =>
      simp only [sliceBounds, HT.sIx, Option.getD_none, show (1 : Int) > 0 by decide, if_true]
      by_cases h : i < 0
      · simp only [h, if_true] <;> omega
      · simp only [h, if_false] <;> omega
theorem slicePick_cut (its : List Value) (lo hi : Option Int) : slicePick its.toArray lo hi none = ((its.drop (HT.sIx its.length 0 lo)).take (HT.sIx its.length its.length hi - HT.sIx its.length 0 lo)).toArray := by
  obtain ⟨h1, h2, h3⟩ := slice_bounds lo hi its.toArray.size
  unfold slicePick
  rw [h1, h2, h3]
  simp only [sliceRange_one, pick_run, List.size_toArray] <;> rfl
noncomputable def rSlL (K : PySem.W.Frag) : V → Option Int → Option Int → Hp → VK → Prop := fun x lo hi H Q => ∃ a xs, x = .ref a ∧ SqL K H a xs ∧ ∀ p, H p = none → Q (.ref p) (upd H p (.lst (cutV xs lo hi)))
theorem sl_list : SlR X (rSlL X.K) := by
  intro pins s σ H x v vl vu lo hi sl Q I rx hs pl pu h
  obtain ⟨a, xs, rfl, hx, q⟩ := h
  cases rx
  obtain ⟨its, r, ht, hz⟩ := I.list hx
  have hlen := r.length
  refine ⟨"list", _, slot_list_getitem.lookup, ht.isList.typeIs, ?_⟩
  refine wpAny_getItem_list_slice ht.isList hs pl pu .none (by simp) ?_ (by rw [List.size_toArray] <;> omega)
  rw [slicePick_cut, ← hlen]
  refine ⟨.ref s.heap.objs.size, _, I.laid (t' := s.toks) (o := .lst (cutV xs lo hi)) (fun b ob q => Heap.get?_push_of_some _ q) (Nat.le_refl _) ?_, rfl, q _ (I.hok.fresh (Nat.le_refl _))⟩
  exact ⟨Nat.le_trans (cutV_length xs lo hi) hz, _, 0, (r.drop (HT.sIx xs.length 0 lo)).take (HT.sIx xs.length xs.length hi - HT.sIx xs.length 0 lo), Heap.get?_push_size _ rfl⟩
noncomputable def flatV : V → Bool
  | .non => true
  | .bl _ => true
  | .int _ => true
  | .str _ => true
  | _ => false
noncomputable def eqV : V → V → Bool
  | .non, .non => true
  | .bl a, .bl b => a == b
  | .bl a, .int b => (if a then 1 else 0) == b
  | .int a, .bl b => a == (if b then 1 else 0)
  | .int a, .int b => a == b
  | .str a, .str b => a == b
  | _, _ => false
theorem eqAt_V {A : Around} {s : Shared} {y x : V} {u v : Value} (ry : RelV y u) (rx : RelV x v) (fy : flatV y = true) (fx : flatV x = true) : SeqAt.EqAt A s u v (eqV y x) := by
  cases y with
  | non =>
    cases ry
    cases x with
    | non => cases rx; exact SeqAt.EqAt.same _
    | bl b => cases rx; exact SeqAt.EqAt.none_bool b
    | int b => obtain ⟨t, rfl⟩ := rx; exact SeqAt.EqAt.none_int b t
    | str b => obtain ⟨t, rfl⟩ := rx; exact SeqAt.EqAt.none_str b t
    | _ => exact absurd (show false = true from fx) Bool.false_ne_true
  | bl a =>
    cases ry
    cases x with
    | non => cases rx; exact SeqAt.EqAt.bool_none a
    | bl b => cases rx; exact SeqAt.EqAt.bool_bool a b
    | int b => obtain ⟨t, rfl⟩ := rx; exact SeqAt.EqAt.bool_int a b t
    | str b => obtain ⟨t, rfl⟩ := rx; exact SeqAt.EqAt.bool_str a b t
    | _ => exact absurd (show false = true from fx) Bool.false_ne_true
  | int a =>
    obtain ⟨t', rfl⟩ := ry
    cases x with
    | non => cases rx; exact SeqAt.EqAt.int_none a t'
    | bl b => cases rx; exact SeqAt.EqAt.int_bool a t' b
    | int b => obtain ⟨t, rfl⟩ := rx; exact SeqAt.EqAt.int_int a t' b t
    | str b => obtain ⟨t, rfl⟩ := rx; exact SeqAt.EqAt.int_str a t' b t
    | _ => exact absurd (show false = true from fx) Bool.false_ne_true
  | str a =>
    obtain ⟨t', rfl⟩ := ry
    cases x with
    | non => cases rx; exact SeqAt.EqAt.str_none a t'
    | bl b => cases rx; exact SeqAt.EqAt.str_bool a t' b
    | int b => obtain ⟨t, rfl⟩ := rx; exact SeqAt.EqAt.str_int a t' b t
    | str b => obtain ⟨t, rfl⟩ := rx; exact SeqAt.EqAt.str_str a t' b t
    | _ => exact absurd (show false = true from fx) Bool.false_ne_true
  | _ => exact absurd (show false = true from fy) Bool.false_ne_true
noncomputable def eqU (x : V) (u : Value) : Bool := match u with
  | .none => eqV .non x
  | .bool b => eqV (.bl b) x
  | .int i _ => eqV (.int i) x
  | .str z _ => eqV (.str z) x
  | _ => false
theorem eqU_of {x y : V} {u : Value} (r : RelV y u) (f : flatV y = true) : eqU x u = eqV y x := by
  cases y with
  | non => cases r; rfl
  | bl b => cases r; rfl
  | int i => obtain ⟨t, rfl⟩ := r; rfl
  | str z => obtain ⟨t, rfl⟩ := r; rfl
  | _ => exact absurd (show false = true from f) Bool.false_ne_true
theorem any_eqU {x : V} {xs : List V} {us : List Value} (h : Vals xs us) (f : xs.all flatV = true) : us.any (eqU x) = xs.any fun y => eqV y x := by
  induction h with
  | nil => rfl
  | cons r t ih =>
    rw [List.all_cons, Bool.and_eq_true] at f
    rw [List.any_cons, List.any_cons, eqU_of r f.1, ih f.2]
theorem mem_eqAt {A : Around} {s : Shared} {x : V} {v : Value} (rx : RelV x v) (fx : flatV x = true) {xs : List V} {us : List Value} (h : Vals xs us) (f : xs.all flatV = true) : ∀ u ∈ us, SeqAt.EqAt A s u v (eqU x u) := by
  induction h with
  | nil => intro u hu; cases hu
  | cons r t ih =>
    intro u' hu
    rw [List.all_cons, Bool.and_eq_true] at f
    rcases List.mem_cons.mp hu with rfl | hu
    · rw [eqU_of r f.1]; exact eqAt_V r rx f.1 fx
    · exact ih f.2 u' hu
noncomputable def inV (x : V) (xs : List V) : Bool := xs.any fun y => eqV y x
noncomputable def rIn (K : PySem.W.Frag) (neg : Bool) : R2 := fun x y H Q => ∃ p xs, y = .ref p ∧ (SqL K H p xs ∨ SqT K H p xs) ∧ flatV x = true ∧ xs.all flatV = true ∧ Q (.bl (if neg then !inV x xs else inV x xs)) H
theorem op_in_seq : OpR X (compareOp .In) (rIn X.K false) := by
  intro pins s σ H x y v u Q I rx ry h
  obtain ⟨p, xs, rfl, hq, fx, fs, q⟩ := h
  cases ry
  rcases hq with hq | hq
  · obtain ⟨its, r, pl, hz⟩ := I.list hq
    refine SeqAt.in_listAt (eqU x) pl.isList (fun w hw => mem_eqAt rx fx r fs w (by simpa using hw)) ⟨.bl _, H, I, rfl, ?_⟩
    rw [show its.toArray.any (eqU x) = its.any (eqU x) by simp, any_eqU r fs]
    exact q
  · obtain ⟨its, r, pl, hz⟩ := I.tuple hq
    refine SeqAt.in_tupleAt (eqU x) pl (fun w hw => mem_eqAt rx fx r fs w (by simpa using hw)) ⟨.bl _, H, I, rfl, ?_⟩
    rw [show its.toArray.any (eqU x) = its.any (eqU x) by simp, any_eqU r fs]
    exact q
theorem op_notIn_seq : OpR X (compareOp .NotIn) (rIn X.K true) := by
  intro pins s σ H x y v u Q I rx ry h
  obtain ⟨p, xs, rfl, hq, fx, fs, q⟩ := h
  cases ry
  rcases hq with hq | hq
  · obtain ⟨its, r, pl, hz⟩ := I.list hq
    refine SeqAt.notIn_listAt (eqU x) pl.isList (fun w hw => mem_eqAt rx fx r fs w (by simpa using hw)) ⟨.bl _, H, I, rfl, ?_⟩
    rw [show its.toArray.any (eqU x) = its.any (eqU x) by simp, any_eqU r fs]
    exact q
  · obtain ⟨its, r, pl, hz⟩ := I.tuple hq
    refine SeqAt.notIn_tupleAt (eqU x) pl (fun w hw => mem_eqAt rx fx r fs w (by simpa using hw)) ⟨.bl _, H, I, rfl, ?_⟩
    rw [show its.toArray.any (eqU x) = its.any (eqU x) by simp, any_eqU r fs]
    exact q
theorem call_len_seq : CallR X (.builtin "len") (fun xs H Q => ∃ p ys, xs = [.ref p] ∧ (SqL X.K H p ys ∨ SqT X.K H p ys) ∧ Q (.int ys.length) H) := by
  intro pins s σ H xs us Q I r h
  obtain ⟨p, ys, rfl, hq, q⟩ := h
  obtain ⟨u, rfl, rx⟩ := vals1 r
  cases rx
  have hn := line63
  rcases hq with hq | hq
  · obtain ⟨its, r', pl, hz⟩ := I.list hq
    have hlen := r'.length
    exact Calls.call_len_list pl.isList (by simp only [List.size_toArray] <;> omega) ⟨.int ys.length, H, I.tok _, ⟨s.toks + 1, by rw [List.size_toArray, hlen]⟩, q⟩
  · obtain ⟨its, r', pl, hz⟩ := I.tuple hq
    have hlen := r'.length
    exact len_tuple pl (by simp only [List.size_toArray] <;> omega) ⟨.int ys.length, H, I.tok _, ⟨s.toks + 1, by rw [List.size_toArray, hlen]⟩, q⟩
theorem call_list_of : CallR X (.type "list") (fun xs H Q => ∃ p ys, xs = [.ref p] ∧ (SqL X.K H p ys ∨ SqT X.K H p ys) ∧ ∀ l, H l = none → Q (.ref l) (upd H l (.lst ys))) := by
  intro pins s σ H xs us Q I r h
  obtain ⟨p, ys, rfl, hq, q⟩ := h
  obtain ⟨u, rfl, rx⟩ := vals1 r
  cases rx
  have fin : ∀ (its : List Value), Vals ys its → ys.length ≤ sizeLine → ∀ (h' : Heap) (c' : Nat), (∀ b o', s.heap.get? b = some o' → h'.get? b = some o') →
      h'.get? s.heap.objs.size = some { cls := .type "list", dict := none, data := .seq its.toArray c', slots := #[] } → EP X pins σ Q (.ref s.heap.objs.size) { s with heap := h' } := fun its r' hz h' c' kp e =>
    ⟨.ref s.heap.objs.size, _, I.laid (t' := s.toks) kp (Nat.le_refl _) (show ObjOk X.prog X.w _ h' _ (.lst ys) from ⟨hz, its, c', r', e⟩), rfl, q _ (I.hok.fresh (Nat.le_refl _))⟩
  rcases hq with hq | hq
  · obtain ⟨its, r', pl, hz⟩ := I.list hq
    have hlen := r'.length
    obtain ⟨o, ho, hc, n, hd⟩ := pl.isList
    exact call_list_seq p (.inl rfl) ho hc hd (fun h' c' kp e => fin its r' hz h' c' kp e) (by simp only [List.size_toArray] <;> omega)
  · obtain ⟨its, r', pl, hz⟩ := I.tuple hq
    have hlen := r'.length
    obtain ⟨o, ho, hc, n, hd⟩ := pl
    exact call_list_seq p (.inr rfl) ho hc hd (fun h' c' kp e => fin its r' hz h' c' kp e) (by simp only [List.size_toArray] <;> omega)
noncomputable def tyV (K : PySem.W.Frag) (T : String) (x : V) (H : Hp) : Prop := match x with
  | .str _ => T = "str"
  | .int _ => T = "int"
  | .ref p => (T = "list" ∧ ∃ xs, SqL K H p xs) ∨ (T = "tuple" ∧ ∃ o, K.lookup p = some o ∧ o.cls = .type "tuple" ∧ o.dict = none) ∨
      (T = "dict" ∧ ((∃ kvs, H p = some (.dK kvs)) ∨ ∃ kvs, H p = some (.dT kvs))) ∨ (T = "set" ∧ ∃ S n, H p = some (.set S n))
  | _ => False
theorem tyV_is {pins : List (Addr × Obj)} {σ : St} {H : Hp} {s : Shared} {T : String} {x : V} {v : Value} (I : Inv X pins σ H s) (r : RelV x v) (ty : tyV X.K T x H) :
    s.TypeIs v T ∧ ∀ a, v = .ref a → ∃ ob, s.heap.get? a = some ob ∧ ob.dict = none := by
  cases x with
  | str z =>
    obtain ⟨t, rfl⟩ := r
    cases (show T = "str" from ty)
    exact ⟨typeIs_str s z t, fun _ e => nomatch e⟩
  | int i =>
    obtain ⟨t, rfl⟩ := r
    cases (show T = "int" from ty)
    exact ⟨typeIs_int s i t, fun _ e => nomatch e⟩
  | ref p =>
    cases r
    rcases ty with ⟨rfl, xs, hq⟩ | ⟨rfl, o, hk, hc, hd⟩ | ⟨rfl, hk⟩ | ⟨rfl, S, n, hk⟩
    · obtain ⟨its, _, pl, _⟩ := I.list hq
      refine ⟨pl.isList.typeIs, fun a e => ?_⟩
      cases e
      obtain ⟨o, n, e, c, hd, _⟩ := pl
      exact ⟨o, e, hd⟩
    · refine ⟨⟨o, I.kIn p o hk, hc⟩, fun a e => ?_⟩
      cases e
      exact ⟨o, I.kIn _ o hk, hd⟩
    · have z : ∃ o, s.heap.get? p = some o ∧ o.ExactDict := by
        rcases hk with ⟨kvs, hk⟩ | ⟨kvs, hk⟩
        · obtain ⟨_, _, _, _, o, _, _, e, ex, _⟩ := I.hok p _ hk
          exact ⟨o, e, ex⟩
        · obtain ⟨_, _, _, _, o, _, _, e, ex, _⟩ := I.hok p _ hk
          exact ⟨o, e, ex⟩
      obtain ⟨o, e, ex⟩ := z
      refine ⟨⟨o, e, ex.1⟩, fun a e2 => ?_⟩
      cases e2
      exact ⟨o, e, ex.2.1⟩
    · obtain ⟨o, _, _, _, e, ex, _⟩ := I.hok p _ hk
      refine ⟨⟨o, e, ex.1⟩, fun a e2 => ?_⟩
      cases e2
      exact ⟨o, e, ex.2.1⟩
  | _ => exact False.elim ty
noncomputable def tBM (K : PySem.W.Frag) (T : String) (r : V → List V → Hp → VK → Prop) (to : TE) (t : TA) : TE := fun σ H Q => to σ H fun x H1 => tyV K T x H1 ∧ t σ H1 fun xs H2 => r x xs H2 Q
variable {o e : Expr} {es : List Expr} {to : TE} {t : TA} {name : Str} {apos cpos : Pos} {T id : String} {r : V → List V → Hp → VK → Prop}
theorem pe_bm (pa : PlainAttrs T) (slot : Slot T name id) (hty : typeOf (.builtin id) = pure (.type "method_descriptor")) (hm : MtR X id r) (ho : PE X o to) (ha : PA X (e :: es) t)
    (hbase : attributeBase o name X.env (eval o X.env) = eval o X.env := by rfl)
    (hfew : ((backTo cpos (starEach (e :: es) X.env)).all (fun x => !x.1) && (backToKw cpos (keywordEach [] X.env)).all (fun x => x.1.isSome)
      && decide ((e :: es).length + ([] : List Keyword).length + (if ([] : List Keyword).isEmpty then 0 else 1) < 30)) = true := by rfl)
    (hline : (apos.endLine == cpos.line) = true := by rfl) (hs : starEach (e :: es) X.env = (false, eval e X.env) :: starEach es X.env := by rfl) (hplain : (backTo cpos (starEach es X.env)).any (·.1) = false := by rfl) :
    PE X (.Call (.Attribute o name apos) (e :: es) [] cpos) (tBM X.K T r to t) := by
  intro pins s σ H Q I h
  refine wpAny_Call_method_late hbase hfew hline rfl (thn (ho pins s σ H _ I h) fun v s1 qz9 => ?_)
  obtain ⟨x, H1, I1, r1, ty, q1⟩ := qz9
  obtain ⟨h1, h2⟩ := tyV_is I1 r1 ty
  refine ⟨T, id, pa, slot, hty, h1, h2, ?_⟩
  have hA := ha cpos pins s1 σ H1 _ I1 q1
  rw [hs] at hA ⊢
  refine Calls.callWith_builtin (by show (false || (backTo cpos (starEach es X.env)).any (·.1)) = false; rw [hplain] <;> rfl) (Calls.evalArgs_plain ?_)
  refine thn hA fun us s2 qz9 => ?_
  obtain ⟨vs, H2, I2, r2, q2⟩ := qz9
  exact hm pins s2 σ H2 x vs v us Q I2 r1 r2 q2
end
end L2
namespace L2
open PySem PySem.Spec PyProof.Rows
noncomputable def MtM (X : Cx) (id : String) (r : V → List V → Hp → VK → Prop) : Prop :=
  ∀ (pins : List (Addr × Obj)) (s : Shared) (σ : St) (H : Hp) (x : V) (xs : List V) (v : Value) (us : List Value) (Q : VK), Inv X pins σ H s → RelV x v → Vals xs us → r x xs H Q →
    wpAny (model X.prog X.w) X.A (call (.builtin id) (v :: us)) (EP X pins σ Q) X.xe s
theorem Vals.one {x : V} {us : List Value} (h : Vals [x] us) : ∃ u, us = [u] ∧ RelV x u := by
  cases h with
  | cons r t => cases t; exact ⟨_, rfl, r⟩
section
variable {X : Cx} {pins : List (Addr × Obj)} {σ : St} {H : Hp} {s : Shared} {l b : Addr} {xs ys zs : List V}
theorem Inv.lset {its its' : List Value} {n : Nat} {f : Array Value → Array Value} {t' : Nat} (I : Inv X pins σ H s) (hH : H l = some (.lst xs))
    (e : s.heap.get? l = some { cls := .type "list", data := .seq its.toArray n }) (hf : f its.toArray = its'.toArray) (hv : Vals ys its') (hz : ys.length ≤ sizeLine) :
    Inv X pins σ (upd H l (.lst ys)) { s with heap := s.heap.update l (Obj.mapSeq f), toks := t' } := by
  have q := PySem.IsL.update e f
  rw [hf] at q
  refine I.write (x := l) (e := l) (by rw [hH]; exact trivial) (.inl rfl) (fun b' u hb hu => (Heap.get?_update_other s.heap (Obj.mapSeq f) (Ne.symm hb)).trans hu) ⟨_, q⟩ ?_
  exact ⟨hz, its', _, hv, q⟩
theorem Inv.lnew {its : List Value} {t' : Nat} (I : Inv X pins σ H s) (hv : Vals ys its) (hz : ys.length ≤ sizeLine) :
    Inv X pins σ (upd H s.heap.objs.size (.lst ys)) { s with heap := s.heap.push { cls := .type "list", data := .seq its.toArray }, toks := t' } :=
  I.laid (fun _ _ q => Heap.get?_push_of_some _ q) (Nat.le_refl _) ⟨hz, its, 0, hv, Heap.get?_push_size _ rfl⟩
theorem Inv.fresh (I : Inv X pins σ H s) : H s.heap.objs.size = none := I.hok.fresh (Nat.le_refl _)
theorem Inv.lstM (I : Inv X pins σ H s) (hH : H l = some (.lst xs)) : xs.length ≤ sizeLine ∧ ∃ (its : List Value) (n : Nat), Vals xs its ∧ xs.length = its.length ∧ s.heap.get? l = some { cls := .type "list", data := .seq its.toArray n } := by
  obtain ⟨z, its, n, r, e⟩ := I.hok l _ hH
  exact ⟨z, its, n, r, r.length, e⟩
end
section
variable {X : Cx}
noncomputable def rAppend : V → List V → Hp → VK → Prop := fun x vs H Q => ∃ l xs y, x = .ref l ∧ vs = [y] ∧ H l = some (.lst xs) ∧ xs.length < sizeLine ∧ Q .non (upd H l (.lst (xs ++ [y])))
theorem mt_append : MtM X "list.append" rAppend := by
  intro pins s σ H x vs v us Q I rx rv h
  obtain ⟨l, xs, y, rfl, rfl, hH, hz, q⟩ := h
  cases rx
  obtain ⟨u, rfl, ru⟩ := rv.one
  obtain ⟨z, its, n, r, hl, e⟩ := I.lstM hH
  refine call_meets F.slot_list_append ⟨_, e, rfl⟩ F.entry_list_append (F.args_list_append_2 _ _) (PySem.list_append l its.toArray n u (by rw [List.size_toArray]; omega)) ⟨e, ?_⟩
  refine ⟨.non, _, I.lset (its' := its ++ [u]) hH e (by simp) (r.append (.cons ru .nil)) ?_, rfl, q⟩
  rw [List.length_append, List.length_singleton]
  omega
end
section
variable {prog : Program} {w : World} {A : Around} {E : Value → Shared → Prop} {s : Shared}
end
section
variable {X : Cx}
end
end L2
namespace Att
open PySem PySem.W PySem.Calls PyProof.Rows
theorem ints_of_wellAll {P : Params} {h : Heap} : ∀ (ns : List Int) (vs : List Value), WellAll P h vs (ns.map WData.int) → IntsAre vs ns := by
  intro ns
  induction ns with
  | nil =>
    intro vs w
    rw [List.map_nil] at w
    cases w
    exact .nil
  | cons n ns ih =>
    intro vs w
    rw [List.map_cons] at w
    cases w with
    | cons a b =>
      cases a
      exact .cons _ _ (ih _ b)
theorem script_of {l : OpenLaw} {n : Nat} (hn : l.most = some n) {P : Params} {h : Heap} {args : List WData} {vals : List Value}
    (hpre : l.row.toRowW.claim.pre args = true) (hwl : WellAll P h vals args) :
    ∃ a vs ns, vals = [Value.ref a] ∧ args = [WData.list (ns.map WData.int)] ∧ h.get? a = some { cls := .type "list", data := .seq vs.toArray } ∧ IntsAre vs ns ∧ ns.length ≤ n := by
  have hsh : WShape.hasAll [] args [.list .int] = true := (pre_splitW hpre).1
  have hc : l.pre.holds [] { args := args } = true := (pre_splitW hpre).2
  obtain ⟨d, r, rfl, h1, h2⟩ := hasAllW_cons hsh
  obtain rfl := hasAllW_nil h2
  obtain ⟨xs, rfl, h3⟩ := hasW_list h1
  obtain ⟨ns, rfl⟩ := items_int h3
  have hlen : ns.length ≤ n := by
    unfold OpenLaw.pre at hc
    have h4 : (WTm.not (.lt (.lit (.int (n : Int))) (.len (.arg 0)))).holds [] { args := [.list (ns.map .int)] } = true := by
      have h4 := (holds_andW hc).1
      rw [hn] at h4
      exact h4
    have h5 := condW_of h4 (w_not (w_lt w_lit (w_len_list (w_arg rfl))))
    rw [List.length_map] at h5
    refine Nat.le_of_not_lt fun q => ?_
    have q' : (n : Int) < ((ns.length : Nat) : Int) := by omega
    first
      | (rw [decide_eq_true q'] at h5; exact absurd h5 (by decide))
      | (simp at h5; omega)
  cases hwl with
  | cons w1 w2 =>
    cases w2
    cases w1 with
    | list ho hall => exact ⟨_, _, ns, rfl, rfl, ho, ints_of_wellAll ns _ hall, hlen⟩
theorem post_true (l : OpenLaw) (args : List WData) : l.row.toRowW.claim.post args (.bool true) args = true :=
  postW_of (r := l.row.toRowW) (X := (true == true))
    (show WShape.has [] (.bool true) .bool = true by first | rfl | decide | simp [WShape.has, WShape.arms, WShape.armsAll])
    (show (WTm.eq .res (.lit (.bool true))).value [] { args := args, res := some (.bool true), after := args } = some (.bool (true == true)) from w_eq_bool (w_res rfl) w_lit) rfl
theorem attach_call {l : OpenLaw} {n : Nat} {q : Program} {loose : List Str} {XP : (Str → Option Value) → Heap → Prop} {YP : World → Heap → Prop} {d : DefRec}
    (hn : l.most = some n) (hdf : d.params.defaults = [])
    (call : ∀ (w : World) (s₀ s₁ : Shared) (mg mb : Str → Option Value) (fa : Addr) (o : Obj) (pm cd doc : Value) (a : Addr) (vs : List Value) (ns : List Int),
      Ground q loose [] XP w s₀ mg mb s₁.heap → YP w s₁.heap →
      s₁.heap.get? fa = some o → o.data = .func (docDef d.name d.params d.body d.scope pm cd doc) → s₁.heap.CodeRec cd d.name → mg d.name = some (.ref fa) →
      s₁.heap.get? a = some { cls := .type "list", data := .seq vs.toArray } → IntsAre vs ns → ns.length ≤ n → s₁.gens = #[] →
      codeAny (model l.prog w) callerA (.call (.ref fa) ⟨[.ref a], []⟩) (fun r s' => r = .ok (.ret (.bool true)) ∧ OldK s₁.heap s'.heap ∧ s'.os = s₁.os ∧ AllBare s'.gens) s₁) :
    WalkO q loose XP YP l.row.toRowW d [] (fun f vs => PySem.call f vs) := by
  intro w s₀ s₁ mg mb G Y fa o pm cd doc dV kV ho hd hcd hD hmg hg args vals as hpre hlay hrd hwl hlo
  obtain rfl : dV = .none := Dflts.none hD hdf
  obtain rfl : kV = .none := Dflts.noKw hD
  obtain ⟨a, vs, ns, rfl, rfl, hobj, hints, hlen⟩ := script_of hn hpre hwl
  refine enter_call (codeAny_mono (call w s₀ s₁ mg mb fa o pm cd doc a vs ns G Y ho (fd_plain hd) hcd hmg hobj hints hlen hg) fun r s' hq => ?_)
  obtain ⟨rfl, h2, h3, h4⟩ := hq
  exact ⟨.inl ⟨.bool true, .bool true, [], rfl, fun _ => rfl, .bool true, post_true l _, fun _ => ⟨List.Pairwise.nil, fun _ hm => (nomatch hm)⟩⟩, h2, h3, h4⟩
section
variable {prog : Program} {w : World} {A : Around} {E : Value → Shared → Prop} {s : Shared} {K : Frag}
end
end Att
namespace L2
open PySem PySem.Spec PyProof.Rows
theorem vals_ints {vs : List Value} {ns : List Int} (h : IntsAre vs ns) : Vals (ns.map V.int) vs := by
  induction h with
  | nil => exact .nil
  | cons n t h ih => exact .cons ⟨t, rfl⟩ ih
noncomputable def Only (H : Hp) : Prop := ∀ b, H b = none ∨ ∃ o xs, H b = some (.frz o (.lst xs))
theorem law_call {P : Program} {w : World} {K : PySem.W.Frag} {mg mb : Str → Option Value} {CX : CXT} {k : Nat} {fa a : Addr} {fd : FuncData} {x : Str} {sp : Sp} {s₁ : Shared} {vs : List Value} {ns : List Int}
    (KX : K.In s₁.heap) (hns : s₁.heap.Ns mainGlobals mg) (hb : s₁.heap.Ns builtinsNs mb) (hbb : ∀ x : Str, x ≠ "__name__" → mb x = bootBuiltins x) (hlim : s₁.heap.NoLimit) (hg : s₁.gens = #[])
    (ha : s₁.heap.get? a = some { cls := .type "list", data := .seq vs.toArray }) (hi : IntsAre vs ns) (hl : ns.length ≤ sizeLine) (hr : Room k callerA)
    (F : ∀ base : Heap, K.In base → base.Ns mainGlobals mg → FnOk P w K mg base CX k fa fd [x] sp) (hbind : ∀ (s : Shared) (u : Value), BindsTo s fd ⟨[u], []⟩ [(x, u)])
    (hsp : ∀ H : Hp, Only H → SqL K H a (ns.map V.int) → sp [.ref a] H (fun v _ => v = .bl true) fun _ _ _ => False)
    (hCX : ∀ H e s', CX [] H s₁ (fun _ _ _ => False) e s' → False) :
    codeAny (model P w) callerA (.call (.ref fa) ⟨[.ref a], []⟩) (fun r s' => r = .ok (.ret (.bool true)) ∧ OldK s₁.heap s'.heap ∧ s'.os = s₁.os ∧ AllBare s'.gens) s₁ := by
  have rv := vals_ints hi
  have lenV := hi.length
  -- from an abstract heap in which nothing but the script may be tracked
  have core : ∀ H : Hp, Only H → SqL K H a (ns.map V.int) → HOk P w H s₁.heap → (∀ b, H b ≠ none → b = a) → (H a ≠ none → K.lookup a = none) →
      codeAny (model P w) callerA (.call (.ref fa) ⟨[.ref a], []⟩) (fun r s' => r = .ok (.ret (.bool true)) ∧ OldK s₁.heap s'.heap ∧ s'.os = s₁.os ∧ AllBare s'.gens) s₁ := by
    intro H hO hS hok hA hK
    have base_of : ∀ {b : Addr} {o : Obj}, s₁.heap.get? b = some o → H b = none → (hidT s₁.heap H).get? b = some o := fun e n => hidT_get e n
    have noA : ∀ {b : Addr} {o : Obj} {es : Array DictEntry} {ep : Nat}, s₁.heap.get? b = some o → o.data = .dict es ep → H b = none := fun {b o es ep} e d => by
      cases q : H b with
      | none => rfl
      | some u =>
        have e' : b = a := hA b (by rw [q]; simp)
        subst e'
        rw [ha] at e; cases e
        have d' : Data.seq vs.toArray _ = Data.dict es ep := d
        cases d'
    have nsK : ∀ {b : Addr} {m : Str → Option Value}, s₁.heap.Ns b m → (hidT s₁.heap H).Ns b m := fun {b m} ⟨o, es, ep, e, d, r⟩ => ⟨o, es, ep, base_of e (noA e d), d, r⟩
    have hKb : K.In (hidT s₁.heap H) := fun b o e => base_of (KX b o e) (by
      cases q : H b with
      | none => rfl
      | some u =>
        have e' : b = a := hA b (by rw [q]; simp)
        subst e'
        rw [hK (by rw [q]; simp)] at e; cases e)
    have hM : Mod K mg (hidT s₁.heap H) := ⟨hKb, nsK hns, ⟨mb, nsK hb, hbb⟩, let ⟨mc, h1, h2⟩ := hlim; ⟨mc, nsK h1, h2⟩⟩
    have e0 : Env0 P w K mg (hidT s₁.heap H) callerA [] s₁ H := ⟨rfl, hM, fun b o e => of_hidT e, Nat.le_of_eq (hidT_size _ _), trivial, fun b hb => absurd (show b ∈ ([] : List Addr) from hb) (by simp), hok, .of_eq hg⟩
    refine codeAny_mono ((F _ hKb (nsK hns)).run callerA [] s₁ H ⟨[.ref a], []⟩ [.ref a] [.ref a] _ _ hr e0 (hbind s₁ (.ref a)) (.cons rfl .nil) (hsp H hO hS)) fun r s' h => ?_
    cases r with
    | error e => exact (hCX H e s' h).elim
    | ok fl =>
      cases fl with
      | next => exact False.elim h
      | brk => exact False.elim h
      | cont => exact False.elim h
      | ret u =>
        obtain ⟨v, H', os, bare, un, hok', r', q⟩ := h
        have q' : v = .bl true := q
        subst q'
        obtain rfl : u = Value.bool true := r'
        refine ⟨rfl, OldK.of_keep fun b o e => ?_, os, bare⟩
        cases q : H b with
        | none => exact un.keep b o e q (by intro z; exact absurd (show b ∈ ([] : List Addr) from z) (by simp)) (by simp)
        | some u =>
          rcases hO b with z | ⟨ob, xs, z⟩
          · rw [q] at z; cases z
          · have z2 := un.frzs b ob _ z
            obtain ⟨e1, _⟩ := hok b _ z
            obtain ⟨e2, _⟩ := hok' b _ z2
            rw [e] at e1; cases e1
            exact e2
  cases hk : K.lookup a with
  | some o =>
    -- the script is one of the module's own objects
    have e := KX a o hk
    rw [ha] at e
    cases e
    refine core (fun _ => none) (fun _ => .inl rfl) (.inr ⟨_, vs.toArray, _, hk, rfl, rfl, rfl, by rw [List.size_toArray, lenV]; exact hl, by simpa using rv⟩) (fun b u z => by have z' : (none : Option HO) = some u := z; cases z') (fun b z => absurd rfl z) fun z => absurd rfl z
  | none =>
    refine core (fun b => if b = a then some (.frz { cls := .type "list", data := .seq vs.toArray } (.lst (ns.map V.int))) else none) (fun b => ?_) (.inl (.inr ⟨{ cls := .type "list", data := .seq vs.toArray }, if_pos rfl⟩)) (fun b u z => ?_) (fun b z => ?_) fun _ => hk
    · by_cases hb : b = a
      · exact .inr ⟨_, _, if_pos hb⟩
      · exact .inl (if_neg hb)
    · by_cases hb : b = a
      · have z' := (if_pos hb).symm.trans z
        cases z'
        subst hb
        exact ⟨ha, by rw [List.length_map]; exact hl, vs, _, rv, ha⟩
      · have z' := (if_neg hb).symm.trans z
        cases z'
    · by_cases hb : b = a
      · exact hb
      · exact absurd (if_neg hb) z
end L2
namespace L2
open PySem PySem.Spec PyProof.Rows
noncomputable abbrev KOf {K : PySem.W.Frag} {h : Heap} (_ : K.In h) : PySem.W.Frag := K
theorem walk_of {l : PySem.W.OpenLaw} {n k : Nat} {q : Program} {loose : List Str} {XP : (Str → Option Value) → Heap → Prop} {YP : World → Heap → Prop} {d : DefRec} {K : Params → PySem.W.Frag} {CX : World → CXT} {sp : World → Sp} {x : Str}
    (hn : l.most = some n) (hn2 : n ≤ sizeLine) (hdf : d.params.defaults = []) (hr : Room k callerA)
    (hY : ∀ (w : World) (h : Heap), YP w h → (K w.params).In h)
    (F : ∀ (w : World) (mg : Str → Option Value) (fa : Addr) (h : Heap), (K w.params).In h → h.Ns mainGlobals mg → mg d.name = some (.ref fa) →
      ∃ fd : FuncData, (∀ (s : Shared) (u : Value), BindsTo s fd ⟨[u], []⟩ [(x, u)]) ∧
        ∀ base : Heap, (K w.params).In base → base.Ns mainGlobals mg → FnOk l.prog w (K w.params) mg base (CX w) k fa fd [x] (sp w))
    (hsp : ∀ (w : World) (H : Hp) (a : Addr) (ns : List Int), ns.length ≤ n → Only H → SqL (K w.params) H a (ns.map V.int) → sp w [.ref a] H (fun v _ => v = .bl true) fun _ _ _ => False)
    (hCX : ∀ (w : World) (H : Hp) (s : Shared) (e : Value) (s' : Shared), CX w [] H s (fun _ _ _ => False) e s' → False) :
    PySem.W.WalkO q loose XP YP l.row.toRowW d [] (fun f vs => PySem.call f vs) := by
  refine Att.attach_call hn hdf fun w s₀ s₁ mg mb fa o pm cd doc a vs ns G Y ho hd hcd hmg hobj hints hlen hg => ?_
  have KX := hY w _ Y
  obtain ⟨fd, hb, hF⟩ := F w mg fa _ KX G.T.g hmg
  exact law_call KX G.T.g G.T.b G.T.builtins G.T.nolimit hg hobj hints (Nat.le_trans hlen hn2) hr hF hb (fun H hO hS => hsp w H a ns hlen hO hS) fun H e s' => hCX w H s₁ e s'
end L2
namespace L2
open PySem PySem.Spec PyProof.Rows
noncomputable def defArgs (s : Stmt) : Arguments := match s with
  | .FunctionDef _ a _ _ _ _ _ _ _ _ => a
  | _ => { posonlyargs := [], args := [], vararg := none, kwonlyargs := [], kw_defaults := [], kwarg := none, defaults := [] }
noncomputable def defBody (s : Stmt) : List Stmt := match s with
  | .FunctionDef _ _ b _ _ _ _ _ _ _ => b
  | _ => []
noncomputable def defScope (s : Stmt) : Scope := match s with
  | .FunctionDef _ _ _ _ _ _ sc _ _ _ => sc
  | _ => { kind := .function, names := [], isGenerator := false, isCoroutine := false }
noncomputable abbrev CX0 : CXT := fun _ _ _ _ _ _ => False
noncomputable abbrev E0 : XK := fun _ _ _ => False
theorem pass0 {X : Cx} : Passes CX0 X E0 := fun _ _ _ _ _ _ _ h => h.elim
structure Fun (K : PySem.W.Frag) (x qual : Str) (st : Stmt) (f : Addr) (fd : FuncData) : Prop where
  ex : ∃ (oc : Value) (od : Option Addr) (kV doc pm : Value) (an : Option Addr) (cdv ct : Value) (osl : Array (Option Value)),
    fd = PySem.W.fnOf x qual (defArgs st) (defBody st) (defScope st) .none kV doc pm an cdv ct ∧ K.lookup f = some ⟨oc, od, .func fd, osl⟩ ∧ PySem.W.codeIn K cdv qual = true
  kp : PySem.W.keepIn K (.ref f) = true
section
variable {P : Program} {w : World} {K : PySem.W.Frag} {mg : Str → Option Value} {base : Heap}
theorem Fun.ok {x qual : Str} {st : Stmt} {f : Addr} {fd : FuncData} {N ps : List Str} {k : Nat} {sp : Sp} (F : Fun K x qual st f fd) (S : FnScope N ps (defScope st)) (len : ∀ vs H Q E, sp vs H Q E → vs.length = ps.length)
    (hbody : ∀ (cdv : Value) (A : Around) (outer : List Env) (s : Shared) (H : Hp) (vs : List V) (Q : VK) (E : XK), Room k (A.deeper (envOfC qual (defScope st) s.heap.objs.size f cdv)) → sp vs H Q E →
      ∃ t, PSs (cxOf CX0 P w K mg base N qual (defScope st) f cdv A outer s H E).nox (defBody st) t ∧ t { nx := fun _ H' => Q .non H', rt := Q } (start N vs) H) : FnOk P w K mg base CX0 (k + 1) f fd ps sp := by
  obtain ⟨oc, od, kV, doc, pm, an, cdv, ct, osl, rfl, lk, hcd⟩ := F.ex
  refine fn_of lk hcd S len fun A outer s H vs Q E hr hsp => ?_
  obtain ⟨t, h, q⟩ := hbody cdv A outer s H vs Q E hr hsp
  exact ⟨t, h.nox, q⟩
theorem Fun.binds {x qual : Str} {st : Stmt} {f : Addr} {fd : FuncData} {ps : List Str} (F : Fun K x qual st f fd)
    (h : ∀ (kV doc pm : Value) (an : Option Addr) (cdv ct : Value) (us : List Value), us.length = ps.length → bindArgs (PySem.W.fnOf x qual (defArgs st) (defBody st) (defScope st) .none kV doc pm an cdv ct) ⟨us, []⟩ = pure (ps.zip us)) : Binds K fd ps [] := by
  obtain ⟨oc, od, kV, doc, pm, an, cdv, ct, osl, rfl, lk, hcd⟩ := F.ex
  exact .all (h kV doc pm an cdv ct)
theorem fun_mk {x qual : Str} {st : Stmt} {f : Addr} {oc : Value} {od an : Option Addr} {osl : Array (Option Value)} {kV doc pm cdv ct : Value} (l : K.lookup f = some ⟨oc, od, .func (PySem.W.fnOf x qual (defArgs st) (defBody st) (defScope st) .none kV doc pm an cdv ct), osl⟩)
    (c : PySem.W.codeIn K cdv qual = true) (k : PySem.W.keepIn K (.ref f) = true) : Fun K x qual st f (PySem.W.fnOf x qual (defArgs st) (defBody st) (defScope st) .none kV doc pm an cdv ct) := ⟨⟨oc, od, kV, doc, pm, an, cdv, ct, osl, rfl, l, c⟩, k⟩
end
section
variable {X : Cx}
theorem pv (i : Nat) {x : Str} {pos : Pos} (hN : X.N[i]? = some x := by rfl) (hv : Vis X.env.scope x := by first | exact Or.inl rfl | exact Or.inr (Or.inl rfl) | exact Or.inr (Or.inr rfl)) (hd : (x == ("__debug__" : Str)) = false := by decide)
    (hcd : (x == ("__classdict__" : Str)) = false := by decide) : PE X (.Name x pos) (tVar i) := pe_var hN hv hd hcd
end
noncomputable def Same (H H' : Hp) : Prop := ∀ b o, H b = some o → H' b = some o
theorem Same.refl (H : Hp) : Same H H := fun _ _ h => h
theorem Same.trans {H H1 H2 : Hp} (a : Same H H1) (b : Same H1 H2) : Same H H2 := fun c o h => b c o (a c o h)
theorem Same.free {H H' : Hp} (e : Same H H') {l : Addr} (h : H' l = Option.none) : H l = Option.none := by
  cases q : H l with
  | none => rfl
  | some o =>
    rw [e l o q] at h
    cases h
end L2
set_option maxHeartbeats 4000000
namespace L2
open PySem PySem.Spec PyProof.Rows
noncomputable def Bt (n : Nat) (x : Int) : Prop := x.natAbs < 2 ^ n
theorem Bt.mul {m n : Nat} {x y : Int} (h : Bt m x) (k : Bt n y) : Bt (m + n) (x * y) := by
  unfold Bt at *
  rw [Int.natAbs_mul, Nat.pow_add]
  exact Nat.mul_lt_mul'' h k
theorem Bt.add {m n : Nat} {x y : Int} (h : Bt m x) (k : Bt n y) : Bt (m + n + 1) (x + y) := by
  unfold Bt at *
  have h1 : 2 ^ m ≤ 2 ^ (m + n) := Nat.pow_le_pow_right (by decide) (by omega)
  have h2 : 2 ^ n ≤ 2 ^ (m + n) := Nat.pow_le_pow_right (by decide) (by omega)
  have h3 : 2 ^ (m + n + 1) = 2 * 2 ^ (m + n) := by rw [Nat.pow_succ]; omega
  have h4 := Int.natAbs_add_le x y
  omega
theorem Bt.of_lt {m : Nat} {x : Int} (h1 : -(2 ^ m) < x) (h2 : x < 2 ^ m) : Bt m x := by
  unfold Bt
  have e : ((2 ^ m : Nat) : Int) = 2 ^ m := by simp
  omega
theorem Bt.bits {m : Nat} {x : Int} (h : Bt m x) : Builtin.Int.intBits x ≤ m := by
  unfold Builtin.Int.intBits
  split
  · exact Nat.zero_le _
  · rename_i hx
    have hp : x.natAbs ≠ 0 := by
      intro e
      apply hx
      have : x = 0 := by omega
      subst this
      rfl
    have := (Nat.log2_lt hp).mpr h
    omega
theorem Bt.mulOk {m n : Nat} {x y : Int} (h : Bt m x) (k : Bt n y) (hmn : m + n ≤ 100000000 := by decide) : IntMulOk x y := by
  have h1 := h.bits
  have h2 := k.bits
  have h3 : Builtin.Int.intTooBig (Builtin.Int.intBits x + Builtin.Int.intBits y) = false := by
    unfold Builtin.Int.intTooBig bitsLine
    exact decide_eq_false (by omega)
  unfold IntMulOk
  rw [h3]
  simp
noncomputable def DivOk (_ j : Int) : Prop := j ≠ 0 ∧ j.natAbs.log2 < 9000
theorem DivOk.of {i j : Int} {n : Nat} (h0 : j ≠ 0) (h : Bt n j) (hn : n ≤ 9000 := by decide) : DivOk i j := by
  refine ⟨h0, ?_⟩
  have hp : j.natAbs ≠ 0 := by omega
  have := (Nat.log2_lt hp).mpr h
  omega
section
variable {X : Cx}
theorem op_mulG : OpR X (binaryOp .Mult) (rI IntMulOk fun i j => .int (i * j)) := opI fun _ _ _ _ _ _ _ hc q => mul_int q hc
theorem op_fdivG : OpR X (binaryOp .FloorDiv) (rI DivOk fun i j => .int (i.fdiv j)) := opI fun _ _ _ _ _ _ _ hc q => floordiv_int hc.1 q (.inl (PyProof.noPylong_of_log2 hc.2))
theorem op_powG : OpR X (binaryOp .Pow) (rI CPow fun i j => .int (i ^ j.toNat)) := op_pow
end
theorem compTurn_list' (elt target iter : Expr) (ifs : List Expr) (scope : Scope) (pos : Pos) (it acc : Value) (env : Env) :
    compTurn (.ListComp elt [⟨target, iter, ifs, 0⟩] scope pos) 0 it acc env = (standAt iter.pos >>= fun _ => pyNext it >>= fun r => match r with
      | none => pure (.done .next)
      | some v => letOwnedTupleGo target it v >>= fun _ => assign target env v >>= fun _ =>
        (forIn ifs true fun c r => if r = true then do let ok ← isTrue c env (eval c env); pure (ForInStep.yield ok) else pure (ForInStep.yield r)) >>= fun ok =>
          if ok = true then ((eval elt env >>= fun x => call (.builtin "list.append") [acc, x] >>= fun _ => pure ()) >>= fun _ =>
            again (.compLoop (.ListComp elt [⟨target, iter, ifs, 0⟩] scope pos) 0 it acc env))
          else again (.compLoop (.ListComp elt [⟨target, iter, ifs, 0⟩] scope pos) 0 it acc env)) := by rfl
end L2
namespace L2
open PySem PySem.Spec PyProof.Rows
theorem compLoop_any {prog : Program} {w : World} {A : Around} {R : Result → Shared → Prop} {s : Shared} {elt target iter : Expr} {ifs : List Expr} {scope : Scope} {pos : Pos} {it acc : Value} {env : Env} (I : Nat → Shared → Prop)
    (turn : ∀ n s, I n s → wpAny (model prog w) A (pyNext it) (fun r s₁ => match r with
      | none => R (.ok .next) s₁
      | some v => wpAny (model prog w) A (letOwnedTupleGo target it v) (fun _ s₁ => wpAny (model prog w) A (assign target env v) (fun _ s₂ =>
          wpAny (model prog w) A (forIn ifs true fun c r => if r = true then do let ok ← isTrue c env (eval c env); pure (ForInStep.yield ok) else pure (ForInStep.yield r)) (fun ok s₃ =>
            if ok = true then wpAny (model prog w) A (eval elt env) (fun x s₄ =>
              wpAny (model prog w) A (call (.builtin "list.append") [acc, x]) (fun _ s₅ => ∃ m, m < n ∧ I m s₅) (notedBy (model prog w) A env fun e s' => R (.error e) s') s₄) (notedBy (model prog w) A env fun e s' => R (.error e) s') s₃
            else ∃ m, m < n ∧ I m s₃) (notedBy (model prog w) A env fun e s' => R (.error e) s') s₂) (notedBy (model prog w) A env fun e s' => R (.error e) s') s₁) (notedBy (model prog w) A env fun e s' => R (.error e) s') s₁) (notedBy (model prog w) A env fun e s' => R (.error e) s') s)
    (n : Nat) (h : I n s) :
    codeAny (model prog w) A (.compLoop (.ListComp elt [⟨target, iter, ifs, 0⟩] scope pos) 0 it acc env) R s := by
  refine codeAny_loop rfl I (fun n s hI => ?_) n h
  show wpAny _ A ((compTurn (.ListComp elt [⟨target, iter, ifs, 0⟩] scope pos) 0 it acc env).onRaise (fun x => do noteFrame x env; theTreesLotGoes x)) _ _ s
  refine wpAny_noted ?_
  rw [compTurn_list']
  refine wpAny_bind (wpAny_standAt (wpAny_bind (wpAny_mono (turn n s hI) (fun r s₁ h₁ => ?_) fun _ _ h' => h')))
  cases r with
  | none => exact wpAny_pure h₁
  | some v =>
    refine wpAny_bind (wpAny_mono h₁ (fun _ s₂ h₂ => ?_) fun _ _ h' => h')
    refine wpAny_bind (wpAny_mono h₂ (fun _ s₂ h₂ => wpAny_bind (wpAny_mono h₂ (fun ok s₃ h₃ => ?_) fun _ _ h' => h')) fun _ _ h' => h')
    cases ok with
    | false => exact wpAny_pure ⟨rfl, h₃⟩
    | true =>
      exact wpAny_bind (wpAny_bind (wpAny_mono h₃ (fun x s₄ h₄ => wpAny_bind (wpAny_mono h₄ (fun _ s₅ h₅ => wpAny_pure (wpAny_pure ⟨rfl, h₅⟩)) fun _ _ h' => h')) fun _ _ h' => h'))
noncomputable def clOf (env : Env) : List (Str × NameKind) → List (Str × Addr) → List (Str × Addr)
  | [], acc => acc
  | (n, k) :: r, acc => if k == .free then clOf env r ((n, (env.cells.lookup n).getD 0) :: acc) else clOf env r acc
theorem forIn_cl {env : Env} : ∀ (names : List (Str × NameKind)) (acc : List (Str × Addr)), (∀ y ∈ names, y.2 = .free → ∃ c, env.cells.lookup y.1 = some c) →
    (forIn names acc (fun (y : Str × NameKind) cs => (if y.2 == .free then (cellOf env y.1 >>= fun c => pure (ForInStep.yield ((y.1, c) :: cs))) else pure (ForInStep.yield cs) : Sem (ForInStep (List (Str × Addr)))))) = pure (clOf env names acc)
  | [], acc, _ => by rw [List.forIn_nil]; rfl
  | (n, k) :: r, acc, h => by
    by_cases hk : k = .free
    · subst hk
      obtain ⟨c, hc⟩ := h (n, .free) (.head _) rfl
      have hc' : env.cells.lookup n = some c := hc
      have e := forIn_cl (env := env) r ((n, c) :: acc) fun y hy => h y (.tail _ hy)
      have ec : cellOf env n = pure c := by
        unfold cellOf
        rw [hc']
      rw [List.forIn_cons]
      simp only [beq_self_eq_true, if_true]
      rw [ec]
      simp only [clOf, beq_self_eq_true, if_true, hc', Option.getD_some]
      exact e
    · have e := forIn_cl (env := env) r acc fun y hy => h y (.tail _ hy)
      have hb : (k == NameKind.free) = false := by simpa using hk
      rw [List.forIn_cons]
      simp only [clOf, hb, Bool.false_eq_true, if_false]
      exact e
theorem closureFor_all {scope : Scope} {env : Env} (h : ∀ y ∈ scope.names, y.2 = .free → ∃ c, env.cells.lookup y.1 = some c) : closureFor scope env = pure (clOf env scope.names []) := by
  have e := forIn_cl scope.names [] h
  have e' : (forIn scope.names ([] : List (Str × Addr)) (fun (y : Str × NameKind) cs => (match y with | (name, kind) => do
      if kind == .free then do let a ← cellOf env name; pure (ForInStep.yield ((name, a) :: cs)) else pure (ForInStep.yield cs) : Sem (ForInStep (List (Str × Addr)))))) = pure (clOf env scope.names []) := e
  exact congrArg (fun (m : Sem (List (Str × Addr))) => m >>= fun x => pure x) e'
theorem clOf_mem {env : Env} : ∀ (names : List (Str × NameKind)) (acc : List (Str × Addr)), (∀ y ∈ names, y.2 = .free → ∃ c, env.cells.lookup y.1 = some c) →
    ∀ n c, (n, c) ∈ clOf env names acc → (n, c) ∈ acc ∨ ((n, NameKind.free) ∈ names ∧ env.cells.lookup n = some c)
  | [], acc, _, n, c, h => .inl h
  | (m, k) :: r, acc, h, n, c, hm => by
    by_cases hk : k = .free
    · subst hk
      obtain ⟨d, hd⟩ := h (m, .free) (.head _) rfl
      have hd' : env.cells.lookup m = some d := hd
      simp only [clOf, beq_self_eq_true, if_true, hd', Option.getD_some] at hm
      rcases clOf_mem r _ (fun y hy => h y (.tail _ hy)) n c hm with z | ⟨z1, z2⟩
      · rcases List.mem_cons.mp z with z | z
        · cases z; exact .inr ⟨.head _, hd'⟩
        · exact .inl z
      · exact .inr ⟨.tail _ z1, z2⟩
    · have hb : (k == NameKind.free) = false := by simpa using hk
      simp only [clOf, hb, Bool.false_eq_true, if_false] at hm
      refine (clOf_mem r _ (fun y hy => h y (.tail _ hy)) n c hm).imp id fun qz9 => ?_
      obtain ⟨z1, z2⟩ := qz9
      exact ⟨.tail _ z1, z2⟩
theorem clOf_old {env : Env} : ∀ (names : List (Str × NameKind)) (acc : List (Str × Addr)), ∀ p ∈ acc, p ∈ clOf env names acc
  | [], _, _, h => h
  | (m, k) :: r, acc, p, h => by
    unfold clOf
    split
    · exact clOf_old r _ p (.tail _ h)
    · exact clOf_old r _ p h
theorem clOf_has {env : Env} : ∀ (names : List (Str × NameKind)) (acc : List (Str × Addr)) (n : Str), (n, NameKind.free) ∈ names → ∃ c, (n, c) ∈ clOf env names acc
  | [], _, _, h => nomatch h
  | (m, k) :: r, acc, n, h => by
    rcases List.mem_cons.mp h with z | z
    · cases z
      exact ⟨_, by
        simp only [clOf, beq_self_eq_true, if_true]
        exact clOf_old _ _ _ (.head _)⟩
    · unfold clOf
      split
      · exact clOf_has r _ n z
      · exact clOf_has r _ n z
theorem clOf_apart {env : Env} (inj : ∀ x y c, env.cells.lookup x = some c → env.cells.lookup y = some c → x = y) : ∀ (names : List (Str × NameKind)) (acc : List (Str × Addr)),
    (∀ y ∈ names, y.2 = .free → ∃ c, env.cells.lookup y.1 = some c) → (names.map (·.1)).Nodup → (∀ p ∈ acc, env.cells.lookup p.1 = some p.2) → (∀ p ∈ acc, p.1 ∉ names.map (·.1)) → (acc.Pairwise fun x y => x.2 ≠ y.2) →
    (clOf env names acc).Pairwise fun x y => x.2 ≠ y.2
  | [], _, _, _, _, _, h => h
  | (m, k) :: r, acc, hf, hn, ha, hd, hp => by
    rw [List.map_cons, List.nodup_cons] at hn
    have hf' : ∀ y ∈ r, y.2 = .free → ∃ c, env.cells.lookup y.1 = some c := fun y hy => hf y (.tail _ hy)
    have hd' : ∀ p ∈ acc, p.1 ∉ r.map (·.1) := fun p hp z => hd p hp (by rw [List.map_cons]; exact .tail _ z)
    by_cases hk : k = .free
    · subst hk
      obtain ⟨d, hd0⟩ := hf (m, .free) (.head _) rfl
      have hd1 : env.cells.lookup m = some d := hd0
      simp only [clOf, beq_self_eq_true, if_true, hd1, Option.getD_some]
      refine clOf_apart inj r _ hf' hn.2 (fun p hp' => ?_) (fun p hp' => ?_) (List.pairwise_cons.mpr ⟨fun p hp' z => ?_, hp⟩)
      · rcases List.mem_cons.mp hp' with rfl | hp'
        · exact hd1
        · exact ha p hp'
      · rcases List.mem_cons.mp hp' with rfl | hp'
        · exact hn.1
        · exact hd' p hp'
      · have e : m = p.1 := inj m p.1 d hd1 (by rw [ha p hp', ← z])
        exact hd p hp' (by rw [List.map_cons, ← e]; exact .head _)
    · have hb : (k == NameKind.free) = false := by simpa using hk
      simp only [clOf, hb, Bool.false_eq_true, if_false]
      exact clOf_apart inj r _ hf' hn.2 ha hd' hp
structure BlockCells (h : Heap) (lo : Nat) (names : List (Str × NameKind)) (acc cs : List (Str × Addr)) : Prop where
  mem : ∀ n c, (n, c) ∈ cs → (n, c) ∈ acc ∨ (h.IsCell c none ∧ lo ≤ c ∧ (n, NameKind.cell) ∈ names)
  has : ∀ n, (n, NameKind.cell) ∈ names → ∃ c, (n, c) ∈ cs
  old : ∀ p ∈ acc, p ∈ cs
theorem blockCells : ∀ (names : List (Str × NameKind)) (h : Heap) (lo : Nat) (acc : List (Str × Addr)), lo ≤ h.objs.size → BlockCells (pushCells h names) lo names acc (cellsFrom h.objs.size names acc)
  | [], _, _, _, _ => ⟨fun _ _ m => .inl m, (fun _ m => nomatch m), fun _ m => m⟩
  | (name, kind) :: r, h, lo, acc, hlo => by
    by_cases hk : (kind == NameKind.cell) = true
    · have ek : kind = .cell := by simpa using hk
      subst ek
      have ih := blockCells r (h.push { cls := .type "cell", data := .cell none }) lo ((name, h.objs.size) :: acc) (by rw [Heap.size_push]; omega)
      rw [Heap.size_push] at ih
      have e1 : cellsFrom h.objs.size ((name, .cell) :: r) acc = cellsFrom (h.objs.size + 1) r ((name, h.objs.size) :: acc) := by
        rw [cellsFrom, if_pos hk]
      have e2 : pushCells h ((name, .cell) :: r) = pushCells (h.push { cls := .type "cell", data := .cell none }) r := by
        rw [pushCells, if_pos hk]
      rw [e1, e2]
      refine ⟨fun n c m => ?_, fun n m => ?_, fun p m => ih.old p (.tail _ m)⟩
      · rcases ih.mem n c m with z | ⟨z1, z2, z3⟩
        · rcases List.mem_cons.mp z with z | z
          · cases z
            exact .inr ⟨⟨_, pushCells_keeps _ _ _ _ (Heap.get?_push_size _ rfl), rfl⟩, hlo, .head _⟩
          · exact .inl z
        · exact .inr ⟨z1, z2, .tail _ z3⟩
      · rcases List.mem_cons.mp m with z | z
        · cases z
          exact ⟨_, ih.old _ (.head _)⟩
        · exact ih.has n z
    · have ih := blockCells r h lo acc hlo
      have e1 : cellsFrom h.objs.size ((name, kind) :: r) acc = cellsFrom h.objs.size r acc := by
        rw [cellsFrom, if_neg hk]
      have e2 : pushCells h ((name, kind) :: r) = pushCells h r := by
        rw [pushCells, if_neg hk]
      rw [e1, e2]
      refine ⟨fun n c m => (ih.mem n c m).imp id fun ⟨z1, z2, z3⟩ => ⟨z1, z2, .tail _ z3⟩, fun n m => ?_, ih.old⟩
      rcases List.mem_cons.mp m with z | z
      · cases z
        exact absurd rfl hk
      · exact ih.has n z
theorem cellsFrom_apart (names : List (Str × NameKind)) : ∀ (h : Heap) (acc : List (Str × Addr)), (acc.Pairwise fun x y => x.2 ≠ y.2) → (∀ p ∈ acc, p.2 < h.objs.size) → (cellsFrom h.objs.size names acc).Pairwise fun x y => x.2 ≠ y.2 := by
  induction names with
  | nil => intro h acc ha _; exact ha
  | cons y r ih =>
    intro h acc ha hb
    obtain ⟨name, kind⟩ := y
    unfold cellsFrom
    split
    · have := ih (h.push { cls := .type "cell", data := .cell none }) ((name, h.objs.size) :: acc) (List.pairwise_cons.mpr ⟨fun p hp => Nat.ne_of_gt (hb p hp), ha⟩) (fun p hp => by
        rw [Heap.size_push]
        rcases List.mem_cons.mp hp with rfl | hp
        · exact Nat.lt_succ_self _
        · exact Nat.lt_succ_of_lt (hb p hp))
      rwa [Heap.size_push] at this
    · exact ih h acc ha hb
theorem wpAny_blockEnv {M : Model} {A : Around} {E : Value → Shared → Prop} {s : Shared} {scope : Scope} {globals : Addr} {cl : List (Str × Addr)} {qual : Str} {env : Env} {Q : Env → Shared → Prop}
    (hQ : Q (newEnv scope s.heap.objs.size globals (cellsFrom (s.heap.objs.size + 1) scope.names cl) qual none .none (some env) builtinsNs)
      { s with heap := pushCells (s.heap.push { cls := .type "dict", data := .dict #[] }) scope.names }) :
    wpAny M A (newFunctionEnv scope globals cl [] qual none .none (some env)) Q E s := by
  simp only [newFunctionEnv, Option.isSome_some, if_true]
  refine wpAny_bind (wpAny_alloc ?_)
  refine wpAny_bind (wpAny_layCells _ (fun name kind cells => by cases hkc : kind == NameKind.cell <;> simp [hkc]) _ _ _ _ ?_)
  rw [show ({ s with heap := s.heap.push { cls := .type "dict", data := .dict #[] } } : Shared).heap.objs.size = s.heap.objs.size + 1 from Heap.size_push ..]
  rw [List.forIn_nil]
  exact wpAny_bind (wpAny_pure (wpAny_pure hQ))
end L2
namespace L2
open PySem PySem.Spec PyProof.Rows
noncomputable def compCx (X : Cx) (N' : List Str) (sc : Scope) (C : Addr) (cells : List (Str × Addr)) (s₂ : Shared) (H₂ : Hp) (fp : List Addr) : Cx :=
  { X with N := N', s₀ := s₂, H₀ := H₂, env := compEnvC sc cells C X.env, outer := X.stack, stack := X.stack, ex := fp, fn := fun x => sc.names.lookup x == some .cell, pn := [], xe := fun _ _ => False }
theorem lookup_relabel {env : Env} : ∀ {names : List (Str × NameKind)} {x : Str} {k : NameKind}, names.lookup x = some k →
    (names.map fun (n, k) => if (k == NameKind.free && env.scope.kind == .function && env.kindOf n == some .cell) then (n, NameKind.cell) else (n, k)).lookup x =
      some (if (k == NameKind.free && env.scope.kind == .function && env.kindOf x == some .cell) then NameKind.cell else k)
  | [], _, _, h => by simp at h
  | (n, k') :: r, x, k, h => by
    have ih := @lookup_relabel env r x k
    show List.lookup x ((if (k' == NameKind.free && env.scope.kind == .function && env.kindOf n == some .cell) = true then (n, NameKind.cell) else (n, k')) :: _) = _
    cases hx : x == n with
    | true =>
      simp only [List.lookup_cons, hx] at h
      cases h
      have e := beq_iff_eq.mp hx
      subst e
      split <;> simp [List.lookup_cons]
    | false =>
      simp only [List.lookup_cons, hx] at h
      split
      · simp only [List.lookup_cons, hx]; exact ih h
      · simp only [List.lookup_cons, hx]; exact ih h
theorem relabel_none {env : Env} : ∀ {names : List (Str × NameKind)} {x : Str}, names.lookup x = none →
    (names.map fun (n, k) => if (k == NameKind.free && env.scope.kind == .function && env.kindOf n == some .cell) then (n, NameKind.cell) else (n, k)).lookup x = none
  | [], _, _ => rfl
  | (n, k') :: r, x, h => by
    have ih := @relabel_none env r x
    show List.lookup x ((if (k' == NameKind.free && env.scope.kind == .function && env.kindOf n == some .cell) = true then (n, NameKind.cell) else (n, k')) :: _) = _
    cases hx : x == n with
    | true =>
      simp only [List.lookup_cons, hx] at h
      cases h
    | false =>
      simp only [List.lookup_cons, hx] at h
      split
      · simp only [List.lookup_cons, hx]; exact ih h
      · simp only [List.lookup_cons, hx]; exact ih h
theorem lookup_of_mem {α : Type} : ∀ {l : List (Str × α)} {n : Str} {c : α}, (l.map (·.1)).Nodup → (n, c) ∈ l → l.lookup n = some c
  | (k, v) :: r, n, c, hd, h => by
    rw [List.map_cons, List.nodup_cons] at hd
    rcases List.mem_cons.mp h with e | hr
    · cases e
      simp [List.lookup_cons]
    · have hne : (n == k) = false := by
        refine Bool.eq_false_iff.mpr fun z => hd.1 ?_
        have e : n = k := beq_iff_eq.mp z
        rw [← e]
        exact List.mem_map.mpr ⟨(n, c), hr, rfl⟩
      rw [List.lookup_cons, hne]
      exact lookup_of_mem hd.2 hr
theorem lookup_some_of_mem {α : Type} : ∀ {l : List (Str × α)} {n : Str} {c : α}, (n, c) ∈ l → ∃ d, l.lookup n = some d ∧ (n, d) ∈ l
  | (k, v) :: r, n, c, h => by
    by_cases e : n = k
    · subst e
      exact ⟨v, by simp [List.lookup_cons], List.mem_cons_self⟩
    · have hne : (n == k) = false := by simpa using e
      rcases List.mem_cons.mp h with z | z
      · cases z; exact absurd rfl e
      · obtain ⟨d, h1, h2⟩ := lookup_some_of_mem z
        exact ⟨d, by rw [List.lookup_cons, hne]; exact h1, .tail _ h2⟩
structure CompScope (X : Cx) (own : List Str) (caps : List Nat) (N' : List Str) (sc : Scope) : Prop where
  kind : sc.kind = .function
  nd : N'.Nodup
  names : N' = own ++ caps.map fun i => X.N.getD i Str.empty
  nn : (sc.names.map (·.1)).Nodup
  free : (sc.names.all fun y => y.2 != .free || (X.env.kindOf y.1 == some .cell || X.env.kindOf y.1 == some .free)) = true
  caps : (caps.all fun i => sc.names.lookup (X.N.getD i Str.empty) == some .free) = true
noncomputable def start' (own : List Str) (caps : List Nat) (σ : St) : St := own.map (fun _ => none) ++ caps.map fun i => (σ[i]?).getD none
section
variable {X : Cx} {own : List Str} {caps : List Nat} {N' : List Str} {sc : Scope}
theorem CompScope.lk (S : CompScope X own caps N' sc) {n : Str} {k : NameKind} (h : (n, k) ∈ sc.names) : sc.names.lookup n = some k := lookup_of_mem S.nn h
theorem CompScope.fr (S : CompScope X own caps N' sc) {n : Str} (h : (n, NameKind.free) ∈ sc.names) : X.env.kindOf n = some .cell ∨ X.env.kindOf n = some .free := by
  have := List.all_eq_true.mp S.free _ h
  simpa using this
theorem comp_start {pins : List (Addr × Obj)} {σ : St} {H : Hp} {s : Shared} {fp : List Addr} {cl : List (Str × Addr)} (S : CompScope X own caps N' sc) (I : Inv X pins σ H s)
    (f : ∀ b ∈ fp, FpOk X pins H b) (fo : ∀ b ∈ fp, ∃ o, s.heap.get? b = some o)
    (hcl : ∀ n c, (n, c) ∈ cl → (n, NameKind.free) ∈ sc.names ∧ X.env.cells.lookup n = some c) (hcl2 : ∀ n, (n, NameKind.free) ∈ sc.names → ∃ c, (n, c) ∈ cl) (hapart : cl.Pairwise fun x y => x.2 ≠ y.2) :
    Inv (compCx X N' sc (s.heap.objs.size + 1) (cellsFrom (s.heap.objs.size + 2) sc.names cl) s H fp) [] (start' own caps σ) (upd H s.heap.objs.size (.lst []))
      { s with heap := pushCells ((s.heap.push { cls := .type "list", data := .seq #[] }).push { cls := .type "dict", data := .dict #[] }) sc.names } := by
  generalize hh1 : s.heap.push { cls := .type "list", data := .seq #[] } = h1
  have z1 : h1.objs.size = s.heap.objs.size + 1 := by rw [← hh1, Heap.size_push]
  generalize hh2 : h1.push { cls := .type "dict", data := .dict #[] } = h2
  have z2 : h2.objs.size = s.heap.objs.size + 2 := by rw [← hh2, Heap.size_push, z1]
  have BC := blockCells sc.names h2 (s.heap.objs.size + 2) cl (by omega)
  have AP := cellsFrom_apart sc.names h2 cl hapart (fun p hp => by
    obtain ⟨v, hv⟩ := I.cell p.1 p.2 (hcl p.1 p.2 hp).2
    exact Nat.lt_of_lt_of_le hv.lt (by omega))
  rw [z2] at BC AP
  have keep : ∀ b o, s.heap.get? b = some o → (pushCells h2 sc.names).get? b = some o := fun b o e => pushCells_keeps _ _ _ _ (by
    rw [← hh2]
    refine Heap.get?_push_of_some _ ?_
    rw [← hh1]
    exact Heap.get?_push_of_some _ e)
  have hD : (pushCells h2 sc.names).get? s.heap.objs.size = some { cls := .type "list", data := .seq #[] } := pushCells_keeps _ _ _ _ (by
    rw [← hh2]
    refine Heap.get?_push_of_some _ ?_
    rw [← hh1]
    exact Heap.get?_push_size _ rfl)
  have hC : (pushCells h2 sc.names).Ns (s.heap.objs.size + 1) (fun _ => none) := by
    refine Heap.Ns.keeps ?_ (pushCells_keeps _ _)
    have := Heap.Ns.new h1 (.type "dict")
    rw [hh2, z1] at this
    exact this
  have cellOld : ∀ n c, X.env.cells.lookup n = some c → c < s.heap.objs.size := fun n c e => by
    obtain ⟨v, hv⟩ := I.cell n c e
    exact hv.lt
  have lk' : ∀ n c, (cellsFrom (s.heap.objs.size + 2) sc.names cl).lookup n = some c → (n, c) ∈ cellsFrom (s.heap.objs.size + 2) sc.names cl := fun n c e => PySem.mem_of_lookup e
  have hnD : H s.heap.objs.size = none := I.fresh
  have fresh : ∀ c, s.heap.objs.size < c → upd H s.heap.objs.size (.lst []) c = none := fun c hc => by
    rw [upd_ne (Nat.ne_of_gt hc)]
    exact I.hok.fresh (Nat.le_of_lt hc)
  have isc : ∀ n c, (n, c) ∈ cellsFrom (s.heap.objs.size + 2) sc.names cl → ∃ v, (pushCells h2 sc.names).IsCell c v := fun n c m => by
    rcases BC.mem n c m with z | ⟨z, _⟩
    · obtain ⟨v, hv⟩ := I.cell n c (hcl n c z).2
      exact ⟨v, hv.keeps keep⟩
    · exact ⟨none, z⟩
  have okH : HOk X.prog X.w (upd H s.heap.objs.size (.lst [])) (pushCells h2 sc.names) := by
    refine I.hok.laid keep (Nat.le_refl _) ?_
    exact ⟨Nat.zero_le _, [], 0, .nil, hD⟩
  have kinds : ∀ x k, sc.names.lookup x = some k → (relabel sc X.env).names.lookup x = some (if (k == NameKind.free && X.env.scope.kind == .function && X.env.kindOf x == some .cell) then NameKind.cell else k) := fun x k e => lookup_relabel e
  have kindsR : ∀ x k, (relabel sc X.env).names.lookup x = some k → ∃ k', (x, k') ∈ sc.names ∧ k = (if (k' == NameKind.free && X.env.scope.kind == .function && X.env.kindOf x == some .cell) then NameKind.cell else k') := fun x k e => by
    cases q : sc.names.lookup x with
    | none =>
      have := relabel_none (env := X.env) q
      rw [show (relabel sc X.env).names.lookup x = _ from this] at e
      cases e
    | some k' =>
      refine ⟨k', PySem.mem_of_lookup q, ?_⟩
      rw [kinds x k' q] at e
      exact (Option.some.inj e).symm
  refine ⟨⟨I.ok.mod, S.kind, I.ok.glob, I.ok.blt, ?_, ?_, ?_, ?_, I.ok.hd, I.ok.frames, .inl rfl, ?_, ?_, ?_, ?_, ?_, ?_, ?_⟩, rfl, I.bare, ?_, ?_, ?_, ?_, ?_, (fun p hp => nomatch hp), okH, ?_⟩
  · show s.heap.objs.size ≤ s.heap.objs.size + 1; omega
  · intro x y c e1 e2
    exact name_of_addr AP (lk' x c e1) (lk' y c e2)
  · intro x hx
    rcases hx with hx | hx
    · obtain ⟨k', hm, hk'⟩ := kindsR x _ hx
      cases k' with
      | cell =>
        obtain ⟨c, hc⟩ := BC.has x hm
        obtain ⟨d, h1, _⟩ := lookup_some_of_mem hc
        exact ⟨d, h1⟩
      | free =>
        obtain ⟨c, hc⟩ := hcl2 _ hm
        obtain ⟨d, h1, _⟩ := lookup_some_of_mem (BC.old _ hc)
        exact ⟨d, h1⟩
      | _ => simp at hk'
    · obtain ⟨k', hm, hk'⟩ := kindsR x _ hx
      cases k' with
      | free =>
        obtain ⟨c, hc⟩ := hcl2 _ hm
        obtain ⟨d, h1, _⟩ := lookup_some_of_mem (BC.old _ hc)
        exact ⟨d, h1⟩
      | _ => simp at hk'
  · intro x c hf e
    have hf' : sc.names.lookup x = some .cell := by simpa [compCx] using hf
    rcases BC.mem x c (lk' x c e) with z | ⟨_, z, _⟩
    · -- a free one and a cell at once: the name stands once
      exfalso
      have q := S.lk (hcl x c z).1
      rw [hf'] at q
      cases q
    · show s.heap.objs.size ≤ c; omega
  · intro b hb
    obtain ⟨o, ho⟩ := fo b hb
    have hlt := Heap.lt_size ho
    refine ⟨Nat.ne_of_lt (Nat.lt_trans hlt (Nat.lt_succ_self _)), fun x c e z => ?_⟩
    rcases BC.mem x c (lk' x c e) with q | ⟨_, q, _⟩
    · exact (f b hb).2.2.2.2.1 x c (hcl x c q).2 z
    · subst z
      exact absurd hlt (Nat.not_lt.mpr (Nat.le_trans (Nat.le_add_right _ 2) q))
  · exact I.bs
  · exact Nat.le_trans I.ok.bsz I.sz
  · intro b o e hb
    rcases (f b hb).2.2.2.1 with z | z
    · exact I.ok.noex b o e z
    · exact absurd (Nat.lt_of_lt_of_le (Heap.lt_size e) I.ok.bsz) (Nat.not_lt.mpr z)
  · intro b hb z
    rcases List.mem_cons.mp (I.stkSub b z) with q | q
    · exact (f b hb).2.1 q
    · exact (f b hb).2.2.1 q
  · exact I.stack
  · exact I.stkFree
  · exact Un.laid keep (Nat.le_refl _) hnD
  · refine ⟨_, hC, fun i x v e1 e2 e3 => ?_⟩
    have e1' : (own ++ caps.map fun i => X.N.getD i Str.empty)[i]? = some x := by rw [← S.names]; exact e1
    have e2' : (own.map (fun _ => (none : Option V)) ++ caps.map fun i => (σ[i]?).getD none)[i]? = some (some v) := e2
    by_cases hi : i < own.length
    · rw [List.getElem?_append_left (by simpa using hi), List.getElem?_map] at e2'
      cases q : own[i]? with
      | none => rw [q] at e2'; cases e2'
      | some y => rw [q] at e2'; cases e2'
    · rw [List.getElem?_append_right (by simpa using hi), List.getElem?_map] at e2'
      rw [List.getElem?_append_right (by omega), List.getElem?_map] at e1'
      rw [List.length_map] at e2'
      cases q : caps[i - own.length]? with
      | none => rw [q] at e2'; cases e2'
      | some j =>
        rw [q] at e1' e2'
        have e1 : X.N.getD j Str.empty = x := Option.some.inj e1'
        have e2 : (σ[j]?).getD none = some v := Option.some.inj e2'
        have e4 : σ[j]? = some (some v) := by
          cases r : σ[j]? with
          | none => rw [r] at e2; cases e2
          | some o => rw [r] at e2; exact congrArg some e2
        have hj : j < X.N.length := by rw [← I.len]; exact (List.getElem?_eq_some_iff.mp e4).1
        have e5 : X.N[j]? = some x := by rw [← e1]; simp [List.getD_eq_getElem?_getD, hj]
        have hc := List.all_eq_true.mp S.caps j (List.mem_of_getElem? q)
        have e6 : sc.names.lookup x = some .free := by rw [← e1]; simpa using hc
        have hm := PySem.mem_of_lookup e6
        have kx := S.fr hm
        obtain ⟨m, hn, hl⟩ := I.loc
        obtain ⟨u, ru, lo⟩ := hl j x v e5 e4 (by rcases kx with z | z; exact .inr (.inl z); exact .inr (.inr z))
        refine ⟨u, ru, .inr ⟨?_, ?_⟩⟩
        · have := kinds x _ e6
          show (relabel sc X.env).names.lookup x = _ ∨ (relabel sc X.env).names.lookup x = _
          rw [this]
          split
          · exact .inl rfl
          · exact .inr rfl
        · rcases lo with ⟨z, _⟩ | ⟨_, c, hc1, hc2⟩
          · rcases kx with w | w <;> (rw [w] at z; cases z)
          · obtain ⟨d, hd⟩ := hcl2 x hm
            obtain ⟨d', h1, h2⟩ := lookup_some_of_mem (BC.old _ hd)
            refine ⟨d', h1, ?_⟩
            rcases BC.mem x d' h2 with w | ⟨_, _, w⟩
            · have w' := (hcl x d' w).2
              rw [hc1] at w'
              cases w'
              exact hc2.keeps keep
            · have := S.lk w
              rw [e6] at this
              cases this
  · intro x c e
    exact isc x c (lk' x c e)
  · exact fresh _ (Nat.lt_succ_self _)
  · intro x c e
    rcases BC.mem x c (lk' x c e) with z | ⟨_, z, _⟩
    · have e' := (hcl x c z).2
      have hlt := cellOld x c e'
      rw [upd_ne (Nat.ne_of_lt hlt)]
      exact I.freeC x c e'
    · exact fresh c (by omega)
  · show (start' own caps σ).length = N'.length
    rw [S.names]
    unfold start'
    simp
end
end L2
namespace L2
open PySem PySem.Spec PyProof.Rows
noncomputable def cLoop (J : It) (g : TG) (tt : TT) (te : TE) (σ0 : St) (D : Addr) (Q : Hp → Prop) (H1 : Hp) : Prop :=
  ∃ W : Nat → Nat → St → Hp → Prop, (∃ m, W 0 m σ0 (upd H1 D (.lst []))) ∧ ∀ i m σ' H', W i m σ' H' →
    (J.stop i H' ∧ Q H') ∨ (J.go i H' ∧ ∀ x H2, J.yld i H' x H2 → g x σ' H2 fun σ2 H3 => tt σ2 H3 fun b H4 =>
      if b = true then te σ2 H4 fun y H5 => ∃ ys, H5 D = some (.lst ys) ∧ ys.length < sizeLine ∧ ∃ m', m' < m ∧ W (i + 1) m' σ2 (upd H5 D (.lst (ys ++ [y])))
      else ∃ m', m' < m ∧ W (i + 1) m' σ2 H4)
noncomputable def tComp (own : List Str) (caps : List Nat) (wi : TI) (g : TG) (tt : TT) (te : TE) : TE := fun σ H Q => wi σ H fun J H1 => ∀ D, H1 D = none → cLoop J g tt te (start' own caps σ) D (Q (.ref D)) H1
noncomputable def tTrue : TT := fun _ H Q => Q true H
noncomputable def PIfs (X : Cx) (ifs : List Expr) (t : TT) : Prop :=
  ∀ (pins : List (Addr × Obj)) (s : Shared) (σ : St) (H : Hp) (Q : Bool → Hp → Prop), Inv X pins σ H s → t σ H Q →
    wpAny (model X.prog X.w) X.A (forIn ifs true fun c r => if r = true then do let ok ← isTrue c X.env (eval c X.env); pure (ForInStep.yield ok) else pure (ForInStep.yield r)) (TP X pins σ Q) X.xe s
theorem pif_nil {X : Cx} : PIfs X [] tTrue := fun pins s σ H Q I h => by
  rw [List.forIn_nil]
  exact wpAny_pure ⟨H, I, h⟩
theorem pif_one {X : Cx} {c : Expr} {t : TT} (h : PT X c t) : PIfs X [c] t := fun pins s σ H Q I q => wpAny_tests_one (h pins s σ H Q I q)
theorem noXe {M : Model} {A : Around} {α : Type} {t : Sem α} {Q Q' : α → Shared → Prop} {E : Value → Shared → Prop} {s : Shared} (h : wpAny M A t Q (fun _ _ => False) s) (hQ : ∀ a s, Q a s → Q' a s) : wpAny M A t Q' E s :=
  wpAny_mono h hQ fun _ _ z => z.elim
section
variable {X : Cx} {own : List Str} {caps : List Nat} {N' : List Str} {sc : Scope} {tg elt iter : Expr} {ifs : List Expr} {pos : Pos} {wi : TI} {g : TG} {tt : TT} {te : TE}
theorem comp_end {pins p' : List (Addr × Obj)} {σ σ' : St} {H H' : Hp} {s s' : Shared} {fp : List Addr} {C : Addr} {cells : List (Str × Addr)} {h' : Heap} (I : Inv X pins σ H s) (f : ∀ b ∈ fp, FpOk X pins H b)
    (I' : Inv (compCx X N' sc C cells s H fp) p' σ' H' s') (hs : Heap.SameBut C s'.heap h') : Inv X pins σ H' { s' with heap := h' } := by
  have hC : s.heap.objs.size ≤ C := I'.ok.above
  have B := I'.base
  have ne : ∀ b o, s.heap.get? b = some o → b ≠ C := fun b o e => Nat.ne_of_lt (Nat.lt_of_lt_of_le (Heap.lt_size e) hC)
  obtain ⟨m, ⟨oC, _, _, hoC, _⟩, _⟩ := I'.loc
  refine I.call' (ch := fp) (s' := { s' with heap := h' }) I'.os ⟨fun b o e n hb hx => ?_, fun b o e n hb hx => ?_, B.free, fun b o e hx => ?_, B.tups, B.frzs, B.tbls⟩ (fun b ob e => ?_) I'.bare fun b hb => ?_
  · exact (hs.2 b (ne b o e)).trans (B.keep b o e n hb hx)
  · obtain ⟨sl, q⟩ := B.slot b o e n hb hx
    exact ⟨sl, (hs.2 b (ne b o e)).trans q⟩
  · obtain ⟨o', q⟩ := B.there b o e hx
    exact ⟨o', (hs.2 b (ne b o e)).trans q⟩
  · have hfree : H' C = none := I'.free
    refine (I'.hok b ob e).stay (fun c w' hc q => (hs.2 c ?_).trans q) (fun _ q => q) fun _ _ q => q
    rintro rfl
    rcases hc with rfl | hc
    · rw [hfree] at e; cases e
    · rw [hfree] at hc; cases hc
  · obtain ⟨_, f1, _, f3, f4, f5⟩ := f b hb
    exact ⟨f3, f1, f4, f5⟩
theorem comp_block {Qf : Result → Shared → Prop} (S : CompScope X own caps N' sc) (hc : X.calm = true)
    (hg : ∀ C cells s₂ H₂ fp, PG (compCx X N' sc C cells s₂ H₂ fp) tg g) (ht : ∀ C cells s₂ H₂ fp, PIfs (compCx X N' sc C cells s₂ H₂ fp) ifs tt) (he : ∀ C cells s₂ H₂ fp, PE (compCx X N' sc C cells s₂ H₂ fp) elt te)
    {pins : List (Addr × Obj)} {σ : St} {H : Hp} {s : Shared} {fp : List Addr} {it : Addr} {tn : Nat → Heap → Prop} {J : It} {Q : Hp → Prop} (I : Inv X pins σ H s) (T : Turn X.prog X.w X.K tg J fp it tn) (st : tn 0 s.heap) (f : ∀ b ∈ fp, FpOk X pins H b)
    (h : cLoop J g tt te (start' own caps σ) s.heap.objs.size Q H)
    (fin : ∀ s' σ' H' p' C cells, Inv (compCx X N' sc C cells s H fp) p' σ' H' s' → C = s.heap.objs.size + 1 → Q H' → Qf (.ok .next) s') :
    wpAny (model X.prog X.w) X.A (newFunctionEnv sc X.env.globals (clOf X.env sc.names []) [] X.env.qual none .none (some X.env)) (fun cenv s₄ =>
      cenv.locals = s.heap.objs.size + 1 ∧ codeAny (model X.prog X.w) X.A (.compStart (.ListComp elt [⟨tg, iter, ifs, 0⟩] sc pos) 0 (.ref it) (.ref s.heap.objs.size) { cenv with scope := relabel sc X.env }) Qf s₄) X.xe
        { s with heap := s.heap.push { cls := .type "list", data := .seq #[] } } := by
  have hf : ∀ y ∈ sc.names, y.2 = .free → ∃ c, X.env.cells.lookup y.1 = some c := fun y hy e => by
    obtain ⟨n, k⟩ := y
    have e' : k = .free := e
    subst e'
    exact I.ok.has n (S.fr hy)
  have hcl : ∀ n c, (n, c) ∈ clOf X.env sc.names [] → (n, NameKind.free) ∈ sc.names ∧ X.env.cells.lookup n = some c := fun n c m => (clOf_mem sc.names [] hf n c m).elim (fun z => nomatch z) id
  have hap := clOf_apart I.ok.inj sc.names [] hf S.nn (fun _ z => nomatch z) (fun _ z => nomatch z) .nil
  have I0 := comp_start (cl := clOf X.env sc.names []) S I f (fun b hb => let ⟨o, e, _⟩ := T.obj _ _ st b hb; ⟨o, e⟩) hcl (fun n m => clOf_has sc.names [] n m) hap
  refine wpAny_blockEnv ?_
  rw [show ({ s with heap := s.heap.push { cls := .type "list", data := .seq #[] } } : Shared).heap.objs.size = s.heap.objs.size + 1 from Heap.size_push ..]
  refine ⟨rfl, ?_⟩
  dsimp only
  generalize hs0 : ({ s with heap := pushCells ((s.heap.push { cls := .type "list", data := .seq #[] }).push { cls := .type "dict", data := .dict #[] }) sc.names } : Shared) = s0 at I0 ⊢
  have st0 : tn 0 s0.heap := T.keep _ _ _ st fun b hb o e => by
    rw [← hs0]
    exact pushCells_keeps _ _ _ _ (Heap.get?_push_of_some _ (Heap.get?_push_of_some _ e))
  generalize hcells : cellsFrom (s.heap.objs.size + 1 + 1) sc.names (clOf X.env sc.names []) = cells at I0 ⊢
  -- the loop
  obtain ⟨W, ⟨m0, w0⟩, turn⟩ := h
  have loop : codeAny (model X.prog X.w) X.A (.compLoop (.ListComp elt [⟨tg, iter, ifs, 0⟩] sc pos) 0 (.ref it) (.ref s.heap.objs.size) (compCx X N' sc (s.heap.objs.size + 1) cells s H fp).env) Qf s0 := by
    generalize hX' : compCx X N' sc (s.heap.objs.size + 1) cells s H fp = X' at I0 ⊢
    have hg' := hg (s.heap.objs.size + 1) cells s H fp
    have ht' := ht (s.heap.objs.size + 1) cells s H fp
    have he' := he (s.heap.objs.size + 1) cells s H fp
    have fin' := fun s' σ' H' p' (z : Inv (compCx X N' sc (s.heap.objs.size + 1) cells s H fp) p' σ' H' s') => fin s' σ' H' p' _ _ z rfl
    rw [hX'] at hg' ht' he' fin'
    have hxe : X'.xe = fun _ _ => False := by rw [← hX']; rfl
    have hpr : X'.prog = X.prog := by rw [← hX']; rfl
    have hw : X'.w = X.w := by rw [← hX']; rfl
    have hK : X'.K = X.K := by rw [← hX']; rfl
    have hA : X'.A = X.A := by rw [← hX']; rfl
    have hcm : X'.calm = true := by rw [← hX']; exact hc
    have hex : X'.ex = fp := by rw [← hX']; rfl
    have hpn : X'.pn = [] := by rw [← hX']; rfl
    have stat : ∀ {H' : Hp}, (∀ b ∈ fp, H' b = none) → ∀ b ∈ fp, FpOk X' [] H' b := fun hn b hb => by
      have e1 := I0.ok.exf b (by rw [hex]; exact hb)
      have e2 := I0.ok.exfs b (by rw [hex]; exact hb)
      exact ⟨hn b hb, e1.1, e2, .inl (by rw [hex]; exact hb), e1.2, fun p hp => by rw [hpn] at hp; exact nomatch hp⟩
    have frD : ∀ b ∈ fp, (upd H s.heap.objs.size (.lst [])) b = none := fun b hb => by
      obtain ⟨o, e, _⟩ := T.obj _ _ st b hb
      rw [upd_ne (Nat.ne_of_lt (Heap.lt_size e))]
      exact (f b hb).1
    have T' : Turn X'.prog X'.w X'.K tg J fp it tn := by rw [hpr, hw, hK]; exact T
    rw [← hpr, ← hw, ← hA]
    refine compLoop_any (fun n s' => ∃ i σ' H', Inv X' [] σ' H' s' ∧ tn i s'.heap ∧ (∀ b ∈ fp, H' b = none) ∧ W i n σ' H') ?_ m0 ⟨0, _, _, I0, st0, frD, w0⟩
    rintro n s3 ⟨i, σ3, H3, I3, st3, fr3, w3⟩
    rcases turn i n σ3 H3 w3 with ⟨stop, qn⟩ | ⟨go, step⟩
    · refine noXe (T'.done X' rfl rfl rfl hcm i [] s3 σ3 H3 _ I3 (stat fr3) st3 stop) fun r s4 qz9 => ?_
      obtain ⟨hr, I4⟩ := qz9
      subst hr
      exact fin' s4 σ3 H3 [] I4 qn
    · refine noXe (T'.item X' rfl rfl rfl hcm i [] s3 σ3 H3 _ I3 (stat fr3) st3 go) fun r s4 qz9 => ?_
      obtain ⟨u, hr, h4⟩ := qz9
      subst hr
      refine noXe h4 fun _ s5 qz9 => ?_
      obtain ⟨x, H5, I5, r5, y5, st5, fr5⟩ := qz9
      have I5' := I5.pinned (stat fr5) (T.obj _ _ st5)
      have hgg := hg' _ s5 σ3 H5 x u _ I5' r5 (step x H5 y5)
      rw [hxe] at hgg
      refine noXe hgg fun _ s6 qz9 => ?_
      obtain ⟨σ6, H6, I6, q6⟩ := qz9
      have htt := ht' _ s6 σ6 H6 _ I6 q6
      rw [hxe] at htt
      refine noXe htt fun ok s7 qz9 => ?_
      obtain ⟨H7, I7, q7⟩ := qz9
      have again : ∀ {σ7 : St} {H7 : Hp} {s7 : Shared} {m : Nat}, Inv X' ([] ++ pinsAt fp s5.heap) σ7 H7 s7 → W (i + 1) m σ7 H7 → m < n → ∃ m, m < n ∧ ∃ i σ' H', Inv X' [] σ' H' s7 ∧ tn i s7.heap ∧ (∀ b ∈ fp, H' b = none) ∧ W i m σ' H' := fun {σ7 H7 s7 m} I7 w7 hm => by
        refine ⟨m, hm, i + 1, σ7, H7, I7.unpinned, T.keep _ _ _ st5 fun b hb o e => (I7.pin (b, o) (List.mem_append_right _ (List.mem_append_right _ (mem_pinsAt hb e)))).1, fun b hb => ?_, w7⟩
        obtain ⟨o, e, d⟩ := T.obj _ _ st5 b hb
        exact (I7.pin (b, o) (List.mem_append_right _ (List.mem_append_right _ (mem_pinsAt hb e)))).2.1
      cases ok with
      | false =>
        obtain ⟨m', hm, w7⟩ := q7
        rw [if_neg Bool.false_ne_true]
        exact again I7 w7 hm
      | true =>
        rw [if_pos rfl]
        have hee := he' _ s7 σ6 H7 _ I7 q7
        rw [hxe] at hee
        refine noXe hee fun y s8 qz9 => ?_
        obtain ⟨vy, H8, I8, r8, ys, hD, hlen, m', hm, w8⟩ := qz9
        have hap := mt_append (X := X') _ s8 σ6 H8 (.ref s.heap.objs.size) [vy] (.ref s.heap.objs.size) [y] (fun _ H' => W (i + 1) m' σ6 H') I8 rfl (.cons r8 .nil) ⟨_, ys, vy, rfl, rfl, hD, hlen, w8⟩
        rw [hxe] at hap
        refine noXe hap fun z s9 qz9 => ?_
        obtain ⟨_, H9, I9, _, w9⟩ := qz9
        exact again I9 w9 hm
  exact codeAny_compStart_list loop (T.self _ 0 _ _ _ st0 loop)
theorem pe_comp (S : CompScope X own caps N' sc) (hc : X.calm = true) (hi : PI X tg iter wi)
    (hg : ∀ C cells s₂ H₂ fp, PG (compCx X N' sc C cells s₂ H₂ fp) tg g) (ht : ∀ C cells s₂ H₂ fp, PIfs (compCx X N' sc C cells s₂ H₂ fp) ifs tt) (he : ∀ C cells s₂ H₂ fp, PE (compCx X N' sc C cells s₂ H₂ fp) elt te)
    (hs : ∀ x, foldedSetIterable iter X.env x = pure x := by intro _; rfl) : PE X (.ListComp elt [⟨tg, iter, ifs, 0⟩] sc pos) (tComp own caps wi g tt te) := by
  intro pins s σ H Q I h
  rw [eval_ListComp]
  have hf : ∀ y ∈ sc.names, y.2 = .free → ∃ c, X.env.cells.lookup y.1 = some c := fun y hy e => by
    obtain ⟨n, k⟩ := y
    have e' : k = .free := e
    subst e'
    exact I.ok.has n (S.fr hy)
  refine wpAny_comprehension_free (use := none) rfl hs (closureFor_all hf) S.kind (fun y hy e => by obtain ⟨n, k⟩ := y; have e' : k = .local := e; subst e'; exact S.lk hy) ?_
  refine thn (hi pins s σ H _ I h) fun v s1 h1 => thn h1 fun itv s2 h2 => ?_
  obtain ⟨it, fp, tn, J, H2, e, I2, T, st2, f2, q⟩ := h2
  subst e
  refine wpAny_newObj_type ?_
  refine thn (comp_block (iter := iter) (pos := pos) (Qf := compPost (model X.prog X.w) X.A X.xe none (EP X pins σ Q) (.ref s2.heap.objs.size) (s2.heap.objs.size + 1)) S hc hg ht he I2 T st2 f2 (q s2.heap.objs.size I2.fresh) ?_) fun cenv s4 ⟨hl, hr⟩ => ?_
  · intro s' σ' H' p' C cells I' eC q'
    subst eC
    obtain ⟨m, hn, _⟩ := id I'.loc
    exact ⟨m, hn, fun h' hs' => ⟨.ref s2.heap.objs.size, H', comp_end I2 f2 I' hs', rfl, q'⟩⟩
  · rw [← hl] at hr
    exact hr
end
end L2
namespace L2
open PySem PySem.Spec PyProof.Rows
section
variable {X : Cx} {own : List Str} {caps : List Nat} {N' : List Str} {sc : Scope} {tg elt iter : Expr} {ifs : List Expr} {pos : Pos} {wi : TI} {g : TG} {tt : TT} {te : TE}
theorem ps_setcomp {i : Nat} {y : Str} {py spos : Pos} (hN : X.N.Nodup) (hy : X.N[i]? = some y) (hx : Loc X.env.scope y) (S : CompScope X own caps N' sc) (hc : X.calm = true) (hi : PI X tg iter wi)
    (hg : ∀ C cells s₂ H₂ fp, PG (compCx X N' sc C cells s₂ H₂ fp) tg g) (ht : ∀ C cells s₂ H₂ fp, PIfs (compCx X N' sc C cells s₂ H₂ fp) ifs tt) (he : ∀ C cells s₂ H₂ fp, PE (compCx X N' sc C cells s₂ H₂ fp) elt te)
    (hsw : swapsWith (.ListComp elt [⟨tg, iter, ifs, 0⟩] sc pos) (some (.Name y py)) spos.line X.env = pure true := by rfl)
    (hs : ∀ x, foldedSetIterable iter X.env x = pure x := by intro _; rfl) (hf : X.fn y = true ∨ X.env.scope.names.lookup y = some .local := by first | exact .inl rfl | exact .inr rfl | assumption) :
    PS X (.Assign [.Name y py] (.ListComp elt [⟨tg, iter, ifs, 0⟩] sc pos) spos) (tAsg (tComp own caps wi g tt te) (gName i)) := by
  intro pins s σ H D I h
  have hfr : ∀ y ∈ sc.names, y.2 = .free → ∃ c, X.env.cells.lookup y.1 = some c := fun y hy e => by
    obtain ⟨n, k⟩ := y
    have e' : k = .free := e
    subst e'
    exact I.ok.has n (S.fr hy)
  rw [exec_Assign_Name_used _ _ _ _ hsw]
  refine wpAny_bind (wpAny_standAt (wpAny_bind ?_))
  show wpAny _ X.A (do let _ ← comprehension (.ListComp elt [⟨tg, iter, ifs, 0⟩] sc pos) sc X.env _ (newList []) false (eval iter X.env) (some (assign (.Name y py) X.env))) _ _ s
  refine wpAny_bind (wpAny_mono (wpAny_comprehension_free (use := some (assign (.Name y py) X.env)) (Q := fun _ s' => SP X pins D .next s') rfl hs (closureFor_all hfr) S.kind (fun y hy e => by obtain ⟨n, k⟩ := y; have e' : k = .local := e; subst e'; exact S.lk hy) ?_) (fun _ s' hq => wpAny_pure (wpAny_pure hq)) fun _ _ e => e)
  refine thn (hi pins s σ H _ I h) fun v s1 h1 => thn h1 fun itv s2 h2 => ?_
  obtain ⟨it, fp, tn, J, H2, e, I2, T, st2, f2, q⟩ := h2
  subst e
  refine wpAny_newObj_type ?_
  refine thn (comp_block (iter := iter) (pos := pos) (Qf := compPost (model X.prog X.w) X.A X.xe (some (assign (.Name y py) X.env)) (fun _ s' => SP X pins D .next s') (.ref s2.heap.objs.size) (s2.heap.objs.size + 1)) S hc hg ht he I2 T st2 f2 (q s2.heap.objs.size I2.fresh) ?_) fun cenv s4 ⟨hl, hr⟩ => ?_
  · intro s' σ' H' p' C cells I' eC q'
    subst eC
    obtain ⟨m, hn, _⟩ := id I'.loc
    have I3 : Inv X pins σ H' s' := comp_end I2 f2 I' (.refl ..)
    show wpAny _ X.A (assign (.Name y py) X.env (.ref s2.heap.objs.size)) _ _ s'
    refine wpAny_assign_Name (store_ok2 (v := .ref s2.heap.objs.size) I3 hN hy hx rfl (fun s5 I5 hsb => ?_) hf)
    have hC : s2.heap.objs.size < s2.heap.objs.size + 1 := Nat.lt_succ_self _
    have ltL : X.env.locals < s2.heap.objs.size := I2.lt
    have ltC : ∀ x c, X.env.cells.lookup x = some c → c < s2.heap.objs.size := fun x c e => by
      obtain ⟨w', z⟩ := I2.cell x c e
      exact z.lt
    refine ⟨m, ?_, fun h' hs' => ⟨σ.set i (some (.ref s2.heap.objs.size)), H', ?_, q'⟩⟩
    · obtain ⟨a, hsa, ha⟩ := hsb
      refine hn.sameBut hsa ?_
      rcases ha with ha | ha
      · rw [ha]; exact Nat.ne_of_gt (Nat.lt_trans ltL hC)
      · exact Nat.ne_of_gt (Nat.lt_trans (ltC _ _ ha) hC)
    · refine I5.turned (t' := s5.toks) (it := s2.heap.objs.size + 1) (fun b o hb e => (hs'.2 b hb).trans e) I'.free (Nat.ne_of_gt (Nat.lt_trans ltL hC)) (.inr (Nat.le_trans I2.sz (Nat.le_of_lt hC))) (fun x c e => Nat.ne_of_lt (Nat.lt_trans (ltC x c e) hC)) fun p hp => ?_
      obtain ⟨e, _⟩ := I2.pin p hp
      exact Nat.ne_of_lt (Nat.lt_trans (Heap.lt_size e) hC)
  · rw [← hl] at hr
    exact hr
end
section
variable (n : Nat) (D : Addr) (Pv : Nat → List V → St → Hp → Prop)
variable {n D Pv}
end
end L2
namespace L2
open PySem PySem.Spec PyProof.Rows
mutual
inductive Is (H : Hp) (L : Addr → Prop) : V → PyData → Prop where
  | non : Is H L .non .none
  | bl (b : Bool) : Is H L (.bl b) (.bool b)
  | int (i : Int) : Is H L (.int i) (.int i)
  | str (x : Str) : Is H L (.str x) (.str x)
  | lst {a : Addr} {xs : List V} {ds : List PyData} : L a → H a = some (.lst xs) → IsAll H L xs ds → Is H L (.ref a) (.list ds)
  | tup {a : Addr} {xs : List V} {ds : List PyData} : H a = some (.tup xs) → IsAll H L xs ds → Is H L (.ref a) (.tuple ds)
inductive IsAll (H : Hp) (L : Addr → Prop) : List V → List PyData → Prop where
  | nil : IsAll H L [] []
  | cons {x : V} {xs : List V} {d : PyData} {ds : List PyData} : Is H L x d → IsAll H L xs ds → IsAll H L (x :: xs) (d :: ds)
end
section
variable {H H' : Hp} {L L' : Addr → Prop}
theorem IsAll.ind {Q : List V → List PyData → Prop} (n : Q [] []) (c : ∀ {x : V} {xs : List V} {d : PyData} {ds : List PyData}, Is H L x d → IsAll H L xs ds → Q xs ds → Q (x :: xs) (d :: ds)) : ∀ {xs ds}, IsAll H L xs ds → Q xs ds := fun h =>
  IsAll.rec (motive_1 := fun _ _ _ => True) (motive_2 := fun xs ds _ => Q xs ds) trivial (fun _ => trivial) (fun _ => trivial) (fun _ => trivial) (fun _ _ _ _ => trivial) (fun _ _ _ => trivial) n (fun p q _ r => c p q r) h
theorem IsAll.length {xs : List V} {ds : List PyData} (h : IsAll H L xs ds) : xs.length = ds.length := IsAll.ind (Q := fun xs ds => xs.length = ds.length) rfl (fun _ _ r => congrArg (· + 1) r) h
theorem IsAll.set {xs : List V} {ds : List PyData} {x : V} {d : PyData} (i : Nat) (h : IsAll H L xs ds) (k : Is H L x d) : IsAll H L (xs.set i x) (ds.set i d) :=
  IsAll.ind (Q := fun xs ds => ∀ i, IsAll H L (xs.set i x) (ds.set i d)) (fun _ => .nil) (fun h q r i => Nat.casesOn i (.cons k q) fun i => .cons h (r i)) h i
end
section
variable {X : Cx} {pins : List (Addr × Obj)} {σ : St} {H : Hp} {s : Shared} {L L' : Addr → Prop}
end
noncomputable abbrev Shp (d : PyData) : Prop := SeqAt.shaped d = true
section
variable {X : Cx}
end
mutual
noncomputable def plainD : PyData → Bool
  | .none => true
  | .int _ => true
  | .str _ => true
  | .list ds => plainDs ds
  | .tuple ds => plainDs ds
  | _ => false
noncomputable def plainDs : List PyData → Bool
  | [] => true
  | d :: ds => plainD d && plainDs ds
end
mutual
theorem eqv_iff : ∀ (d e : PyData), plainD d = true → plainD e = true → (PyData.eqv d e = true ↔ d = e)
  | .none, e, _, he => by cases e <;> simp_all [PyData.eqv, plainD]
  | .int i, e, _, he => by cases e <;> simp_all [PyData.eqv, plainD]
  | .str i, e, _, he => by cases e <;> simp_all [PyData.eqv, plainD]
  | .list ds, e, hd, he => by
    cases e with
    | list es =>
      rw [plainD] at hd he
      rw [PyData.eqv, PyData.list.injEq]
      exact eqvAll_iff ds es hd he
    | _ => simp_all [PyData.eqv, plainD]
  | .tuple ds, e, hd, he => by
    cases e with
    | tuple es =>
      rw [plainD] at hd he
      rw [PyData.eqv, PyData.tuple.injEq]
      exact eqvAll_iff ds es hd he
    | _ => simp_all [PyData.eqv, plainD]
  | .bool b, e, hd, _ => by simp [plainD] at hd
  | .dict b, e, hd, _ => by simp [plainD] at hd
theorem eqvAll_iff : ∀ (ds es : List PyData), plainDs ds = true → plainDs es = true → (PyData.eqvAll ds es = true ↔ ds = es)
  | [], [], _, _ => by simp [PyData.eqvAll]
  | [], _ :: _, _, _ => by simp [PyData.eqvAll]
  | _ :: _, [], _, _ => by simp [PyData.eqvAll]
  | d :: ds, e :: es, hd, he => by
    rw [plainDs, Bool.and_eq_true] at hd he
    rw [PyData.eqvAll, Bool.and_eq_true, eqv_iff d e hd.1 he.1, eqvAll_iff ds es hd.2 he.2, List.cons.injEq]
end
theorem eqv_eq {d e : PyData} (h : plainD d = true) (k : plainD e = true) (q : d = e) : PyData.eqv d e = true := (eqv_iff d e h k).mpr q
theorem eqv_ne {d e : PyData} (h : plainD d = true) (k : plainD e = true) (q : d ≠ e) : PyData.eqv d e = false := Bool.eq_false_iff.mpr fun z => q ((eqv_iff d e h k).mp z)
noncomputable def fr (a b : Int) : PyData := .tuple [.int a, .int b]
end L2
namespace L2
open PySem PySem.Spec PyProof.Rows
noncomputable def frD (q : Rat) : PyData := fr q.num (q.den : Int)
noncomputable def BQ (n : Nat) (q : Rat) : Prop := Bt n q.num ∧ Bt n (q.den : Int)
end L2
namespace L2
open PySem PySem.Spec PyProof.Rows
section
variable {X : Cx}
end
end L2
namespace L2
open PySem PySem.Spec PyProof.Rows
section
variable {X : Cx} {K : PySem.W.Frag} {a b o e : Expr} {ta tb tl to : TE} {pos : Pos}
theorem ix_seqK (hK : X.K = K) : IxR X (rIx K) := hK ▸ ix_seq
theorem sl_listK (hK : X.K = K) : SlR X (rSlL K) := hK ▸ sl_list
noncomputable def rLen (K : PySem.W.Frag) : List V → Hp → VK → Prop := fun xs H Q => ∃ p ys, xs = [.ref p] ∧ (SqL K H p ys ∨ SqT K H p ys) ∧ Q (.int ys.length) H
theorem call_lenK (hK : X.K = K) : CallR X (.builtin "len") (rLen K) := by subst hK; exact call_len_seq
noncomputable def rListOf (K : PySem.W.Frag) : List V → Hp → VK → Prop := fun xs H Q => ∃ p ys, xs = [.ref p] ∧ (SqL K H p ys ∨ SqT K H p ys) ∧ ∀ l, H l = none → Q (.ref l) (upd H l (.lst ys))
theorem call_listK (hK : X.K = K) : CallR X (.type "list") (rListOf K) := by subst hK; exact call_list_of
noncomputable def tTru (K : PySem.W.Frag) (ta : TE) : TT := fun σ H Q => ta σ H fun x H' => ∃ k, TruV K x H' k ∧ Q k H'
theorem pt_truK (hK : X.K = K) (ha : PE X a ta) (he : ∀ whole, isTrue a X.env whole = (do let v ← whole; standAt a.pos; holding [v] (truthy v))) : PT X a (tTru K ta) := by subst hK; exact pt_truth ha he
theorem pi_listK {tg l : Expr} (hK : X.K = K) (hl : PE X l tl) : PI X tg l (iList K tl) := by subst hK; exact pi_list hl
theorem op_inK (hK : X.K = K) : OpR X (compareOp .In) (rIn K false) := by subst hK; exact op_in_seq
theorem op_notInK (hK : X.K = K) : OpR X (compareOp .NotIn) (rIn K true) := by subst hK; exact op_notIn_seq
end
end L2
namespace L2
open PySem PySem.Spec PyProof.Rows
theorem same_new {H : Hp} {p : Addr} (h : H p = none) (o : HO) : Same H (upd H p o) := fun b u q => by rw [upd_ne (ne_of_none q h)]; exact q
noncomputable def Pl (H : Hp) (p : Addr) (n : Nat) : Prop := ∃ a b c : Int, H p = some (.lst [.int a, .int b, .int c]) ∧ 0 ≤ c ∧ c ≤ n
theorem Pl.at {H : Hp} {p : Addr} {n : Nat} (h : Pl H p n) : ∃ xs, H p = some (.lst xs) := by
  obtain ⟨a, b, c, e, h1, h2⟩ := h
  exact ⟨_, e⟩
namespace B
theorem boot_len : bootBuiltins "len" = some (.builtin "len") := by decide +kernel
theorem boot_max : bootBuiltins "max" = some (.builtin "max") := by decide +kernel
theorem boot_min : bootBuiltins "min" = some (.builtin "min") := by decide +kernel
theorem boot_isinstance : bootBuiltins "isinstance" = some (.builtin "isinstance") := by decide +kernel
theorem boot_sorted : bootBuiltins "sorted" = some (.builtin "sorted") := by decide +kernel
theorem boot_int : bootBuiltins "int" = some (.type "int") := by decide +kernel
theorem boot_bool : bootBuiltins "bool" = some (.type "bool") := by decide +kernel
theorem boot_list : bootBuiltins "list" = some (.type "list") := by decide +kernel
theorem boot_range : bootBuiltins "range" = some (.type "range") := by decide +kernel
theorem boot_set : bootBuiltins "set" = some (.type "set") := by decide +kernel
end B
theorem fmod_pos {a b : Int} (hb : 0 < b) : a.fmod b = a % b := Int.fmod_eq_emod_of_nonneg a (by omega)
end L2
namespace L2
open PySem PySem.Spec PyProof.Rows
section
variable {X : Cx} {K : PySem.W.Frag} {pos : Pos}
end
end L2
namespace L2
open PySem PySem.Spec PyProof.Rows
end L2
namespace L2
open PySem PySem.Spec PyProof.Rows
section
variable {X : Cx}
end
end L2
namespace L2
open PySem PySem.Spec PyProof.Rows
theorem BQ.n {n : Nat} {q : Rat} (h : BQ n q) : Bt n q.num := h.1
theorem BQ.d {n : Nat} {q : Rat} (h : BQ n q) : Bt n (q.den : Int) := h.2
end L2
namespace L2
end L2
namespace L2
end L2
namespace L2
open PySem PySem.Spec PyProof.Rows
variable {G : PySem.W.Frag}
noncomputable def KS (G : PySem.W.Frag) (a : Addr) (ns : List Int) : Prop := ∃ (o : Obj) (its : Array Value) (n : Nat), G.lookup a = some o ∧ o.cls = .type "list" ∧ o.dict = none ∧ o.data = .seq its n ∧ its.size ≤ sizeLine ∧ Vals (ns.map V.int) its.toList
theorem KS.sq {G : PySem.W.Frag} {H : Hp} {a : Addr} {ns : List Int} (h : KS G a ns) : SqL G H a (ns.map V.int) := .inr h
noncomputable def exD (x : Str) : PyData := .dict [(.str x, .none)]
noncomputable def fnD (x : Str) : PyData := .dict [(.str x, .bool true)]
noncomputable def isFnD : PyData → Bool | .dict [(_, .bool _)] => true | _ => false
noncomputable def ClsAt (G : PySem.W.Frag) (x : Str) (C : Addr) : Prop := PySem.W.nsIn G mainGlobals x = some (some (.ref C))
structure ExCls (G : PySem.W.Frag) (C : Addr) : Prop where
  ga : PySem.W.findIn G (.ref C) "__getattribute__" = some (some (.builtin "BaseException.__getattribute__"))
  gt : PySem.W.findIn G (.ref C) "__getattr__" = some none
  cl : PySem.W.findIn G (.ref C) "__class__" = some (some (.builtin "object.__class__"))
  isB : PySem.W.subIn G (.ref C) (.type "BaseException") = some true
  isO : PySem.W.subIn G (.ref C) (.type "object") = some true
  isC : (PySem.W.clsIn G C).isSome = true
  k1 : PySem.W.kitOne G (.ref C) (.type "int") = some false
  k2 : PySem.W.kitOne G (.ref C) (.type "bool") = some false
  k3 : PySem.W.kitOne G (.ref C) (.type "str") = some false
  k4 : PySem.W.kitOne G (.ref C) (.type "list") = some false
  k5 : PySem.W.kitOne G (.ref C) (.type "tuple") = some false
noncomputable def ExO (C a : Addr) (h : Heap) : Prop := ∃ o vs, h.get? a = some o ∧ o.cls = .ref C ∧ o.data = .fields vs
inductive ImO where
  | tup (xs : List V)
  | ext (φ : Heap → Prop)
noncomputable def ImO.ho : ImO → HO
  | .tup xs => .tup xs
  | .ext φ => .ext φ
theorem ImO.nl {H : Hp} {a : Addr} {x : ImO} {ys : List V} (h : H a = some x.ho) (h' : H a = some (.lst ys)) : False := by
  rw [h] at h'
  cases x <;> cases h'
mutual
inductive Da (G : PySem.W.Frag) (H : Hp) (L : Addr → Prop) : V → PyData → Prop where
  | non : Da G H L .non .none
  | bl (b : Bool) : Da G H L (.bl b) (.bool b)
  | int (i : Int) : Da G H L (.int i) (.int i)
  | str (x : Str) : Da G H L (.str x) (.str x)
  | lst {a : Addr} {xs : List V} {ds : List PyData} : L a → Rd H a (.lst xs) → Das G H L xs ds → Da G H L (.ref a) (.list ds)
  | tup {a : Addr} {xs : List V} {ds : List PyData} : H a = some (.tup xs) → Das G H L xs ds → Da G H L (.ref a) (.tuple ds)
  | scr {a : Addr} {ns : List Int} : KS G a ns → Da G H L (.ref a) (.list (ns.map PyData.int))
  | exc {a C : Addr} {x : Str} : ExCls G C → ClsAt G x C → H a = some (.ext (ExO C a)) → Da G H L (.ref a) (exD x)
  | fn {a : Addr} {x : Str} : ClsAt G x a → Da G H L (.ref a) (fnD x)
inductive Das (G : PySem.W.Frag) (H : Hp) (L : Addr → Prop) : List V → List PyData → Prop where
  | nil : Das G H L [] []
  | cons {x : V} {xs : List V} {d : PyData} {ds : List PyData} : Da G H L x d → Das G H L xs ds → Das G H L (x :: xs) (d :: ds)
end
section
variable {H H' : Hp} {L L' : Addr → Prop}
theorem Da.both {P : V → PyData → Prop} {Q : List V → List PyData → Prop} (c1 : P .non .none) (c2 : ∀ b, P (.bl b) (.bool b)) (c3 : ∀ i, P (.int i) (.int i)) (c4 : ∀ x, P (.str x) (.str x))
    (c5 : ∀ {a : Addr} {xs : List V} {ds : List PyData}, L a → Rd H a (.lst xs) → Q xs ds → P (.ref a) (.list ds)) (c6 : ∀ {a : Addr} {xs : List V} {ds : List PyData}, H a = some (.tup xs) → Q xs ds → P (.ref a) (.tuple ds))
    (c7 : ∀ {a : Addr} {ns : List Int}, KS G a ns → P (.ref a) (.list (ns.map PyData.int))) (c8 : ∀ {a C : Addr} {x : Str}, ExCls G C → ClsAt G x C → H a = some (.ext (ExO C a)) → P (.ref a) (exD x)) (c9 : ∀ {a : Addr} {x : Str}, ClsAt G x a → P (.ref a) (fnD x))
    (n : Q [] []) (c : ∀ {x : V} {xs : List V} {d : PyData} {ds : List PyData}, P x d → Q xs ds → Q (x :: xs) (d :: ds)) : (∀ {v d}, Da G H L v d → P v d) ∧ ∀ {xs ds}, Das G H L xs ds → Q xs ds :=
  ⟨fun h => Da.rec (motive_1 := fun v d _ => P v d) (motive_2 := fun xs ds _ => Q xs ds) c1 c2 c3 c4 (fun p e _ r => c5 p e r) (fun e _ r => c6 e r) (fun k => c7 k) (fun k l m => c8 k l m) (fun k => c9 k) n (fun _ _ p q => c p q) h,
   fun h => Das.rec (motive_1 := fun v d _ => P v d) (motive_2 := fun xs ds _ => Q xs ds) c1 c2 c3 c4 (fun p e _ r => c5 p e r) (fun e _ r => c6 e r) (fun k => c7 k) (fun k l m => c8 k l m) (fun k => c9 k) n (fun _ _ p q => c p q) h⟩
theorem Das.ind {Q : List V → List PyData → Prop} (n : Q [] []) (c : ∀ {x : V} {xs : List V} {d : PyData} {ds : List PyData}, Da G H L x d → Das G H L xs ds → Q xs ds → Q (x :: xs) (d :: ds)) : ∀ {xs ds}, Das G H L xs ds → Q xs ds := fun h =>
  Das.rec (motive_1 := fun _ _ _ => True) (motive_2 := fun xs ds _ => Q xs ds) trivial (fun _ => trivial) (fun _ => trivial) (fun _ => trivial) (fun _ _ _ _ => trivial) (fun _ _ _ => trivial) (fun _ => trivial) (fun _ _ _ => trivial) (fun _ => trivial) n (fun p q _ r => c p q r) h
theorem Da.frame2 (hl : ∀ a xs, L a → Rd H a (.lst xs) → L' a ∧ Rd H' a (.lst xs)) (ht : ∀ a (xs : ImO), H a = some xs.ho → H' a = some xs.ho) : (∀ {v : V} {d : PyData}, Da G H L v d → Da G H' L' v d) ∧ ∀ {xs : List V} {ds : List PyData}, Das G H L xs ds → Das G H' L' xs ds :=
  Da.both .non .bl .int .str (fun p e r => .lst (hl _ _ p e).1 (hl _ _ p e).2 r) (fun {_ xs _} e r => .tup (ht _ (.tup xs) e) r) .scr (fun c n e => .exc c n (ht _ (.ext _) e)) .fn .nil .cons
theorem Da.frame (hl : ∀ a xs, L a → Rd H a (.lst xs) → L' a ∧ Rd H' a (.lst xs)) (ht : ∀ a (xs : ImO), H a = some xs.ho → H' a = some xs.ho) {v : V} {d : PyData} (h : Da G H L v d) : Da G H' L' v d := (Da.frame2 hl ht).1 h
theorem Das.frame (hl : ∀ a xs, L a → Rd H a (.lst xs) → L' a ∧ Rd H' a (.lst xs)) (ht : ∀ a (xs : ImO), H a = some xs.ho → H' a = some xs.ho) {xs : List V} {ds : List PyData} (h : Das G H L xs ds) : Das G H' L' xs ds := (Da.frame2 hl ht).2 h
theorem Rd.same {a : Addr} {u : HO} (s : Same H H') (h : Rd H a u) : Rd H' a u := h.imp (s _ _) fun ⟨o, h⟩ => ⟨o, s _ _ h⟩
theorem Rd.some {a : Addr} {u : HO} (h : Rd H a u) : H a ≠ Option.none := by
  rcases h with h | ⟨o, h⟩ <;> rw [h] <;> intro z <;> cases z
theorem Da.same (h : Same H H') {v : V} {d : PyData} (x : Da G H L v d) : Da G H' L v d := x.frame (fun a xs p e => ⟨p, e.same h⟩) fun a xs e => h _ _ e
theorem Das.same (h : Same H H') {v : List V} {d : List PyData} (x : Das G H L v d) : Das G H' L v d := x.frame (fun a xs p e => ⟨p, e.same h⟩) fun a xs e => h _ _ e
theorem Da.wide (h : ∀ a, L a → H a ≠ none → L' a) {v : V} {d : PyData} (x : Da G H L v d) : Da G H L' v d := x.frame (fun a xs p e => ⟨h a p e.some, e⟩) fun a xs e => e
theorem Das.wide (h : ∀ a, L a → H a ≠ none → L' a) {v : List V} {d : List PyData} (x : Das G H L v d) : Das G H L' v d := x.frame (fun a xs p e => ⟨h a p e.some, e⟩) fun a xs e => e
theorem Das.length {xs : List V} {ds : List PyData} (h : Das G H L xs ds) : xs.length = ds.length := Das.ind (Q := fun xs ds => xs.length = ds.length) rfl (fun _ _ r => congrArg (· + 1) r) h
theorem Das.append {xs ys : List V} {ds es : List PyData} (h : Das G H L xs ds) (k : Das G H L ys es) : Das G H L (xs ++ ys) (ds ++ es) := Das.ind (Q := fun xs ds => Das G H L (xs ++ ys) (ds ++ es)) k (fun h _ r => .cons h r) h
theorem Das.get {xs : List V} {ds : List PyData} {i : Nat} {d : PyData} (h : Das G H L xs ds) : ds[i]? = some d → ∃ x, xs[i]? = some x ∧ Da G H L x d :=
  Das.ind (Q := fun xs ds => ∀ i, ds[i]? = some d → ∃ x, xs[i]? = some x ∧ Da G H L x d) (fun _ e => (Option.some_ne_none _ (e.symm.trans List.getElem?_nil)).elim) (fun {x _ _ _} h _ r i => Nat.casesOn i (fun e => ⟨x, rfl, Option.some.inj e ▸ h⟩) fun i e => r i e) h i
theorem Das.take {xs : List V} {ds : List PyData} (n : Nat) (h : Das G H L xs ds) : Das G H L (xs.take n) (ds.take n) :=
  Das.ind (Q := fun xs ds => ∀ n, Das G H L (xs.take n) (ds.take n)) (fun n => by rw [List.take_nil, List.take_nil]; exact .nil) (fun h _ r n => Nat.casesOn n .nil fun n => .cons h (r n)) h n
theorem Das.drop {xs : List V} {ds : List PyData} (n : Nat) (h : Das G H L xs ds) : Das G H L (xs.drop n) (ds.drop n) :=
  Das.ind (Q := fun xs ds => ∀ n, Das G H L (xs.drop n) (ds.drop n)) (fun n => by rw [List.drop_nil, List.drop_nil]; exact .nil) (fun h q r n => Nat.casesOn n (.cons h q) fun n => r n) h n
theorem Das.ints (ns : List Int) : Das G H L (ns.map V.int) (ns.map PyData.int) := by
  induction ns with
  | nil => exact .nil
  | cons n ns ih => exact .cons (.int n) ih
theorem Das.int_inv {xs : List V} {ns : List Int} (h : Das G H L xs (ns.map PyData.int)) : xs = ns.map V.int := by
  induction ns generalizing xs with
  | nil => cases h; rfl
  | cons n ns ih =>
    rw [List.map_cons] at h
    cases h with
    | cons h r => cases h; rw [ih r]; rfl
end
theorem reads_ints {h : Heap} (ns : List Int) {us : List Value} (v : Vals (ns.map V.int) us) : ∃ as, ReadsAll h us (ns.map PyData.int) as := by
  induction ns generalizing us with
  | nil => cases v; exact ⟨_, .nil⟩
  | cons n ns ih =>
    rw [List.map_cons] at v
    cases v with
    | cons r rs =>
      obtain ⟨t, e⟩ := (show ∃ t, _ = Value.int n t from r)
      subst e
      obtain ⟨bs, k'⟩ := ih rs
      exact ⟨_, .cons (.int n t) k'⟩
section
variable {X : Cx} {pins : List (Addr × Obj)} {σ : St} {H : Hp} {s : Shared} {L L' : Addr → Prop}
theorem Da.reads2 (hG : X.K = G) (I : Inv X pins σ H s) : (∀ {v : V} {d : PyData}, Da G H L v d → ∀ u, RelV v u → d.canLay0 = true → ∃ as, Reads s.heap u d as) ∧ ∀ {xs : List V} {ds : List PyData}, Das G H L xs ds → ∀ us, Vals xs us → PyData.canLayAll0 ds = true → ∃ as, ReadsAll s.heap us ds as := by
  refine Da.both ?_ ?_ ?_ ?_ ?_ ?_ ?_ ?_ ?_ ?_ ?_
  · intro u r _
    cases (show _ = Value.none from r)
    exact ⟨_, .none⟩
  · intro b u r _
    cases (show _ = Value.bool b from r)
    exact ⟨_, .bool b⟩
  · intro i u r _
    obtain ⟨t, e⟩ := (show ∃ t, _ = Value.int i t from r)
    subst e
    exact ⟨_, .int i t⟩
  · intro x u r _
    obtain ⟨t, e⟩ := (show ∃ t, _ = Value.str x t from r)
    subst e
    exact ⟨_, .str x t⟩
  · intro a xs ds _ e q u r hcl
    cases (show _ = Value.ref a from r)
    obtain ⟨_, its, n, vs, h1⟩ := (show ObjOk X.prog X.w H s.heap a (.lst xs) from e.ok I.hok)
    rw [PyData.canLay0] at hcl
    obtain ⟨as, k⟩ := q _ vs hcl
    exact ⟨_, Reads.list h1 rfl rfl k⟩
  · intro a xs ds e q u r hcl
    cases (show _ = Value.ref a from r)
    obtain ⟨_, its, vs, o, ho, hc, n, hd⟩ := (show ObjOk X.prog X.w H s.heap a (.tup xs) from I.hok a _ e)
    rw [PyData.canLay0] at hcl
    obtain ⟨as, k⟩ := q _ vs hcl
    exact ⟨_, Reads.tuple ho hc hd k⟩
  · intro a ns k u r _
    cases (show _ = Value.ref a from r)
    subst hG
    obtain ⟨its, vs, ⟨o, n, ho, hc, hd, hs⟩, _⟩ := I.list (k.sq (H := H))
    obtain ⟨as, q⟩ := reads_ints ns vs
    exact ⟨_, Reads.list ho hc hs q⟩
  · intro a C x _ _ e u r hc
    rw [exD, PyData.canLay0] at hc
    cases hc
  · intro a x _ u r hc
    rw [fnD, PyData.canLay0] at hc
    cases hc
  · intro us v _
    cases v
    exact ⟨_, .nil⟩
  · intro x xs d ds h q us v hc
    cases v with
    | cons r rs =>
      rw [PyData.canLayAll0, Bool.and_eq_true] at hc
      obtain ⟨as, k⟩ := h _ r hc.1
      obtain ⟨bs, k'⟩ := q _ rs hc.2
      exact ⟨_, .cons k k'⟩
theorem Da.reads (hG : X.K = G) (I : Inv X pins σ H s) {v : V} {d : PyData} {u : Value} (h : Da G H L v d) (r : RelV v u) (c : d.canLay0 = true) : ∃ as, Reads s.heap u d as := (Da.reads2 hG I).1 h u r c
end
inductive OT where
  | fz (d : PyData)
  | nd (ts : List OT)
  | tp (ts : List OT)
mutual
noncomputable def OT.data : OT → PyData
  | .fz d => d
  | .nd ts => .list (OT.datas ts)
  | .tp ts => .tuple (OT.datas ts)
noncomputable def OT.datas : List OT → List PyData
  | [] => []
  | t :: ts => t.data :: OT.datas ts
end
theorem OT.datas_map : ∀ (ts : List OT), OT.datas ts = ts.map OT.data
  | [] => rfl
  | t :: ts => by rw [OT.datas, OT.datas_map ts]; rfl
@[simp] theorem OT.data_fz (d : PyData) : (OT.fz d).data = d := by rw [OT.data]
@[simp] theorem OT.data_nd (ts : List OT) : (OT.nd ts).data = .list (ts.map OT.data) := by rw [OT.data, OT.datas_map]
@[simp] theorem OT.data_tp (ts : List OT) : (OT.tp ts).data = .tuple (ts.map OT.data) := by rw [OT.data, OT.datas_map]
@[simp] theorem OT.map_fz (ds : List PyData) : (ds.map OT.fz).map OT.data = ds := by
  rw [List.map_map]
  exact (List.map_congr_left fun d _ => OT.data_fz d).trans (List.map_id _)
mutual
inductive Own (G : PySem.W.Frag) (H : Hp) (L : Addr → Prop) : V → OT → List Addr → Prop where
  | fz {v : V} {d : PyData} : Da G H L v d → Own G H L v (.fz d) []
  | nd {a : Addr} {xs : List V} {ts : List OT} {bs : List Addr} : H a = some (.lst xs) → Owns G H L xs ts bs → Own G H L (.ref a) (.nd ts) (a :: bs)
  | tp {a : Addr} {xs : List V} {ts : List OT} {bs : List Addr} : H a = some (.tup xs) → Owns G H L xs ts bs → Own G H L (.ref a) (.tp ts) bs
inductive Owns (G : PySem.W.Frag) (H : Hp) (L : Addr → Prop) : List V → List OT → List Addr → Prop where
  | nil : Owns G H L [] [] []
  | cons {x : V} {xs : List V} {t : OT} {ts : List OT} {as bs : List Addr} : Own G H L x t as → Owns G H L xs ts bs → Owns G H L (x :: xs) (t :: ts) (as ++ bs)
end
section
variable {H H' : Hp} {L L' : Addr → Prop}
theorem Own.both {P : V → OT → List Addr → Prop} {Q : List V → List OT → List Addr → Prop} (c1 : ∀ {v : V} {d : PyData}, Da G H L v d → P v (.fz d) []) (c2 : ∀ {a : Addr} {xs : List V} {ts : List OT} {bs : List Addr}, H a = some (.lst xs) → Q xs ts bs → P (.ref a) (.nd ts) (a :: bs))
    (c3 : ∀ {a : Addr} {xs : List V} {ts : List OT} {bs : List Addr}, H a = some (.tup xs) → Q xs ts bs → P (.ref a) (.tp ts) bs) (n : Q [] [] []) (c : ∀ {x : V} {xs : List V} {t : OT} {ts : List OT} {as bs : List Addr}, P x t as → Q xs ts bs → Q (x :: xs) (t :: ts) (as ++ bs)) :
    (∀ {v t as}, Own G H L v t as → P v t as) ∧ ∀ {xs ts as}, Owns G H L xs ts as → Q xs ts as :=
  ⟨fun h => Own.rec (motive_1 := fun v t as _ => P v t as) (motive_2 := fun xs ts as _ => Q xs ts as) c1 (fun e _ r => c2 e r) (fun e _ r => c3 e r) n (fun _ _ p q => c p q) h,
   fun h => Owns.rec (motive_1 := fun v t as _ => P v t as) (motive_2 := fun xs ts as _ => Q xs ts as) c1 (fun e _ r => c2 e r) (fun e _ r => c3 e r) n (fun _ _ p q => c p q) h⟩
theorem Own.frame2 (hl : ∀ a xs, L a → Rd H a (.lst xs) → L' a ∧ Rd H' a (.lst xs)) (ht : ∀ a (xs : ImO), H a = some xs.ho → H' a = some xs.ho) :
    (∀ {v : V} {t : OT} {as : List Addr}, Own G H L v t as → (∀ a ∈ as, ∀ xs, H a = some (.lst xs) → H' a = some (.lst xs)) → Own G H' L' v t as) ∧ ∀ {xs : List V} {ts : List OT} {as : List Addr}, Owns G H L xs ts as → (∀ a ∈ as, ∀ xs, H a = some (.lst xs) → H' a = some (.lst xs)) → Owns G H' L' xs ts as :=
  Own.both (fun h _ => .fz (h.frame hl ht)) (fun e r ha => .nd (ha _ (.head _) _ e) (r fun a m => ha a (.tail _ m))) (fun {_ xs _ _} e r ha => .tp (ht _ (.tup xs) e) (r ha)) (fun _ => .nil) (fun h r ha => .cons (h fun a m => ha a (List.mem_append_left _ m)) (r fun a m => ha a (List.mem_append_right _ m)))
theorem Own.frame (hl : ∀ a xs, L a → Rd H a (.lst xs) → L' a ∧ Rd H' a (.lst xs)) (ht : ∀ a (xs : ImO), H a = some xs.ho → H' a = some xs.ho) {v : V} {t : OT} {as : List Addr} (ha : ∀ a ∈ as, ∀ xs, H a = some (.lst xs) → H' a = some (.lst xs)) (h : Own G H L v t as) : Own G H' L' v t as := (Own.frame2 hl ht).1 h ha
theorem Owns.frame (hl : ∀ a xs, L a → Rd H a (.lst xs) → L' a ∧ Rd H' a (.lst xs)) (ht : ∀ a (xs : ImO), H a = some xs.ho → H' a = some xs.ho) {xs : List V} {ts : List OT} {as : List Addr} (ha : ∀ a ∈ as, ∀ xs, H a = some (.lst xs) → H' a = some (.lst xs)) (h : Owns G H L xs ts as) : Owns G H' L' xs ts as := (Own.frame2 hl ht).2 h ha
theorem Own.same (h : Same H H') {v : V} {t : OT} {as : List Addr} (x : Own G H L v t as) : Own G H' L v t as := x.frame (fun a xs p e => ⟨p, e.same h⟩) (fun a xs e => h _ _ e) fun a _ xs e => h _ _ e
theorem Own.wide (h : ∀ a, L a → H a ≠ none → L' a) {v : V} {t : OT} {as : List Addr} (x : Own G H L v t as) : Own G H L' v t as := x.frame (fun a xs p e => ⟨h a p e.some, e⟩) (fun a xs e => e) fun a _ xs e => e
theorem Owns.wide (h : ∀ a, L a → H a ≠ none → L' a) {v : List V} {t : List OT} {as : List Addr} (x : Owns G H L v t as) : Owns G H L' v t as := x.frame (fun a xs p e => ⟨h a p e.some, e⟩) (fun a xs e => e) fun a _ xs e => e
theorem Owns.same (h : Same H H') {v : List V} {t : List OT} {as : List Addr} (x : Owns G H L v t as) : Owns G H' L v t as := x.frame (fun a xs p e => ⟨p, e.same h⟩) (fun a xs e => h _ _ e) fun a _ xs e => h _ _ e
theorem Own.da2 (h : ∀ a, L a → H a ≠ none → L' a) : (∀ {v : V} {t : OT} {as : List Addr}, Own G H L v t as → (∀ a ∈ as, L' a) → Da G H L' v t.data) ∧ ∀ {v : List V} {t : List OT} {as : List Addr}, Owns G H L v t as → (∀ a ∈ as, L' a) → Das G H L' v (OT.datas t) :=
  Own.both (fun k _ => by rw [OT.data_fz]; exact k.wide h) (fun e r ha => by rw [OT.data]; exact .lst (ha _ (.head _)) (.inl e) (r fun a m => ha a (.tail _ m))) (fun e r ha => by rw [OT.data]; exact .tup e (r ha)) (fun _ => .nil) (fun k r ha => .cons (k fun a m => ha a (List.mem_append_left _ m)) (r fun a m => ha a (List.mem_append_right _ m)))
theorem Own.da (h : ∀ a, L a → H a ≠ none → L' a) {v : V} {t : OT} {as : List Addr} (ha : ∀ a ∈ as, L' a) (k : Own G H L v t as) : Da G H L' v t.data := (Own.da2 h).1 k ha
theorem Owns.das (h : ∀ a, L a → H a ≠ none → L' a) {v : List V} {t : List OT} {as : List Addr} (ha : ∀ a ∈ as, L' a) (k : Owns G H L v t as) : Das G H L' v (OT.datas t) := (Own.da2 h).2 k ha
theorem Own.some2 : (∀ {v : V} {t : OT} {as : List Addr}, Own G H L v t as → ∀ a ∈ as, ∃ xs, H a = some (.lst xs)) ∧ ∀ {v : List V} {t : List OT} {as : List Addr}, Owns G H L v t as → ∀ a ∈ as, ∃ xs, H a = some (.lst xs) :=
  Own.both (fun _ _ m => nomatch m) (fun e r a m => (List.mem_cons.mp m).elim (fun q => ⟨_, q ▸ e⟩) (r a)) (fun _ r => r) (fun _ m => nomatch m) (fun k r a m => (List.mem_append.mp m).elim (k a) (r a))
theorem Own.some {v : V} {t : OT} {as : List Addr} (h : Own G H L v t as) : ∀ a ∈ as, ∃ xs, H a = some (.lst xs) := Own.some2.1 h
theorem Owns.some {v : List V} {t : List OT} {as : List Addr} (h : Owns G H L v t as) : ∀ a ∈ as, ∃ xs, H a = some (.lst xs) := Own.some2.2 h
theorem Owns.length {xs : List V} {ts : List OT} {as : List Addr} (h : Owns G H L xs ts as) : xs.length = ts.length := (Own.both (P := fun _ _ _ => True) (Q := fun xs ts _ => xs.length = ts.length) (fun _ => trivial) (fun _ _ => trivial) (fun _ _ => trivial) rfl (fun _ r => congrArg (· + 1) r)).2 h
theorem Das.owns {xs : List V} {ds : List PyData} (h : Das G H L xs ds) : Owns G H L xs (ds.map OT.fz) [] := Das.ind (Q := fun xs ds => Owns G H L xs (ds.map OT.fz) []) .nil (fun h _ r => .cons (.fz h) r) h
end
end L2
namespace L2
open PySem PySem.Spec PyProof.Rows
variable {G : PySem.W.Frag}
noncomputable abbrev DEnv := List (Option OT)
noncomputable abbrev Fp := Nat → List Addr
set_option genInjectivity false in
structure MC (G : PySem.W.Frag) where
  H₀ : Hp
  as₀ : Addr → Prop
  L : Addr → Prop
  σ₀ : St
noncomputable def Foot (fp : Fp) (a : Addr) : Prop := ∃ i, a ∈ fp i
noncomputable def Lf (C : MC G) (fp : Fp) (ex : Addr → Prop) (a : Addr) : Prop := ¬ Foot fp a ∧ ¬ ex a ∧ (C.L a ∨ C.H₀ a = none)
structure Rel (C : MC G) (io : List Nat) (H : Hp) (σ : St) (δ : DEnv) (fp : Fp) (ex : Addr → Prop) : Prop where
  len : σ.length = δ.length
  own : ∀ (i : Nat) (t : OT), δ[i]? = some (some t) → ∃ v, σ[i]? = some (some v) ∧ Own G H (Lf C fp ex) v t (fp i)
  emp : ∀ i : Nat, (∀ t, δ[i]? ≠ some (some t)) → fp i = []
  nd : ∀ i, (fp i).Nodup
  dj : ∀ i j a, a ∈ fp i → a ∈ fp j → i = j
  dx : ∀ i a, a ∈ fp i → ¬ ex a
  xa : ∀ a, ex a → H a ≠ none
  fr : ∀ b o, C.H₀ b = some o → ¬ C.as₀ b → H b = some o
  al : ∀ b, H b = none → C.H₀ b = none
  new : ∀ i a, a ∈ fp i → (i ∈ io ∧ C.as₀ a) ∨ C.H₀ a = none
  io : ∀ i ∈ io, σ[i]? = C.σ₀[i]?
structure Stp (p : Bool) (H : Hp) (δ : DEnv) (fp : Fp) (H' : Hp) (δ' : DEnv) (fp' : Fp) : Prop where
  keep : ∀ b o, H b = some o → (p = true ∨ ¬ Foot fp b) → H' b = some o
  env : p = true → δ' = δ ∧ fp' = fp
  grow : ∀ a, Foot fp' a → Foot fp a ∨ H a = none
  al : ∀ b, H' b = none → H b = none
section
variable {C : MC G} {io : List Nat} {H H' H'' : Hp} {σ : St} {δ δ' δ'' : DEnv} {fp fp' fp'' : Fp} {ex ex' : Addr → Prop} {p p' c : Bool} {v : V} {d : PyData} {r : OT} {new : List Addr}
theorem Rel.foot (R : Rel C io H σ δ fp ex) {a : Addr} (h : Foot fp a) : ∃ xs, H a = some (.lst xs) := by
  obtain ⟨i, h⟩ := h
  by_cases q : ∃ t, δ[i]? = some (some t)
  · obtain ⟨t, q⟩ := q
    obtain ⟨v, _, o⟩ := R.own i t q
    exact o.some a h
  · rw [R.emp i (fun t z => q ⟨t, z⟩)] at h
    exact nomatch h
theorem Rel.footSome (R : Rel C io H σ δ fp ex) {a : Addr} (h : H a = none) : ¬ Foot fp a := fun z => by
  obtain ⟨xs, e⟩ := R.foot z
  rw [h] at e
  cases e
theorem Stp.refl (p : Bool) (H : Hp) (δ : DEnv) (fp : Fp) : Stp p H δ fp H δ fp := ⟨fun _ _ h _ => h, fun _ => ⟨rfl, rfl⟩, fun _ h => .inl h, fun _ h => h⟩
theorem Stp.same (h : Same H H') (hn : ∀ b, H' b = none → H b = none) : Stp p H δ fp H' δ fp := ⟨fun _ _ q _ => h _ _ q, fun _ => ⟨rfl, rfl⟩, fun _ h => .inl h, hn⟩
theorem Same.al (h : Same H H') : ∀ b, H' b = none → H b = none := fun _ q => h.free q
theorem Stp.trans (a : Stp p H δ fp H' δ' fp') (b : Stp p' H' δ' fp' H'' δ'' fp'') : Stp (p && p') H δ fp H'' δ'' fp'' where
  keep := fun x o e h => by
    rcases h with h | h
    · rw [Bool.and_eq_true] at h
      exact b.keep x o (a.keep x o e (.inl h.1)) (.inl h.2)
    · refine b.keep x o (a.keep x o e (.inr h)) (.inr fun z => ?_)
      rcases a.grow x z with z | z
      · exact h z
      · rw [e] at z; cases z
  env := fun h => by
    rw [Bool.and_eq_true] at h
    obtain ⟨e1, e2⟩ := a.env h.1
    obtain ⟨e3, e4⟩ := b.env h.2
    exact ⟨e3.trans e1, e4.trans e2⟩
  grow := fun x h => by
    rcases b.grow x h with h | h
    · exact a.grow x h
    · exact .inr (a.al x h)
  al := fun x h => a.al x (b.al x h)
theorem Rel.frameL (R : Rel C io H σ δ fp ex) (S : Stp p H δ fp H' δ' fp') (hc : p = true ∨ c = true) (hx : ∀ a, ex' a → ex a ∨ H a = none) :
    (∀ a xs, (c = true → Lf C fp ex a) → Rd H a (.lst xs) → (c = true → Lf C fp' ex' a) ∧ Rd H' a (.lst xs)) ∧ (∀ a (xs : ImO), H a = some xs.ho → H' a = some xs.ho) := by
  have nf : ∀ a, Foot fp a → ∃ xs, H a = some (.lst xs) := fun a h => R.foot h
  refine ⟨fun a xs l q => ⟨fun hc' => ?_, ?_⟩, fun a xs q => S.keep a _ q (.inr fun z => ?_)⟩
  · obtain ⟨l1, l2, l3⟩ := l hc'
    refine ⟨fun z => ?_, fun z => ?_, l3⟩
    · rcases S.grow a z with z | z
      · exact l1 z
      · exact q.some z
    · rcases hx a z with z | z
      · exact l2 z
      · exact q.some z
  · have hk : p = true ∨ ¬ Foot fp a := by
      rcases hc with h | h
      · exact .inl h
      · exact .inr (l h).1
    rcases q with q | ⟨o, q⟩
    · exact .inl (S.keep a _ q hk)
    · exact .inr ⟨o, S.keep a _ q hk⟩
  · obtain ⟨ys, e⟩ := nf a z
    exact ImO.nl q e
theorem Rel.own_step (R : Rel C io H σ δ fp ex) (S : Stp p H δ fp H' δ' fp') (hc : p = true ∨ c = true) (hx : ∀ a, ex' a → ex a ∨ H a = none) (hn : ∀ a ∈ new, ex a)
    (x : Own G H (fun a => c = true → Lf C fp ex a) v r new) : Own G H' (fun a => c = true → Lf C fp' ex' a) v r new :=
  x.frame (R.frameL S hc hx).1 (R.frameL S hc hx).2 fun a m xs e => S.keep a _ e (.inr fun ⟨i, z⟩ => R.dx i a z (hn a m))
theorem Rel.owns_step (R : Rel C io H σ δ fp ex) (S : Stp p H δ fp H' δ' fp') (hc : p = true ∨ c = true) (hx : ∀ a, ex' a → ex a ∨ H a = none) (hn : ∀ a ∈ new, ex a) {vs : List V} {rs : List OT}
    (x : Owns G H (fun a => c = true → Lf C fp ex a) vs rs new) : Owns G H' (fun a => c = true → Lf C fp' ex' a) vs rs new :=
  x.frame (R.frameL S hc hx).1 (R.frameL S hc hx).2 fun a m xs e => S.keep a _ e (.inr fun ⟨i, z⟩ => R.dx i a z (hn a m))
theorem Rel.drop (R : Rel C io H σ δ fp ex) (h : ∀ a, ex' a → ex a) : Rel C io H σ δ fp ex' :=
  ⟨R.len, fun i t e => by
    obtain ⟨v, e1, o⟩ := R.own i t e
    exact ⟨v, e1, o.wide fun a l _ => ⟨l.1, fun z => l.2.1 (h a z), l.2.2⟩⟩, R.emp, R.nd, R.dj, fun i a m z => R.dx i a m (h a z), fun a z => R.xa a (h a z), R.fr, R.al, R.new, R.io⟩
theorem Rel.made (R : Rel C io H σ δ fp ex) (s : Same H H') (hn : ∀ a ∈ new, H a = none ∧ H' a ≠ none) : Rel C io H' σ δ fp (fun a => ex a ∨ a ∈ new) :=
  ⟨R.len, fun i t e => by
    obtain ⟨v, e1, o⟩ := R.own i t e
    refine ⟨v, e1, (o.wide fun a l q => ⟨l.1, fun z => ?_, l.2.2⟩).same s⟩
    rcases z with z | z
    · exact l.2.1 z
    · exact q (hn a z).1, R.emp, R.nd, R.dj, fun i a m z => by
      rcases z with z | z
      · exact R.dx i a m z
      · exact R.footSome (hn a z).1 ⟨i, m⟩, fun a z => by
      rcases z with z | z
      · intro q; exact R.xa a z (s.free q)
      · exact (hn a z).2, fun b o e n => s _ _ (R.fr b o e n), fun b q => R.al b (s.free q), R.new, R.io⟩
end
noncomputable abbrev MEt := DEnv → (OT → DEnv → Prop) → Prop
noncomputable abbrev MAt := DEnv → (List OT → DEnv → Prop) → Prop
noncomputable abbrev MTt := DEnv → (Bool → DEnv → Prop) → Prop
noncomputable abbrev exu (ex : Addr → Prop) (new : List Addr) : Addr → Prop := fun a => ex a ∨ a ∈ new
structure RE (C : MC G) (io : List Nat) (p c : Bool) (H : Hp) (σ : St) (δ : DEnv) (fp : Fp) (ex : Addr → Prop) (H' : Hp) (v : V) (r : OT) (δ' : DEnv) (fp' : Fp) (new : List Addr) : Prop where
  rel : Rel C io H' σ δ' fp' (exu ex new)
  stp : Stp p H δ fp H' δ' fp'
  own : Own G H' (fun a => c = true → Lf C fp' (exu ex new) a) v r new
  nd : new.Nodup
  fresh : ∀ a ∈ new, H a = none
structure RA (C : MC G) (io : List Nat) (p c : Bool) (H : Hp) (σ : St) (δ : DEnv) (fp : Fp) (ex : Addr → Prop) (H' : Hp) (v : List V) (r : List OT) (δ' : DEnv) (fp' : Fp) (new : List Addr) : Prop where
  rel : Rel C io H' σ δ' fp' (exu ex new)
  stp : Stp p H δ fp H' δ' fp'
  own : Owns G H' (fun a => c = true → Lf C fp' (exu ex new) a) v r new
  nd : new.Nodup
  fresh : ∀ a ∈ new, H a = none
noncomputable def SE (G : PySem.W.Frag) (io : List Nat) (p c : Bool) (t : TE) (m : MEt) : Prop := ∀ (C : MC G) (H : Hp) (σ : St) (δ : DEnv) (fp : Fp) (ex : Addr → Prop) (K : OT → DEnv → Prop) (Q : VK), Rel C io H σ δ fp ex → m δ K →
  (∀ H' v r δ' fp' new, RE C io p c H σ δ fp ex H' v r δ' fp' new → K r δ' → Q v H') → t σ H Q
noncomputable def SA (G : PySem.W.Frag) (io : List Nat) (p c : Bool) (t : TA) (m : MAt) : Prop := ∀ (C : MC G) (H : Hp) (σ : St) (δ : DEnv) (fp : Fp) (ex : Addr → Prop) (K : List OT → DEnv → Prop) (Q : List V → Hp → Prop), Rel C io H σ δ fp ex → m δ K →
  (∀ H' v r δ' fp' new, RA C io p c H σ δ fp ex H' v r δ' fp' new → K r δ' → Q v H') → t σ H Q
noncomputable def STt (G : PySem.W.Frag) (io : List Nat) (p : Bool) (t : TT) (m : MTt) : Prop := ∀ (C : MC G) (H : Hp) (σ : St) (δ : DEnv) (fp : Fp) (ex : Addr → Prop) (K : Bool → DEnv → Prop) (Q : Bool → Hp → Prop), Rel C io H σ δ fp ex → m δ K →
  (∀ H' b δ' fp', Rel C io H' σ δ' fp' ex → Stp p H δ fp H' δ' fp' → K b δ' → Q b H') → t σ H Q
noncomputable def ME (X : Cx) (io : List Nat) (p c : Bool) (e : Expr) (m : MEt) : Prop := ∃ t, PE X e t ∧ SE X.K io p c t m
noncomputable def MA (X : Cx) (io : List Nat) (p c : Bool) (e : List Expr) (m : MAt) : Prop := ∃ t, PA X e t ∧ SA X.K io p c t m
noncomputable def MT (X : Cx) (io : List Nat) (p : Bool) (e : Expr) (m : MTt) : Prop := ∃ t, PT X e t ∧ STt X.K io p t m
noncomputable def MW (X : Cx) (io : List Nat) (p : Bool) (e : Expr) (m : MTt) : Prop := ∃ t, PW X e t ∧ STt X.K io p t m
section
variable {C : MC G} {io : List Nat} {H H' H'' : Hp} {σ : St} {δ δ' δ'' : DEnv} {fp fp' fp'' : Fp} {ex ex' : Addr → Prop} {p p' c : Bool} {v : V} {d : PyData} {r : OT} {vs : List V} {rs : List OT} {new : List Addr}
theorem Rel.newOk (R : Rel C io H σ δ fp ex) {a : Addr} (h : H a = none) : ¬ Foot fp a ∧ ¬ ex a ∧ C.H₀ a = none := ⟨R.footSome h, fun z => R.xa a z h, R.al a h⟩
theorem RE.da (R : RE C io p c H σ δ fp ex H' v r δ' fp' new) (R0 : Rel C io H σ δ fp ex) : Da G H' (fun a => c = true → Lf C fp' ex a) v r.data := by
  refine R.own.da (fun a l _ h => ?_) (fun a m _ => ?_)
  · exact ⟨(l h).1, fun z => (l h).2.1 (.inl z), (l h).2.2⟩
  · refine ⟨fun qz9 => ?_, (R0.newOk (R.fresh a m)).2.1, .inr (R0.newOk (R.fresh a m)).2.2⟩
    obtain ⟨i, z⟩ := qz9
    exact R.rel.dx i a z (.inr m)
theorem RA.das (R : RA C io p c H σ δ fp ex H' vs rs δ' fp' new) (R0 : Rel C io H σ δ fp ex) : Das G H' (fun a => c = true → Lf C fp' ex a) vs (OT.datas rs) := by
  refine R.own.das (fun a l _ h => ?_) (fun a m _ => ?_)
  · exact ⟨(l h).1, fun z => (l h).2.1 (.inl z), (l h).2.2⟩
  · refine ⟨fun qz9 => ?_, (R0.newOk (R.fresh a m)).2.1, .inr (R0.newOk (R.fresh a m)).2.2⟩
    obtain ⟨i, z⟩ := qz9
    exact R.rel.dx i a z (.inr m)
theorem RE.base (R : RE C io p c H σ δ fp ex H' v r δ' fp' new) : Rel C io H' σ δ' fp' ex := R.rel.drop fun a z => .inl z
theorem RA.base (R : RA C io p c H σ δ fp ex H' vs rs δ' fp' new) : Rel C io H' σ δ' fp' ex := R.rel.drop fun a z => .inl z
theorem exu_nil {a : Addr} : exu ex [] a ↔ ex a := by simp [exu]
theorem RE.fz (R : Rel C io H' σ δ' fp' ex) (S : Stp p H δ fp H' δ' fp') (h : Da G H' (fun a => c = true → Lf C fp' ex a) v d) : RE C io p c H σ δ fp ex H' v (.fz d) δ' fp' [] :=
  ⟨R.drop fun a z => exu_nil.mp z, S, .fz (h.wide fun a l _ hc => ⟨(l hc).1, fun z => (l hc).2.1 (exu_nil.mp z), (l hc).2.2⟩), .nil, fun a m => nomatch m⟩
theorem RE.tree {H1 : Hp} (R0 : Rel C io H σ δ fp ex) (R : Rel C io H1 σ δ' fp' ex) (S : Stp p H δ fp H1 δ' fp') (s : Same H1 H') (hn : ∀ a ∈ new, H1 a = none) (nd : new.Nodup)
    (o : Own G H' (fun a => ((c = true → Lf C fp' ex a) ∨ H1 a = none) ∧ a ∉ new) v r new) : RE C io p c H σ δ fp ex H' v r δ' fp' new := by
  refine ⟨R.made s fun a m => ⟨hn a m, fun z => ?_⟩, ?_, o.wide fun a l q hc => ?_, nd, fun a m => S.al a (hn a m)⟩
  · obtain ⟨xs, e⟩ := o.some a m
    rw [z] at e; cases e
  · have := S.trans (p' := true) (Stp.same (p := true) (δ := δ') (fp := fp') s s.al)
    rwa [Bool.and_true] at this
  · rcases l.1 with l1 | l1
    · exact ⟨(l1 hc).1, fun z => z.elim (l1 hc).2.1 l.2, (l1 hc).2.2⟩
    · exact ⟨R.footSome l1, fun z => z.elim (fun z => R.xa a z l1) l.2, .inr (R.al a l1)⟩
end
inductive ScD : V → PyData → Prop where
  | non : ScD .non .none
  | bl (b : Bool) : ScD (.bl b) (.bool b)
  | int (i : Int) : ScD (.int i) (.int i)
  | str (x : Str) : ScD (.str x) (.str x)
theorem ScD.da {H : Hp} {L : Addr → Prop} {v : V} {d : PyData} (h : ScD v d) : Da G H L v d := by
  cases h
  · exact .non
  · exact .bl _
  · exact .int _
  · exact .str _
section
variable {X : Cx} {io : List Nat} {p p' c c' : Bool} {e a b : Expr} {m ma mb : MEt} {es : List Expr}
noncomputable def mVar (i : Nat) : MEt := fun δ K => match δ[i]? with | some (some (.fz d)) => K (.fz d) δ | _ => False
noncomputable def mOwn (i : Nat) : MEt := fun δ K => match δ[i]? with | some (some t) => K (.fz t.data) δ | _ => False
noncomputable def mC (d : PyData) : MEt := fun δ K => K (.fz d) δ
theorem mv (i : Nat) {x : Str} {pos : Pos} (hN : X.N[i]? = some x := by rfl) (hv : Vis X.env.scope x := by first | exact Or.inl rfl | exact Or.inr (Or.inl rfl) | exact Or.inr (Or.inr rfl)) (hd : (x == ("__debug__" : Str)) = false := by decide)
    (hcd : (x == ("__classdict__" : Str)) = false := by decide) : ME X io true true (.Name x pos) (mVar i) := by
  refine ⟨_, pv i hN hv hd hcd, fun C H σ δ fp ex K Q R h k => ?_⟩
  unfold mVar at h
  split at h
  · rename_i d hd
    obtain ⟨v, e, o⟩ := R.own i _ hd
    refine ⟨v, e, k H v _ δ fp [] (.fz R (.refl _ _ _ _) ?_) h⟩
    generalize fp i = as at o
    cases o with
    | fz q => exact q.wide fun a l _ _ => l
  · exact h.elim
theorem mo (i : Nat) {x : Str} {pos : Pos} (hN : X.N[i]? = some x := by rfl) (hv : Vis X.env.scope x := by first | exact Or.inl rfl | exact Or.inr (Or.inl rfl) | exact Or.inr (Or.inr rfl)) (hd : (x == ("__debug__" : Str)) = false := by decide)
    (hcd : (x == ("__classdict__" : Str)) = false := by decide) : ME X io true false (.Name x pos) (mOwn i) := by
  refine ⟨_, pv i hN hv hd hcd, fun C H σ δ fp ex K Q R h k => ?_⟩
  unfold mOwn at h
  split at h
  · rename_i d hd
    obtain ⟨v, e, o⟩ := R.own i _ hd
    exact ⟨v, e, k H v _ δ fp [] (.fz R (.refl _ _ _ _) (o.da (fun a _ _ z => (nomatch z)) fun a _ z => (nomatch z))) h⟩
  · exact h.elim
theorem m_const {t : V} {d : PyData} (h : PE X e (tC t)) (s : ScD t d) : ME X io true true e (mC d) :=
  ⟨_, h, fun C H σ δ fp ex K Q R h k => k H t _ δ fp [] (.fz R (.refl _ _ _ _) s.da) h⟩
theorem mc_int {i j pos} : ME X io true true (.Constant (.int i) j pos) (mC (.int i)) := m_const pe_int (.int i)
theorem mc_bl {b j pos} : ME X io true true (.Constant (.bool b) j pos) (mC (.bool b)) := m_const pe_bl (.bl b)
theorem mc_non {j pos} : ME X io true true (.Constant .none j pos) (mC .none) := m_const pe_non .non
theorem SE.two {ta tb : TE} (ha : SE G io p c ta ma) (hb : SE G io p' c' tb mb) (hc : p' = true ∨ c = true) {C : MC G} {H : Hp} {σ : St} {δ : DEnv} {fp : Fp} {ex : Addr → Prop} {K : OT → OT → DEnv → Prop} {Q : V → V → Hp → Prop}
    (R : Rel C io H σ δ fp ex) (h : ma δ fun x δ1 => mb δ1 fun y δ2 => K x y δ2)
    (k : ∀ H' x y u v δ' fp', Rel C io H' σ δ' fp' ex → Stp (p && p') H δ fp H' δ' fp' → Da G H' (fun a => (c && c') = true → Lf C fp' ex a) x u.data → Da G H' (fun a => (c && c') = true → Lf C fp' ex a) y v.data → K u v δ' → Q x y H') :
    ta σ H fun x H1 => tb σ H1 fun y H2 => Q x y H2 := by
  refine ha C H σ δ fp ex _ _ R h fun H1 x u δ1 fp1 new1 r1 h1 => ?_
  refine hb C H1 σ δ1 fp1 (exu ex new1) _ _ r1.rel h1 fun H2 y v δ2 fp2 new2 r2 h2 => ?_
  have o1 := r1.rel.own_step (ex' := exu (exu ex new1) new2) r2.stp (c := c) hc (fun a z => z.imp id fun z => r2.fresh a z) (fun a m => .inr m) r1.own
  have R2 : Rel C io H2 σ δ2 fp2 ex := r2.rel.drop fun a z => .inl (.inl z)
  have q1 : Da G H2 (fun a => c = true → Lf C fp2 ex a) x u.data := by
    refine o1.da (fun a l _ z => ?_) (fun a m z => ?_)
    · exact ⟨(l z).1, fun w => (l z).2.1 (.inl (.inl w)), (l z).2.2⟩
    · have := R.newOk (r1.fresh a m)
      refine ⟨fun qz9 => ?_, this.2.1, .inr this.2.2⟩
      obtain ⟨i, w⟩ := qz9
      exact r2.rel.dx i a w (.inl (.inr m))
  have q2 := r2.da r1.rel
  refine k H2 x y u v δ2 fp2 R2 (r1.stp.trans r2.stp) (q1.wide fun a l _ z => l (by rw [Bool.and_eq_true] at z; exact z.1)) (q2.wide fun a l _ z => ?_) h2
  have l := l (by rw [Bool.and_eq_true] at z; exact z.2)
  exact ⟨l.1, fun w => l.2.1 (.inl w), l.2.2⟩
noncomputable def P2s (G : PySem.W.Frag) (r : R2) (rp : PyData → PyData → (PyData → Prop) → Prop) : Prop := ∀ (H : Hp) (L : Addr → Prop) (x y : V) (d e : PyData) (k : PyData → Prop) (Q : VK), Da G H L x d → Da G H L y e → rp d e k → (∀ v d', ScD v d' → k d' → Q v H) → r x y H Q
noncomputable def P2 (G : PySem.W.Frag) (r : R2) (rp : PyData → PyData → (OT → Prop) → Prop) : Prop := ∀ (H : Hp) (L : Addr → Prop) (x y : V) (d e : PyData) (k : OT → Prop) (Q : VK), Da G H L x d → Da G H L y e → rp d e k →
  (∀ H' v o new, Same H H' → Own G H' (fun a => (L a ∨ H a = none) ∧ a ∉ new) v o new → new.Nodup → (∀ a ∈ new, H a = none) → k o → Q v H') → r x y H Q
noncomputable def mBinS (rp : PyData → PyData → (PyData → Prop) → Prop) (ma mb : MEt) : MEt := fun δ K => ma δ fun x δ1 => mb δ1 fun y δ2 => rp x.data y.data fun d => K (.fz d) δ2
noncomputable def mBin (rp : PyData → PyData → (OT → Prop) → Prop) (ma mb : MEt) : MEt := fun δ K => ma δ fun x δ1 => mb δ1 fun y δ2 => rp x.data y.data fun d => K d δ2
theorem sBinS {r : R2} {rp} {ta tb : TE} (P : P2s G r rp) (ha : SE G io p c ta ma) (hb : SE G io p' c' tb mb) (hc : p' = true ∨ c = true) : SE G io (p && p') true (tOp r ta tb) (mBinS rp ma mb) := by
  intro C H σ δ fp ex K Q R h k
  refine SE.two (K := fun x y δ2 => rp x.data y.data fun d => K (.fz d) δ2) (Q := fun x y H2 => r x y H2 Q) ha hb hc R h fun H' x y u v δ' fp' R' S q1 q2 h' => ?_
  exact P H' _ x y _ _ _ _ q1 q2 h' fun w d' sc h'' => k H' w _ δ' fp' [] (.fz R' S sc.da) h''
theorem sBin {r : R2} {rp} {ta tb : TE} (P : P2 G r rp) (ha : SE G io p c ta ma) (hb : SE G io p' c' tb mb) (hc : p' = true ∨ c = true) : SE G io (p && p') (c && c') (tOp r ta tb) (mBin rp ma mb) := by
  intro C H σ δ fp ex K Q R h k
  refine SE.two (K := fun x y δ2 => rp x.data y.data fun d => K d δ2) (Q := fun x y H2 => r x y H2 Q) ha hb hc R h fun H' x y u v δ' fp' R' S q1 q2 h' => ?_
  exact P H' _ x y _ _ _ _ q1 q2 h' fun H2 w o new s ow nd hn h'' => k H2 w o δ' fp' new (RE.tree R R' S s hn nd ow) h''
theorem m_opS {op : Operator} {r : R2} {rp} {pos : Pos} (ho : OpR X (binaryOp op) r) (P : P2s X.K r rp) (ha : ME X io p c a ma) (hb : ME X io p' c' b mb) (hc : p' = true ∨ c = true := by first | exact Or.inl rfl | exact Or.inr rfl) : ME X io (p && p') true (.BinOp a op b pos) (mBinS rp ma mb) := by
  obtain ⟨_, A, sa⟩ := ha
  obtain ⟨_, B, sb⟩ := hb
  exact ⟨_, pe_op ho A B, sBinS P sa sb hc⟩
theorem m_op {op : Operator} {r : R2} {rp} {pos : Pos} (ho : OpR X (binaryOp op) r) (P : P2 X.K r rp) (ha : ME X io p c a ma) (hb : ME X io p' c' b mb) (hc : p' = true ∨ c = true := by first | exact Or.inl rfl | exact Or.inr rfl) : ME X io (p && p') (c && c') (.BinOp a op b pos) (mBin rp ma mb) := by
  obtain ⟨_, A, sa⟩ := ha
  obtain ⟨_, B, sb⟩ := hb
  exact ⟨_, pe_op ho A B, sBin P sa sb hc⟩
theorem m_cmp {op : CmpOp} {r : R2} {rp} {pos : Pos} (ho : OpR X (compareOp op) r) (P : P2s X.K r rp) (ha : ME X io p c a ma) (hb : ME X io p' c' b mb) (hc : p' = true ∨ c = true := by first | exact Or.inl rfl | exact Or.inr rfl) (hm : behindInMarks op b = false) : ME X io (p && p') true (.Compare a [op] [b] pos) (mBinS rp ma mb) := by
  obtain ⟨_, A, sa⟩ := ha
  obtain ⟨_, B, sb⟩ := hb
  exact ⟨_, pe_cmpR ho A B hm, sBinS P sa sb hc⟩
theorem m_ix {r : R2} {rp} {pos : Pos} (ho : IxR X r) (P : P2 X.K r rp) (ha : ME X io p c a ma) (hb : ME X io p' c' b mb) (hc : p' = true ∨ c = true := by first | exact Or.inl rfl | exact Or.inr rfl) (hs : PlainIx b) : ME X io (p && p') (c && c') (.Subscript a b pos) (mBin rp ma mb) := by
  obtain ⟨_, A, sa⟩ := ha
  obtain ⟨_, B, sb⟩ := hb
  exact ⟨_, pe_ix ho A B hs, sBin P sa sb hc⟩
noncomputable def kB (K : Bool → DEnv → Prop) : OT → DEnv → Prop := fun o δ => match o with | .fz (.bool b) => K b δ | _ => False
theorem sTest {t : TE} (h : SE G io p c t m) : STt G io p (tTest t) (fun δ K => m δ (kB K)) := by
  intro C H σ δ fp ex K Q R h' k
  refine h C H σ δ fp ex _ _ R h' fun H' v r δ' fp' new r1 h1 => ?_
  cases r with
  | nd ts => exact h1.elim
  | tp ts => exact h1.elim
  | fz d =>
    cases d with
    | bool b =>
      cases r1.own with
      | fz q =>
        cases q
        exact ⟨b, rfl, k H' b δ' fp' r1.base r1.stp h1⟩
    | _ => exact h1.elim
theorem mt_cmp {op : CmpOp} {r : R2} {rp} {pos : Pos} (ho : OpR X (compareOp op) r) (P : P2s X.K r rp) (ha : ME X io p c a ma) (hb : ME X io p' c' b mb) (hc : p' = true ∨ c = true := by first | exact Or.inl rfl | exact Or.inr rfl) (hm : behindInMarks op b = false) :
    MT X io (p && p') (.Compare a [op] [b] pos) (fun δ K => mBinS rp ma mb δ (kB K)) := by
  obtain ⟨_, A, sa⟩ := ha
  obtain ⟨_, B, sb⟩ := hb
  exact ⟨_, pt_cmpR ho A B hm, sTest (sBinS P sa sb hc)⟩
end
end L2
namespace L2
open PySem PySem.Spec PyProof.Rows
variable {G : PySem.W.Frag}
section
variable {X : Cx} {io : List Nat} {p p' p'' c c' : Bool} {e a b : Expr} {m ma mb : MEt} {es rest : List Expr} {ta tb : MTt} {pos : Pos}
noncomputable def mNot (t : MTt) : MTt := fun δ K => t δ fun b δ' => K (!b) δ'
noncomputable def mOr (t u : MTt) : MTt := fun δ K => t δ fun b δ' => if b = true then K true δ' else u δ' K
theorem mt_not (h : MT X io p a ta) : MT X io p (.UnaryOp .Not a pos) (mNot ta) := by
  obtain ⟨_, A, sa⟩ := h
  exact ⟨_, pt_not A, fun C H σ δ fp ex K Q R h k => sa C H σ δ fp ex _ _ R h fun H' b δ' fp' R' S h' => k H' (!b) δ' fp' R' S h'⟩
theorem mw_or1 (h : MT X io p a ta) : MW X io p (.BoolOp .Or [a] pos) ta := by
  obtain ⟨_, A, sa⟩ := h
  exact ⟨_, pw_or1 A, sa⟩
theorem Stp.andL {H H' : Hp} {δ δ' : DEnv} {fp fp' : Fp} (S : Stp p H δ fp H' δ' fp') : Stp (p && p') H δ fp H' δ' fp' := by
  have := S.trans (Stp.refl p' H' δ' fp')
  exact this
theorem mw_or (h : MT X io p a ta) (g : MW X io p' (.BoolOp .Or (b :: rest) pos) tb) : MW X io (p && p') (.BoolOp .Or (a :: b :: rest) pos) (mOr ta tb) := by
  obtain ⟨_, A, sa⟩ := h
  obtain ⟨_, B, sb⟩ := g
  exact ⟨_, pw_or A B, fun C H σ δ fp ex K Q R h k => sa C H σ δ fp ex _ _ R h fun H' b δ' fp' R' S h' => by
    cases b with
    | true =>
      rw [if_pos rfl] at h' ⊢
      exact k H' true δ' fp' R' S.andL h'
    | false =>
      rw [if_neg Bool.false_ne_true] at h' ⊢
      exact sb C H' σ δ' fp' ex _ _ R' h' fun H2 b2 δ2 fp2 R2 S2 h2 => k H2 b2 δ2 fp2 R2 (S.trans S2) h2⟩
theorem MW.mt (h : MW X io p e ta) : MT X io p e ta := by
  obtain ⟨_, A, sa⟩ := h
  exact ⟨_, A.pt, sa⟩
noncomputable def truD : PyData → Option Bool
  | .none => some false
  | .bool b => some b
  | .int i => some (i != 0)
  | .list ds => some (!ds.isEmpty)
  | .tuple ds => some (!ds.isEmpty)
  | _ => none
noncomputable def mTru (m : MEt) : MTt := fun δ K => m δ fun r δ' => match truD r.data with | some b => K b δ' | none => False
theorem Das.isEmpty {H : Hp} {L : Addr → Prop} {xs : List V} {ds : List PyData} (h : Das G H L xs ds) : xs.isEmpty = ds.isEmpty := by cases h <;> rfl
theorem mt_tru (ha : ME X io p c a ma) (he : ∀ whole, isTrue a X.env whole = (do let v ← whole; standAt a.pos; holding [v] (truthy v))) : MT X io p a (mTru ma) := by
  obtain ⟨_, A, sa⟩ := ha
  exact ⟨_, pt_truK rfl A he, fun C H σ δ fp ex K' Q R h k => sa C H σ δ fp ex _ _ R h fun H' v r δ' fp' new r1 h1 => by
    have q := r1.da R
    generalize r.data = d at q h1
    cases q with
    | non => exact ⟨_, rfl, k H' _ δ' fp' r1.base r1.stp h1⟩
    | bl b => exact ⟨_, rfl, k H' _ δ' fp' r1.base r1.stp h1⟩
    | int b => exact ⟨_, rfl, k H' _ δ' fp' r1.base r1.stp h1⟩
    | str x => exact h1.elim
    | lst _ e q => exact ⟨_, .inl ⟨_, .inl e, rfl⟩, k H' _ δ' fp' r1.base r1.stp (by rw [q.isEmpty]; exact h1)⟩
    | tup e q => exact ⟨_, .inr (.inl ⟨_, .inl (.inl e), rfl⟩), k H' _ δ' fp' r1.base r1.stp (by rw [q.isEmpty]; exact h1)⟩
    | scr q => exact ⟨_, .inl ⟨_, q.sq, rfl⟩, k H' _ δ' fp' r1.base r1.stp (by simpa [truD] using h1)⟩
    | exc _ _ _ => exact h1.elim
    | fn _ => exact h1.elim⟩
noncomputable def asB (d : PyData) (k : Bool → Prop) : Prop := match d with | .bool b => k b | _ => False
noncomputable def mAndV (a b : MEt) : MEt := fun δ K => a δ fun x δ1 => asB x.data fun c => if c = true then b δ1 K else K (.fz (.bool false)) δ1
noncomputable def mNotV (a : MEt) : MEt := fun δ K => a δ fun x δ1 => asB x.data fun c => K (.fz (.bool (!c))) δ1
theorem Da.boolInv {H : Hp} {L : Addr → Prop} {v : V} {d : PyData} {k : Bool → Prop} (q : Da G H L v d) (h : asB d k) : ∃ b, v = .bl b ∧ k b := by
  cases q with
  | bl b => exact ⟨b, rfl, h⟩
  | _ => exact h.elim
theorem RE.step {C : MC G} {H H1 H2 : Hp} {σ : St} {δ δ1 δ2 : DEnv} {fp fp1 fp2 : Fp} {ex : Addr → Prop} {v : V} {r : OT} {new : List Addr} (S : Stp p H δ fp H1 δ1 fp1) (R : RE C io p' c H1 σ δ1 fp1 ex H2 v r δ2 fp2 new) :
    RE C io (p && p') c H σ δ fp ex H2 v r δ2 fp2 new := ⟨R.rel, S.trans R.stp, R.own, R.nd, fun a m => S.al a (R.fresh a m)⟩
theorem m_one {op} (h : ME X io p c a ma) : ME X io p c (.BoolOp op [a] pos) ma := by
  obtain ⟨_, A, sa⟩ := h
  exact ⟨_, pe_one A, sa⟩
theorem m_and (ha : ME X io p c a ma) (hb : ME X io p' c' (.BoolOp .And (b :: rest) pos) mb) : ME X io (p && p') c' (.BoolOp .And (a :: b :: rest) pos) (mAndV ma mb) := by
  obtain ⟨_, A, sa⟩ := ha
  obtain ⟨_, B, sb⟩ := hb
  exact ⟨_, pe_and A B, fun C H σ δ fp ex K Q R h k => sa C H σ δ fp ex _ _ R h fun H' v r δ' fp' new r1 h1 => by
    obtain ⟨b, rfl, h1⟩ := (r1.da R).boolInv h1
    refine ⟨b, rfl, ?_⟩
    cases b with
    | true =>
      rw [if_pos rfl] at h1 ⊢
      exact sb C H' σ δ' fp' ex _ _ r1.base h1 fun H2 w r2 δ2 fp2 new2 R2 h2 => k H2 w r2 δ2 fp2 new2 (R2.step r1.stp) h2
    | false =>
      rw [if_neg Bool.false_ne_true] at h1 ⊢
      exact k H' _ _ δ' fp' [] (RE.fz r1.base r1.stp.andL (.bl false)) h1⟩
theorem m_not (ha : ME X io p c a ma) : ME X io p true (.UnaryOp .Not a pos) (mNotV ma) := by
  obtain ⟨_, A, sa⟩ := ha
  exact ⟨_, pe_not A, fun C H σ δ fp ex K Q R h k => sa C H σ δ fp ex _ _ R h fun H' v r δ' fp' new r1 h1 => by
    obtain ⟨b, rfl, h1⟩ := (r1.da R).boolInv h1
    exact ⟨b, rfl, k H' _ _ δ' fp' [] (RE.fz r1.base r1.stp (.bl _)) h1⟩⟩
theorem Stp.cast {p p' : Bool} {H H' : Hp} {δ δ' : DEnv} {fp fp' : Fp} (h : p' = true → p = true) (S : Stp p H δ fp H' δ' fp') : Stp p' H δ fp H' δ' fp' :=
  ⟨fun b o e q => S.keep b o e (q.imp h id), fun q => S.env (h q), S.grow, S.al⟩
end
section
variable {X : Cx} {io : List Nat} {p p' p'' c c' : Bool} {e a b : Expr} {m ma mb : MEt} {es rest : List Expr} {mr : MAt} {pos : Pos}
noncomputable def mNil : MAt := fun δ K => K [] δ
noncomputable def mCons (m : MEt) (mr : MAt) : MAt := fun δ K => m δ fun r δ1 => mr δ1 fun rs δ2 => K (r :: rs) δ2
theorem ma_nil : MA X io true true [] mNil := ⟨_, pa_nil, fun C H σ δ fp ex K Q R h k => k H [] [] δ fp [] ⟨R.drop fun a z => exu_nil.mp z, .refl _ _ _ _, .nil, .nil, fun a m => nomatch m⟩ h⟩
theorem ma_cons (ha : ME X io p c e m) (hr : MA X io p' c' es mr) (hc : p' = true ∨ c = true) (hs : starEach (e :: es) X.env = (false, eval e X.env) :: starEach es X.env := by rfl) : MA X io (p && p') (c && c') (e :: es) (mCons m mr) := by
  obtain ⟨tA, A, sa⟩ := ha
  obtain ⟨tB, B, sb⟩ := hr
  refine ⟨_, pa_cons A B hs, fun C H σ δ fp ex K Q R h k => ?_⟩
  refine sa C H σ δ fp ex _ _ R h fun H1 x u δ1 fp1 new1 r1 h1 => ?_
  refine sb C H1 σ δ1 fp1 (exu ex new1) _ _ r1.rel h1 fun H2 ys us δ2 fp2 new2 r2 h2 => ?_
  have o1 := r1.rel.own_step (ex' := exu (exu ex new1) new2) r2.stp (c := c) hc (fun a z => z.imp id fun z => r2.fresh a z) (fun a m => .inr m) r1.own
  have eqx : ∀ a, exu ex (new1 ++ new2) a → exu (exu ex new1) new2 a := fun a z => by
    rcases z with z | z
    · exact .inl (.inl z)
    · rcases List.mem_append.mp z with z | z
      · exact .inl (.inr z)
      · exact .inr z
  refine k H2 (x :: ys) (u :: us) δ2 fp2 (new1 ++ new2) ⟨r2.rel.drop eqx, r1.stp.trans r2.stp, .cons (o1.wide fun a l _ z => ?_) (r2.own.wide fun a l _ z => ?_), ?_, ?_⟩ h2
  · have l := l (by rw [Bool.and_eq_true] at z; exact z.1)
    exact ⟨l.1, fun w => l.2.1 (eqx a w), l.2.2⟩
  · have l := l (by rw [Bool.and_eq_true] at z; exact z.2)
    exact ⟨l.1, fun w => l.2.1 (eqx a w), l.2.2⟩
  · refine List.nodup_append.mpr ⟨r1.nd, r2.nd, fun a m b m' z => ?_⟩
    subst z
    obtain ⟨xs, e⟩ := r1.own.some a m
    rw [r2.fresh a m'] at e
    cases e
  · intro a m
    rcases List.mem_append.mp m with m | m
    · exact r1.fresh a m
    · exact r1.stp.al a (r2.fresh a m)
noncomputable def mLst (m : MAt) : MEt := fun δ K => m δ fun rs δ' => rs.length ≤ sizeLine ∧ K (.nd rs) δ'
theorem m_lst (h : MA X io p c es mr) : ME X io p c (.List es pos) (mLst mr) := by
  obtain ⟨tA, A, sa⟩ := h
  refine ⟨_, pe_lst A, fun C H σ δ fp ex K Q R h k => ?_⟩
  refine sa C H σ δ fp ex _ _ R h fun H1 vs rs δ1 fp1 new1 r1 h1 => ⟨by rw [r1.own.length]; exact h1.1, fun q hq => ?_⟩
  have s := same_new hq (.lst vs)
  have S := r1.stp.trans (p' := true) (Stp.same (p := true) (δ := δ1) (fp := fp1) s s.al)
  rw [Bool.and_true] at S
  have hqn : q ∉ new1 := fun m => by
    obtain ⟨xs, e⟩ := r1.own.some q m
    rw [hq] at e; cases e
  have R2 := (r1.rel.made (new := [q]) s fun a m => by
    rcases List.mem_singleton.mp m with rfl
    exact ⟨hq, by rw [upd_same]; intro z; cases z⟩)
  have eqx : ∀ a, exu ex (q :: new1) a → exu (exu ex new1) [q] a := fun a z => by
    rcases z with z | z
    · exact .inl (.inl z)
    · rcases List.mem_cons.mp z with z | z
      · exact .inr (List.mem_singleton.mpr z)
      · exact .inl (.inr z)
  refine k _ _ _ δ1 fp1 (q :: new1) ⟨R2.drop eqx, S, .nd upd_same ((r1.own.wide fun a l w z => ?_).same s), List.nodup_cons.mpr ⟨hqn, r1.nd⟩, fun a m => ?_⟩ h1.2
  · have l := l z
    refine ⟨l.1, fun y => ?_, l.2.2⟩
    rcases eqx a y with y | y
    · exact l.2.1 y
    · rcases List.mem_singleton.mp y with rfl
      exact w hq
  · rcases List.mem_cons.mp m with rfl | m
    · exact r1.stp.al _ hq
    · exact r1.fresh a m
end
end L2
namespace L2
open PySem PySem.Spec PyProof.Rows
variable {G : PySem.W.Frag}
noncomputable def spD (G : PySem.W.Frag) (S : List PyData → (OT → Prop) → Prop) : Sp := fun vs H Q _ => ∃ L ds k, Das G H L vs ds ∧ S ds k ∧
  ∀ r v H' new, k r → Same H H' → Own G H' (fun a => (L a ∨ H a = none) ∧ a ∉ new) v r new → new.Nodup → (∀ a ∈ new, H a = none) → Q v H'
noncomputable def spI (G : PySem.W.Frag) (S : OT → List PyData → (OT → OT → Prop) → Prop) : Sp := fun vs H Q _ => ∃ L v0 t0 as vs' ds k, vs = v0 :: vs' ∧ Own G H L v0 t0 as ∧ as.Nodup ∧ (∀ a ∈ as, ¬ L a) ∧ Das G H L vs' ds ∧ S t0 ds k ∧
  ∀ r t' v H' new as', k r t' → (∀ b o, H b = some o → b ∉ as → H' b = some o) → (∀ b, H' b = none → H b = none) →
    Own G H' (fun a => (L a ∨ H a = none) ∧ a ∉ new ∧ a ∉ as') v r new → Own G H' (fun a => (L a ∨ H a = none) ∧ a ∉ new ∧ a ∉ as') v0 t' as' → (as' ++ new).Nodup → (∀ a ∈ new, H a = none) → (∀ a ∈ as', a ∈ as ∨ H a = none) → Q v H'
section
variable {X : Cx} {io : List Nat} {p p' p'' c c' : Bool} {e a b : Expr} {m ma mb : MEt} {es rest : List Expr} {mr : MAt} {pos : Pos}
variable {CX : CXT} {k : Nat} {f : Addr} {fd : FuncData} {ps : List Str} {E : XK} {x : Str} {pp : Pos}
noncomputable def mCall (S : List PyData → (OT → Prop) → Prop) (mr : MAt) : MEt := fun δ K => mr δ fun rs δ1 => S (OT.datas rs) fun r => K r δ1
theorem sCall {S} {t : TA} (sa : SA G io p c t mr) : SE G io p c (tCall (spD G S) [] E t) (mCall S mr) := by
  intro C H σ δ fp ex K Q R h kk
  refine sa C H σ δ fp ex _ _ R h fun H1 vs rs δ1 fp1 new1 r1 h1 => ?_
  rw [List.append_nil]
  refine ⟨_, _, _, r1.das R, h1, fun r v H' new kr s o nd hn => ?_⟩
  exact kk H' v r δ1 fp1 new (RE.tree R r1.base r1.stp s hn nd o) kr
theorem m_call {S} (F : FnOk X.prog X.w X.K X.mg X.base CX k f fd ps (spD X.K S)) (hr : Room k X.A) (hg : Gl X x) (hm : X.mg x = some (.ref f)) (hk : PySem.W.keepIn X.K (.ref f) = true) (hb : Binds X.K fd ps []) (hx : Passes CX X E)
    (ha : MA X io p c (e :: es) mr) (hdb : (x == ("__debug__" : Str)) = false := by decide) (he : starEach (e :: es) X.env = (false, eval e X.env) :: starEach es X.env := by rfl) (hpl : (backTo pos (starEach es X.env)).any (·.1) = false := by rfl) :
    ME X io p c (.Call (.Name x pp) (e :: es) [] pos) (mCall S mr) := by
  obtain ⟨_, A, sa⟩ := ha
  exact ⟨_, pe_call F hr hg hm hk hb .nil hx A hdb he hpl, sCall sa⟩
noncomputable def mCallI (i : Nat) (S : OT → List PyData → (OT → OT → Prop) → Prop) (mr : MAt) : MEt := fun δ K => match δ[i]? with
  | some (some _) => mr δ fun rs δ1 => match δ1[i]? with
    | some (some t) => S t (OT.datas rs) fun r t' => K r (δ1.set i (some t'))
    | _ => False
  | _ => False
noncomputable def fpu (fp : Fp) (i : Nat) (as : List Addr) : Fp := fun j => if j = i then as else fp j
theorem fpu_same {fp : Fp} {i : Nat} {as : List Addr} : fpu fp i as i = as := if_pos rfl
theorem fpu_ne {fp : Fp} {i j : Nat} {as : List Addr} (h : j ≠ i) : fpu fp i as j = fp j := if_neg h
theorem Foot.of_u {fp : Fp} {i : Nat} {as : List Addr} {a : Addr} (h : Foot (fpu fp i as) a) : a ∈ as ∨ ∃ j, j ≠ i ∧ a ∈ fp j := by
  obtain ⟨j, h⟩ := h
  by_cases e : j = i
  · subst e; rw [fpu_same] at h; exact .inl h
  · rw [fpu_ne e] at h; exact .inr ⟨j, e, h⟩
theorem Rel.change {C : MC G} {H H' : Hp} {σ : St} {δ : DEnv} {fp : Fp} {ex : Addr → Prop} {i : Nat} {t t' : OT} {v : V} {as' new : List Addr} (R : Rel C io H σ δ fp ex) (hi : δ[i]? = some (some t)) (hv : σ[i]? = some (some v))
    (keep : ∀ b o, H b = some o → b ∉ fp i → H' b = some o) (al : ∀ b, H' b = none → H b = none) (o : Own G H' (Lf C (fpu fp i as') (exu ex new)) v t' as') (nd : as'.Nodup) (new' : ∀ a ∈ as', a ∈ fp i ∨ H a = none)
    (hn : ∀ a ∈ new, H a = none ∧ H' a ≠ none ∧ a ∉ as') :
    Rel C io H' σ (δ.set i (some t')) (fpu fp i as') (exu ex new) ∧ Stp false H δ fp H' (δ.set i (some t')) (fpu fp i as') := by
  have hil : i < δ.length := (List.getElem?_eq_some_iff.mp hi).1
  have apart : ∀ j a, j ≠ i → a ∈ fp j → a ∉ as' := fun j a e m z => by
    rcases new' a z with z | z
    · exact e (R.dj j i a m z)
    · exact R.footSome z ⟨j, m⟩
  constructor
  · refine ⟨by rw [List.length_set]; exact R.len, fun j t'' e => ?_, fun j h => ?_, fun j => ?_, fun j k a h1 h2 => ?_, fun j a h z => ?_, fun a z w => z.elim (fun z => R.xa a z (al a w)) (fun z => (hn a z).2.1 w), fun b ob e n => ?_, fun b z => R.al b (al b z), fun j a h => ?_, R.io⟩
    · by_cases ej : j = i
      · subst ej
        rw [List.getElem?_set_self hil] at e
        cases e
        exact ⟨v, hv, by rw [fpu_same]; exact o⟩
      · rw [List.getElem?_set_ne (Ne.symm ej)] at e
        obtain ⟨w, e1, o1⟩ := R.own j t'' e
        refine ⟨w, e1, ?_⟩
        rw [fpu_ne ej]
        refine o1.frame (fun a xs l q => ?_) (fun a xs q => keep a _ q fun z => ?_) fun a m xs q => keep a _ q fun z => ej (R.dj j i a m z)
        · have na : a ∉ fp i := fun z => l.1 ⟨i, z⟩
          refine ⟨⟨fun z => ?_, fun z => z.elim l.2.1 fun z => q.some (hn a z).1, l.2.2⟩, ?_⟩
          · rcases z.of_u with z | ⟨k, _, z⟩
            · rcases new' a z with z | z
              · exact na z
              · exact q.some z
            · exact l.1 ⟨k, z⟩
          · rcases q with q | ⟨u, q⟩
            · exact .inl (keep a _ q na)
            · exact .inr ⟨u, keep a _ q na⟩
        · obtain ⟨ys, e⟩ := R.foot ⟨i, z⟩
          exact ImO.nl q e
    · by_cases ej : j = i
      · subst ej
        exact absurd (List.getElem?_set_self hil) (h t')
      · rw [fpu_ne ej]
        refine R.emp j fun t'' z => h t'' ?_
        rw [List.getElem?_set_ne (Ne.symm ej)]
        exact z
    · by_cases ej : j = i
      · subst ej; rw [fpu_same]; exact nd
      · rw [fpu_ne ej]; exact R.nd j
    · by_cases ej : j = i
      · subst ej
        rw [fpu_same] at h1
        by_cases ek : k = j
        · exact ek.symm
        · rw [fpu_ne ek] at h2
          exact absurd h1 (apart k a ek h2)
      · rw [fpu_ne ej] at h1
        by_cases ek : k = i
        · subst ek
          rw [fpu_same] at h2
          exact absurd h2 (apart j a ej h1)
        · rw [fpu_ne ek] at h2
          exact R.dj j k a h1 h2
    · by_cases ej : j = i
      · subst ej
        rw [fpu_same] at h
        rcases z with z | z
        · rcases new' a h with w | w
          · exact R.dx _ a w z
          · exact R.xa a z w
        · exact (hn a z).2.2 h
      · rw [fpu_ne ej] at h
        rcases z with z | z
        · exact R.dx j a h z
        · exact R.footSome (hn a z).1 ⟨j, h⟩
    · refine keep b ob (R.fr b ob e n) fun z => ?_
      rcases R.new i b z with w | w
      · exact n w.2
      · rw [e] at w; cases w
    · by_cases ej : j = i
      · subst ej
        rw [fpu_same] at h
        rcases new' a h with w | w
        · exact R.new _ a w
        · exact .inr (R.al a w)
      · rw [fpu_ne ej] at h
        exact R.new j a h
  · refine ⟨fun b ob e q => keep b ob e fun z => (q.resolve_left (by decide)) ⟨i, z⟩, fun z => (nomatch z), fun a z => ?_, al⟩
    rcases z.of_u with z | ⟨j, _, z⟩
    · exact (new' a z).imp (fun w => ⟨i, w⟩) id
    · exact .inl ⟨j, z⟩
theorem sCallI {S} {i : Nat} {t : TA} (sa : SA G io p true t mr) : SE G io false true (tCall (spI G S) [] E (tCons (tVar i) t)) (mCallI i S mr) := by
  intro C H σ δ fp ex K Q R h kk
  unfold mCallI at h
  split at h
  case h_2 => exact h.elim
  rename_i t0 hi0
  obtain ⟨v0, hv, _⟩ := R.own i t0 hi0
  refine ⟨v0, hv, ?_⟩
  refine sa C H σ δ fp ex _ _ R h fun H1 vs rs δ1 fp1 new1 r1 h1 => ?_
  show spI G S ((v0 :: vs) ++ []) H1 Q E
  rw [List.append_nil]
  split at h1
  case h_2 => exact h1.elim
  rename_i t1 hi1
  have R1 := r1.base
  obtain ⟨v1, hv1, o1⟩ := R1.own i t1 hi1
  rw [hv] at hv1
  cases hv1
  refine ⟨Lf C fp1 ex, v0, t1, fp1 i, vs, _, _, rfl, o1, R1.nd i, fun a m l => l.1 ⟨i, m⟩, (r1.das R).wide fun a l _ => l rfl, h1, ?_⟩
  intro r t' v H' new as' kr keep al orr ot nd hn ha
  have nd2 := List.nodup_append.mp nd
  have lw : ∀ a, ((Lf C fp1 ex a ∨ H1 a = none) ∧ a ∉ new ∧ a ∉ as') → H' a ≠ none → Lf C (fpu fp1 i as') (exu ex new) a := fun a l _ => by
    have hf : ¬ Foot (fpu fp1 i as') a := fun z => by
      rcases z.of_u with z | ⟨j, _, z⟩
      · exact l.2.2 z
      · rcases l.1 with l1 | l1
        · exact l1.1 ⟨j, z⟩
        · exact R1.footSome l1 ⟨j, z⟩
    rcases l.1 with l1 | l1
    · exact ⟨hf, fun z => z.elim l1.2.1 l.2.1, l1.2.2⟩
    · have := R1.newOk l1
      exact ⟨hf, fun z => z.elim this.2.1 l.2.1, .inr this.2.2⟩
  have hnn : ∀ a ∈ new, H' a ≠ none := fun a m z => by
    obtain ⟨xs, e⟩ := orr.some a m
    rw [z] at e; cases e
  obtain ⟨R2, S2⟩ := R1.change (new := new) hi1 hv keep al (ot.wide lw) nd2.1 ha (fun a m => ⟨hn a m, hnn a m, fun z => nd2.2.2 a z a m rfl⟩)
  refine kk H' v r _ _ new ⟨R2, ?_, orr.wide fun a l q _ => lw a l q, nd2.2.1, fun a m => r1.stp.al a (hn a m)⟩ kr
  exact (r1.stp.trans S2).cast fun z => nomatch z
theorem m_callI {S} {i : Nat} {y : Str} {py : Pos} (F : FnOk X.prog X.w X.K X.mg X.base CX k f fd ps (spI X.K S)) (hr : Room k X.A) (hg : Gl X x) (hm : X.mg x = some (.ref f)) (hk : PySem.W.keepIn X.K (.ref f) = true) (hb : Binds X.K fd ps []) (hx : Passes CX X E)
    (ha : MA X io p true es mr) (hN : X.N[i]? = some y := by rfl) (hv : Vis X.env.scope y := by first | exact Or.inl rfl | exact Or.inr (Or.inl rfl) | exact Or.inr (Or.inr rfl)) (hd : (y == ("__debug__" : Str)) = false := by decide)
    (hcd : (y == ("__classdict__" : Str)) = false := by decide)
    (hdb : (x == ("__debug__" : Str)) = false := by decide) (he : starEach (.Name y py :: es) X.env = (false, eval (.Name y py) X.env) :: starEach es X.env := by rfl) (hpl : (backTo pos (starEach es X.env)).any (·.1) = false := by rfl) :
    ME X io false true (.Call (.Name x pp) (.Name y py :: es) [] pos) (mCallI i S mr) := by
  obtain ⟨_, A, sa⟩ := ha
  exact ⟨_, pe_call F hr hg hm hk hb .nil hx (pa_cons (pv i hN hv hd hcd) A he) hdb he hpl, sCallI sa⟩
noncomputable def PNs (G : PySem.W.Frag) (r : List V → Hp → VK → Prop) (rp : List PyData → (PyData → Prop) → Prop) : Prop := ∀ (H : Hp) (L : Addr → Prop) (xs : List V) (ds : List PyData) (k : PyData → Prop) (Q : VK), Das G H L xs ds → rp ds k → (∀ v d', ScD v d' → k d' → Q v H) → r xs H Q
noncomputable def PN (G : PySem.W.Frag) (r : List V → Hp → VK → Prop) (rp : List PyData → (OT → Prop) → Prop) : Prop := ∀ (H : Hp) (L : Addr → Prop) (xs : List V) (ds : List PyData) (k : OT → Prop) (Q : VK), Das G H L xs ds → rp ds k →
  (∀ H' v o new, Same H H' → Own G H' (fun a => (L a ∨ H a = none) ∧ a ∉ new) v o new → new.Nodup → (∀ a ∈ new, H a = none) → k o → Q v H') → r xs H Q
noncomputable def mBlS (rp : List PyData → (PyData → Prop) → Prop) (mr : MAt) : MEt := fun δ K => mr δ fun rs δ1 => rp (OT.datas rs) fun d => K (.fz d) δ1
noncomputable def mBl (rp : List PyData → (OT → Prop) → Prop) (mr : MAt) : MEt := fun δ K => mr δ fun rs δ1 => rp (OT.datas rs) fun o => K o δ1
theorem sBlS {r rp} {t : TA} (P : PNs G r rp) (sa : SA G io p c t mr) : SE G io p true (tCB r t) (mBlS rp mr) := fun C H σ δ fp ex K Q R h kk =>
  sa C H σ δ fp ex _ _ R h fun H1 vs rs δ1 fp1 new1 r1 h1 => P H1 _ vs _ _ _ (r1.das R) h1 fun v d' sc h2 => kk H1 v _ δ1 fp1 [] (.fz r1.base r1.stp sc.da) h2
theorem sBl {r rp} {t : TA} (P : PN G r rp) (sa : SA G io p c t mr) : SE G io p c (tCB r t) (mBl rp mr) := fun C H σ δ fp ex K Q R h kk =>
  sa C H σ δ fp ex _ _ R h fun H1 vs rs δ1 fp1 new1 r1 h1 => P H1 _ vs _ _ _ (r1.das R) h1 fun H' v o new s ow nd hn h2 => kk H' v o δ1 fp1 new (RE.tree R r1.base r1.stp s hn nd ow) h2
variable {id T : String} {r : List V → Hp → VK → Prop}
theorem m_blS {rp} (P : PNs X.K r rp) (hc : CallR X (.builtin id) r) (hg : Gl X x) (hm : X.mg x = none) (hv : bootBuiltins x = some (.builtin id)) (ha : MA X io p c (e :: es) mr) (hn : x ≠ "__name__" := by decide) (hdb : (x == ("__debug__" : Str)) = false := by decide)
    (he : starEach (e :: es) X.env = (false, eval e X.env) :: starEach es X.env := by rfl) (hpl : (backTo pos (starEach es X.env)).any (·.1) = false := by rfl) : ME X io p true (.Call (.Name x pp) (e :: es) [] pos) (mBlS rp mr) := by
  obtain ⟨_, A, sa⟩ := ha
  exact ⟨_, pe_callB hc hg hm hv A hn hdb he hpl, sBlS P sa⟩
theorem m_tyS {rp} (P : PNs X.K r rp) (hc : CallR X (.type T) r) (hg : Gl X x) (hm : X.mg x = none) (hv : bootBuiltins x = some (.type T)) (ha : MA X io p c (e :: es) mr) (hn : x ≠ "__name__" := by decide) (hdb : (x == ("__debug__" : Str)) = false := by decide)
    (he : starEach (e :: es) X.env = (false, eval e X.env) :: starEach es X.env := by rfl) (hpl : (backTo pos (starEach es X.env)).any (·.1) = false := by rfl) : ME X io p true (.Call (.Name x pp) (e :: es) [] pos) (mBlS rp mr) := by
  obtain ⟨_, A, sa⟩ := ha
  exact ⟨_, pe_callTy hc hg hm hv A hn hdb he hpl, sBlS P sa⟩
theorem m_ty {rp} (P : PN X.K r rp) (hc : CallR X (.type T) r) (hg : Gl X x) (hm : X.mg x = none) (hv : bootBuiltins x = some (.type T)) (ha : MA X io p c (e :: es) mr) (hn : x ≠ "__name__" := by decide) (hdb : (x == ("__debug__" : Str)) = false := by decide)
    (he : starEach (e :: es) X.env = (false, eval e X.env) :: starEach es X.env := by rfl) (hpl : (backTo pos (starEach es X.env)).any (·.1) = false := by rfl) : ME X io p c (.Call (.Name x pp) (e :: es) [] pos) (mBl rp mr) := by
  obtain ⟨_, A, sa⟩ := ha
  exact ⟨_, pe_callTy hc hg hm hv A hn hdb he hpl, sBl P sa⟩
end
end L2
namespace L2
open PySem PySem.Spec PyProof.Rows
variable {G : PySem.W.Frag}
mutual
noncomputable def flatD : PyData → Bool
  | .none => true
  | .bool _ => true
  | .int _ => true
  | .str _ => true
  | .tuple ds => flatDs ds
  | .list _ => false
  | .dict _ => false
noncomputable def flatDs : List PyData → Bool
  | [] => true
  | d :: ds => flatD d && flatDs ds
end
theorem Da.flat2 {H : Hp} {L L' : Addr → Prop} : (∀ {v : V} {d : PyData}, Da G H L v d → flatD d = true → Da G H L' v d) ∧ ∀ {v : List V} {d : List PyData}, Das G H L v d → flatDs d = true → Das G H L' v d :=
  Da.both (fun _ => .non) (fun b _ => .bl b) (fun i _ => .int i) (fun x _ => .str x) (fun _ _ _ h => by rw [flatD] at h; cases h) (fun e r h => .tup e (r (by rw [flatD] at h; exact h))) (fun k _ => .scr k) (fun c n e _ => .exc c n e) (fun k _ => .fn k) (fun _ => .nil)
    (fun k r h => by rw [flatDs, Bool.and_eq_true] at h; exact .cons (k h.1) (r h.2))
theorem Da.flat {H : Hp} {L L' : Addr → Prop} {v : V} {d : PyData} (h : Da G H L v d) (f : flatD d = true) : Da G H L' v d := Da.flat2.1 h f
set_option genInjectivity false in
structure EndsM where
  nx : DEnv → Prop
  rt : OT → DEnv → Prop
  bk : DEnv → Prop := fun _ => False
  ct : DEnv → Prop := fun _ => False
noncomputable abbrev MSt := EndsM → DEnv → Prop
noncomputable abbrev Kp (H : Hp) (fp : Fp) (H' : Hp) (fp' : Fp) : Prop := Stp false H [] fp H' [] fp'
theorem Stp.kp {p : Bool} {H H' : Hp} {δ δ' : DEnv} {fp fp' : Fp} (S : Stp p H δ fp H' δ' fp') : Kp H fp H' fp' := ⟨fun b o e q => S.keep b o e (.inr (q.resolve_left (by decide))), fun z => (nomatch z), S.grow, S.al⟩
theorem Kp.trans {H H1 H2 : Hp} {fp fp1 fp2 : Fp} (a : Kp H fp H1 fp1) (b : Kp H1 fp1 H2 fp2) : Kp H fp H2 fp2 := Stp.trans a b
theorem Kp.refl (H : Hp) (fp : Fp) : Kp H fp H fp := Stp.refl _ _ _ _
structure RelEnds (C : MC G) (io : List Nat) (ex : Addr → Prop) (H : Hp) (fp : Fp) (D : EndsM) (D' : Ends) : Prop where
  nx : ∀ H' σ' δ' fp', Rel C io H' σ' δ' fp' ex → Kp H fp H' fp' → D.nx δ' → D'.nx σ' H'
  bk : ∀ H' σ' δ' fp', Rel C io H' σ' δ' fp' ex → Kp H fp H' fp' → D.bk δ' → D'.bk σ' H'
  ct : ∀ H' σ' δ' fp', Rel C io H' σ' δ' fp' ex → Kp H fp H' fp' → D.ct δ' → D'.ct σ' H'
  rt : ∀ H' σ' v r δ' fp' new, Rel C io H' σ' δ' fp' (exu ex new) → Own G H' (Lf C fp' (exu ex new)) v r new → new.Nodup → (∀ a ∈ new, C.H₀ a = none) → D.rt r δ' → D'.rt v H'
theorem RelEnds.shift {C : MC G} {io : List Nat} {ex : Addr → Prop} {H H1 : Hp} {fp fp1 : Fp} {D : EndsM} {D' : Ends} (E : RelEnds C io ex H fp D D') (k : Kp H fp H1 fp1) : RelEnds C io ex H1 fp1 D D' :=
  ⟨fun H' σ' δ' fp' R q => E.nx H' σ' δ' fp' R (k.trans q), fun H' σ' δ' fp' R q => E.bk H' σ' δ' fp' R (k.trans q), fun H' σ' δ' fp' R q => E.ct H' σ' δ' fp' R (k.trans q), E.rt⟩
noncomputable def SS (G : PySem.W.Frag) (io : List Nat) (t : TS) (m : MSt) : Prop := ∀ (C : MC G) (H : Hp) (σ : St) (δ : DEnv) (fp : Fp) (ex : Addr → Prop) (D : EndsM) (D' : Ends), Rel C io H σ δ fp ex → m D δ → RelEnds C io ex H fp D D' → t D' σ H
noncomputable def MS (X : Cx) (io : List Nat) (st : Stmt) (m : MSt) : Prop := ∃ t, PS X st t ∧ SS X.K io t m
noncomputable def MSs (X : Cx) (io : List Nat) (st : List Stmt) (m : MSt) : Prop := ∃ t, PSs X st t ∧ SS X.K io t m
section
variable {X : Cx} {io : List Nat} {p p' p'' c c' : Bool} {e a b : Expr} {m ma mb : MEt} {es rest : List Expr} {mr : MAt} {pos : Pos} {st : Stmt} {sts : List Stmt} {u w : MSt} {mt : MTt}
noncomputable def mNext : MSt := fun D δ => D.nx δ
noncomputable def Hold (w : MSt) (D : EndsM) (δ : DEnv) : Prop := w D δ
noncomputable def mSeq (u w : MSt) : MSt := fun D δ => u { D with nx := Hold w D } δ
theorem mss_nil : MSs X io [] mNext := ⟨_, pss_nil, fun C H σ δ fp ex D D' R h E => E.nx H σ δ fp R (.refl _ _) h⟩
theorem mss_one (h : MS X io st u) : MSs X io [st] u := by
  obtain ⟨_, A, s⟩ := h
  exact ⟨_, pss_one A, s⟩
theorem mss_cons (h : MS X io st u) (g : MSs X io sts w) : MSs X io (st :: sts) (mSeq u w) := by
  obtain ⟨_, A, s⟩ := h
  obtain ⟨tb, B, s'⟩ := g
  exact ⟨_, pss_cons A B, fun C H σ δ fp ex D D' R h E => s C H σ δ fp ex _ _ R h ⟨fun H1 σ1 δ1 fp1 R1 k1 h1 => s' C H1 σ1 δ1 fp1 ex D D' R1 h1 (E.shift k1), E.bk, E.ct, E.rt⟩⟩
noncomputable def mNever : MSt := fun _ _ => False
theorem ms_never : MS X io st mNever := ⟨_, ps_never, fun C H σ δ fp ex D D' R h E => h.elim⟩
noncomputable def mDrop (m : MEt) : MSt := fun D δ => m δ fun _ δ' => D.nx δ'
theorem ms_expr (he : ME X io p c e m) (hs : swapsWith e none pos.line X.env = pure false := by rfl) : MS X io (.Expr e pos) (mDrop m) := by
  obtain ⟨_, A, s⟩ := he
  exact ⟨_, ps_expr A hs, fun C H σ δ fp ex D D' R h E => s C H σ δ fp ex _ _ R h fun H' v r δ' fp' new r1 h1 => E.nx H' σ δ' fp' r1.base r1.stp.kp h1⟩
noncomputable def mRet (m : MEt) : MSt := fun D δ => m δ fun r δ' => D.rt r δ'
theorem ms_ret (he : ME X io p true e m) : MS X io (.Return (some e) pos) (mRet m) := by
  obtain ⟨_, A, s⟩ := he
  exact ⟨_, ps_ret A, fun C H σ δ fp ex D D' R h E => s C H σ δ fp ex _ _ R h fun H' v r δ' fp' new r1 h1 => E.rt H' σ v r δ' fp' new r1.rel (r1.own.wide fun a l _ => l rfl) r1.nd (fun a m => (R.newOk (r1.fresh a m)).2.2) h1⟩
noncomputable def mRetO (i : Nat) : MSt := fun D δ => match δ[i]? with | some (some t) => D.rt t (δ.set i none) | _ => False
theorem Rel.take {C : MC G} {H : Hp} {σ : St} {δ : DEnv} {fp : Fp} {ex : Addr → Prop} {i : Nat} {t : OT} (R : Rel C io H σ δ fp ex) (hi : δ[i]? = some (some t)) : Rel C io H σ (δ.set i none) (fpu fp i []) (exu ex (fp i)) := by
  have hil : i < δ.length := (List.getElem?_eq_some_iff.mp hi).1
  have get : ∀ j (t' : OT), (δ.set i none)[j]? = some (some t') → j ≠ i ∧ δ[j]? = some (some t') := fun j t' e => by
    by_cases ej : j = i
    · subst ej; rw [List.getElem?_set_self hil] at e; cases e
    · rw [List.getElem?_set_ne (Ne.symm ej)] at e; exact ⟨ej, e⟩
  have sub : ∀ j a, a ∈ fpu fp i [] j → j ≠ i ∧ a ∈ fp j := fun j a m => by
    by_cases ej : j = i
    · subst ej; rw [fpu_same] at m; exact nomatch m
    · rw [fpu_ne ej] at m; exact ⟨ej, m⟩
  have lw : ∀ a, Lf C fp ex a → Lf C (fpu fp i []) (exu ex (fp i)) a := fun a l => ⟨fun ⟨j, z⟩ => l.1 ⟨j, (sub j a z).2⟩, fun z => z.elim l.2.1 fun z => l.1 ⟨i, z⟩, l.2.2⟩
  refine ⟨by rw [List.length_set]; exact R.len, fun j t' e => ?_, fun j h => ?_, fun j => ?_, fun j k a h1 h2 => R.dj j k a (sub j a h1).2 (sub k a h2).2, fun j a h z => ?_, fun a z w => ?_, R.fr, R.al, fun j a h => R.new j a (sub j a h).2, R.io⟩
  · obtain ⟨ej, e⟩ := get j t' e
    obtain ⟨w, e1, o⟩ := R.own j t' e
    exact ⟨w, e1, by rw [fpu_ne ej]; exact o.wide fun a l _ => lw a l⟩
  · by_cases ej : j = i
    · subst ej; rw [fpu_same]
    · rw [fpu_ne ej]
      exact R.emp j fun t' z => h t' (by rw [List.getElem?_set_ne (Ne.symm ej)]; exact z)
  · by_cases ej : j = i
    · subst ej; rw [fpu_same]; exact .nil
    · rw [fpu_ne ej]; exact R.nd j
  · obtain ⟨ej, h⟩ := sub j a h
    rcases z with z | z
    · exact R.dx j a h z
    · exact ej (R.dj j i a h z)
  · rcases z with z | z
    · exact R.xa a z w
    · exact R.footSome w ⟨i, z⟩
theorem ms_retO (i : Nat) {x : Str} {px : Pos} (hio : i ∉ io := by decide) (hN : X.N[i]? = some x := by rfl) (hv : Vis X.env.scope x := by first | exact Or.inl rfl | exact Or.inr (Or.inl rfl) | exact Or.inr (Or.inr rfl)) (hd : (x == ("__debug__" : Str)) = false := by decide)
    (hcd : (x == ("__classdict__" : Str)) = false := by decide) : MS X io (.Return (some (.Name x px)) pos) (mRetO i) := by
  refine ⟨_, ps_ret (pv i hN hv hd hcd), fun C H σ δ fp ex D D' R h E => ?_⟩
  unfold mRetO at h
  split at h
  case h_2 => exact h.elim
  rename_i t hi
  obtain ⟨v, e, o⟩ := R.own i t hi
  have lw : ∀ a, Lf C fp ex a → H a ≠ none → Lf C (fpu fp i []) (exu ex (fp i)) a := fun a l _ => ⟨fun z => by
    rcases z.of_u with z | ⟨j, _, z⟩
    · exact nomatch z
    · exact l.1 ⟨j, z⟩, fun z => z.elim l.2.1 fun z => l.1 ⟨i, z⟩, l.2.2⟩
  have hn : ∀ a ∈ fp i, C.H₀ a = none := fun a m => by
    rcases R.new i a m with z | z
    · exact absurd z.1 hio
    · exact z
  exact ⟨v, e, E.rt H σ v t _ _ (fp i) (R.take hi) (o.wide lw) (R.nd i) hn h⟩
noncomputable def mIfS (t : MTt) (u w : MSt) : MSt := fun D δ => t δ fun b δ' => if b = true then u D δ' else w D δ'
theorem ms_if {cnd : Expr} {ss ss' : List Stmt} (hc : MT X io p cnd mt) (ha : MSs X io ss u) (hb : MSs X io ss' w) : MS X io (.If cnd ss ss' pos) (mIfS mt u w) := by
  obtain ⟨_, T, s⟩ := hc
  obtain ⟨_, A, sa⟩ := ha
  obtain ⟨_, B, sb⟩ := hb
  exact ⟨_, ps_if T A B, fun C H σ δ fp ex D D' R h E => s C H σ δ fp ex _ _ R h fun H' b δ' fp' R' S h' => by
    cases b with
    | true =>
      rw [if_pos rfl] at h' ⊢
      exact sa C H' σ δ' fp' ex D D' R' h' (E.shift S.kp)
    | false =>
      rw [if_neg Bool.false_ne_true] at h' ⊢
      exact sb C H' σ δ' fp' ex D D' R' h' (E.shift S.kp)⟩
theorem Rel.put {C : MC G} {H : Hp} {σ : St} {δ : DEnv} {fp : Fp} {ex : Addr → Prop} {i : Nat} {v : V} {r : OT} {new : List Addr} (R : Rel C io H σ δ fp (exu ex new)) (hio : i ∉ io) (o : Own G H (Lf C fp (exu ex new)) v r new) (nd : new.Nodup)
    (hn : ∀ a ∈ new, C.H₀ a = none ∧ ¬ ex a) : ∃ fp', Rel C io H (σ.set i (some v)) (δ.set i (some r)) fp' ex ∧ ∀ a, Foot fp' a → Foot fp a ∨ a ∈ new := by
  by_cases hil : i < δ.length
  case neg =>
    refine ⟨fp, ?_, fun a h => .inl h⟩
    have hl := R.len
    rw [List.set_eq_of_length_le (show δ.length ≤ i by omega), List.set_eq_of_length_le (show σ.length ≤ i by omega)]
    exact R.drop fun a z => .inl z
  have hsl : i < σ.length := by rw [R.len]; exact hil
  have sub : ∀ a, Foot (fpu fp i new) a → Foot fp a ∨ a ∈ new := fun a z => by
    rcases z.of_u with z | ⟨j, _, z⟩
    · exact .inr z
    · exact .inl ⟨j, z⟩
  have lw : ∀ a, Lf C fp (exu ex new) a → Lf C (fpu fp i new) ex a := fun a l => ⟨fun z => (sub a z).elim l.1 fun z => l.2.1 (.inr z), fun z => l.2.1 (.inl z), l.2.2⟩
  refine ⟨fpu fp i new, ⟨by rw [List.length_set, List.length_set]; exact R.len, fun j t' e => ?_, fun j h => ?_, fun j => ?_, fun j k a h1 h2 => ?_, fun j a h z => ?_, fun a z => R.xa a (.inl z), R.fr, R.al, fun j a h => ?_, fun j hj => ?_⟩, sub⟩
  · by_cases ej : j = i
    · subst ej
      rw [List.getElem?_set_self hil] at e
      cases e
      exact ⟨v, List.getElem?_set_self hsl, by rw [fpu_same]; exact o.wide fun a l _ => lw a l⟩
    · rw [List.getElem?_set_ne (Ne.symm ej)] at e
      obtain ⟨w, e1, o1⟩ := R.own j t' e
      exact ⟨w, by rw [List.getElem?_set_ne (Ne.symm ej)]; exact e1, by rw [fpu_ne ej]; exact o1.wide fun a l _ => lw a l⟩
  · by_cases ej : j = i
    · subst ej; exact absurd (List.getElem?_set_self hil) (h r)
    · rw [fpu_ne ej]
      exact R.emp j fun t' z => h t' (by rw [List.getElem?_set_ne (Ne.symm ej)]; exact z)
  · by_cases ej : j = i
    · subst ej; rw [fpu_same]; exact nd
    · rw [fpu_ne ej]; exact R.nd j
  · by_cases ej : j = i
    · subst ej
      rw [fpu_same] at h1
      by_cases ek : k = j
      · exact ek.symm
      · rw [fpu_ne ek] at h2
        exact absurd (.inr h1) (R.dx k a h2)
    · rw [fpu_ne ej] at h1
      by_cases ek : k = i
      · subst ek
        rw [fpu_same] at h2
        exact absurd (.inr h2) (R.dx j a h1)
      · rw [fpu_ne ek] at h2
        exact R.dj j k a h1 h2
  · by_cases ej : j = i
    · subst ej
      rw [fpu_same] at h
      exact (hn a h).2 z
    · rw [fpu_ne ej] at h
      exact R.dx j a h (.inl z)
  · by_cases ej : j = i
    · subst ej
      rw [fpu_same] at h
      exact .inr (hn a h).1
    · rw [fpu_ne ej] at h
      exact R.new j a h
  · have ej : j ≠ i := fun z => hio (z ▸ hj)
    rw [List.getElem?_set_ne (Ne.symm ej)]
    exact R.io j hj
theorem RE.put {C : MC G} {H H' : Hp} {σ : St} {δ δ' : DEnv} {fp fp' : Fp} {ex : Addr → Prop} {i : Nat} {v : V} {r : OT} {new : List Addr} (R : RE C io p true H σ δ fp ex H' v r δ' fp' new) (R0 : Rel C io H σ δ fp ex) (hio : i ∉ io) :
    ∃ fp2, Rel C io H' (σ.set i (some v)) (δ'.set i (some r)) fp2 ex ∧ Kp H fp H' fp2 := by
  obtain ⟨fp2, R2, g⟩ := R.rel.put hio (R.own.wide fun a l _ => l rfl) R.nd fun a m => ⟨(R0.newOk (R.fresh a m)).2.2, (R0.newOk (R.fresh a m)).2.1⟩
  refine ⟨fp2, R2, fun b o e q => R.stp.keep b o e (.inr (q.resolve_left (by decide))), fun z => (nomatch z), fun a z => ?_, R.stp.al⟩
  rcases g a z with z | z
  · exact R.stp.grow a z
  · exact .inr (R.fresh a z)
theorem RE.fzc {C : MC G} {H H' : Hp} {σ : St} {δ δ' : DEnv} {fp fp' : Fp} {ex : Addr → Prop} {v : V} {r : OT} {new : List Addr} (R : RE C io p c H σ δ fp ex H' v r δ' fp' new) (R0 : Rel C io H σ δ fp ex) :
    RE C io p c H σ δ fp ex H' v (.fz r.data) δ' fp' [] := .fz R.base R.stp (R.da R0)
theorem RE.fzs {C : MC G} {H H' : Hp} {σ : St} {δ δ' : DEnv} {fp fp' : Fp} {ex : Addr → Prop} {v : V} {r : OT} {new : List Addr} (R : RE C io p c H σ δ fp ex H' v r δ' fp' new) (R0 : Rel C io H σ δ fp ex) (h : flatD r.data = true) :
    RE C io p true H σ δ fp ex H' v (.fz r.data) δ' fp' [] := .fz R.base R.stp ((R.da R0).flat h)
noncomputable def mSet (i : Nat) (m : MEt) : MSt := fun D δ => m δ fun r δ' => D.nx (δ'.set i (some (.fz r.data)))
noncomputable def mSetS (i : Nat) (m : MEt) : MSt := fun D δ => m δ fun r δ' => flatD r.data = true ∧ D.nx (δ'.set i (some (.fz r.data)))
noncomputable def mSetO (i : Nat) (m : MEt) : MSt := fun D δ => m δ fun r δ' => D.nx (δ'.set i (some r))
section
variable {i : Nat} {x : Str} {px : Pos}
theorem sSet {t : TE} (s : SE G io p true t m) (hio : i ∉ io) : SS G io (tAsg t (gName i)) (mSet i m) := fun C H σ δ fp ex D D' R h E => s C H σ δ fp ex _ _ R h fun H' v r δ' fp' new r1 h1 => by
  obtain ⟨fp2, R2, k2⟩ := (r1.fzc R).put R hio
  exact E.nx H' _ _ fp2 R2 k2 h1
theorem sSetS {t : TE} (s : SE G io p c t m) (hio : i ∉ io) : SS G io (tAsg t (gName i)) (mSetS i m) := fun C H σ δ fp ex D D' R h E => s C H σ δ fp ex _ _ R h fun H' v r δ' fp' new r1 h1 => by
  obtain ⟨fp2, R2, k2⟩ := (r1.fzs R h1.1).put R hio
  exact E.nx H' _ _ fp2 R2 k2 h1.2
theorem sSetO {t : TE} (s : SE G io p true t m) (hio : i ∉ io) : SS G io (tAsg t (gName i)) (mSetO i m) := fun C H σ δ fp ex D D' R h E => s C H σ δ fp ex _ _ R h fun H' v r δ' fp' new r1 h1 => by
  obtain ⟨fp2, R2, k2⟩ := r1.put R hio
  exact E.nx H' _ _ fp2 R2 k2 h1
theorem ms_set (hN : X.N.Nodup) (hi : X.N[i]? = some x) (hx : Loc X.env.scope x) (he : ME X io p true e m) (hio : i ∉ io := by decide) (hs : swapsWith e (some (.Name x px)) pos.line X.env = pure false := by rfl) (hf : X.fn x = true ∨ X.env.scope.names.lookup x = some .local := by first | exact .inl rfl | exact .inr rfl | assumption) :
    MS X io (.Assign [.Name x px] e pos) (mSet i m) := by
  obtain ⟨_, A, s⟩ := he
  exact ⟨_, ps_set hN hi hx A hs hf, sSet s hio⟩
theorem ms_setS (hN : X.N.Nodup) (hi : X.N[i]? = some x) (hx : Loc X.env.scope x) (he : ME X io p c e m) (hio : i ∉ io := by decide) (hs : swapsWith e (some (.Name x px)) pos.line X.env = pure false := by rfl) (hf : X.fn x = true ∨ X.env.scope.names.lookup x = some .local := by first | exact .inl rfl | exact .inr rfl | assumption) :
    MS X io (.Assign [.Name x px] e pos) (mSetS i m) := by
  obtain ⟨_, A, s⟩ := he
  exact ⟨_, ps_set hN hi hx A hs hf, sSetS s hio⟩
theorem ms_setO (hN : X.N.Nodup) (hi : X.N[i]? = some x) (hx : Loc X.env.scope x) (he : ME X io p true e m) (hio : i ∉ io := by decide) (hs : swapsWith e (some (.Name x px)) pos.line X.env = pure false := by rfl) (hf : X.fn x = true ∨ X.env.scope.names.lookup x = some .local := by first | exact .inl rfl | exact .inr rfl | assumption) :
    MS X io (.Assign [.Name x px] e pos) (mSetO i m) := by
  obtain ⟨_, A, s⟩ := he
  exact ⟨_, ps_set hN hi hx A hs hf, sSetO s hio⟩
end
end
end L2
namespace L2
open PySem PySem.Spec PyProof.Rows
variable {G : PySem.W.Frag}
noncomputable def startD (N : List Str) (ds : List PyData) : DEnv := ds.map (fun d => some (.fz d)) ++ List.replicate (N.length - ds.length) none
noncomputable def startI (N : List Str) (t : OT) (ds : List PyData) : DEnv := some t :: (ds.map (fun d => some (.fz d)) ++ List.replicate (N.length - (ds.length + 1)) none)
section
variable {H : Hp} {L : Addr → Prop} {vs : List V} {ds : List PyData} {N : List Str}
theorem startD_at {i : Nat} {t : OT} {n : Nat} (h : (ds.map (fun d => some (.fz d)) ++ List.replicate n none : DEnv)[i]? = some (some t)) : ∃ d, ds[i]? = some d ∧ t = .fz d := by
  rw [List.getElem?_append] at h
  split at h
  · rw [List.getElem?_map] at h
    cases e : ds[i]? with
    | none => rw [e] at h; cases h
    | some d => rw [e] at h; cases h; exact ⟨d, rfl, rfl⟩
  · rw [List.getElem?_replicate] at h
    split at h
    · cases h
    · cases h
theorem Rel.entry (h : Das G H L vs ds) : Rel (G := G) ⟨H, fun _ => False, L, start N vs⟩ [] H (start N vs) (startD N ds) (fun _ => []) (fun _ => False) := by
  refine ⟨?_, fun i t e => ?_, fun _ _ => rfl, fun _ => .nil, fun i j a m => (nomatch m), fun i a m => (nomatch m), fun a z => z.elim, fun b o e _ => e, fun b e => e, fun i a m => (nomatch m), fun i m => nomatch m⟩
  · unfold start startD
    simp [h.length]
  · obtain ⟨d, e', rfl⟩ := startD_at e
    obtain ⟨x, e1, q⟩ := h.get e'
    refine ⟨x, ?_, .fz (q.wide fun a l _ => ⟨fun ⟨j, z⟩ => (nomatch z), fun z => z, .inl l⟩)⟩
    unfold L2.start
    rw [List.getElem?_append_left (by rw [List.length_map]; exact (List.getElem?_eq_some_iff.mp e1).1), List.getElem?_map, e1]
    rfl
variable {P : Program} {w : World} {K : PySem.W.Frag} {mg : Str → Option Value} {base : Heap}
noncomputable def endsD (k : OT → Prop) : EndsM := { nx := fun _ => k (.fz .none), rt := fun r _ => k r }
theorem Fun.okD {x qual : Str} {st : Stmt} {f : Addr} {fd : FuncData} {N ps : List Str} {n : Nat} {S : List PyData → (OT → Prop) → Prop} (F : Fun K x qual st f fd) (Sc : FnScope N ps (defScope st)) (len : ∀ ds k, S ds k → ds.length = ps.length)
    (hbody : ∀ (cdv : Value) (A : Around) (outer : List Env) (s : Shared) (H : Hp) (E : XK), Room n (A.deeper (envOfC qual (defScope st) s.heap.objs.size f cdv)) →
      ∃ m, MSs (cxOf CX0 P w K mg base N qual (defScope st) f cdv A outer s H E).nox [] (defBody st) m ∧ ∀ ds k, S ds k → m (endsD k) (startD N ds)) : FnOk P w K mg base CX0 (n + 1) f fd ps (spD K S) := by
  refine F.ok Sc (fun vs H Q E h => ?_) (fun cdv A outer s H vs Q E hr h => ?_)
  · obtain ⟨L, ds, k, h1, h2, _⟩ := h
    rw [h1.length]
    exact len ds k h2
  · obtain ⟨L, ds, k, h1, h2, h3⟩ := h
    obtain ⟨m, ⟨t, A1, s1⟩, q⟩ := hbody cdv A outer s H E hr
    refine ⟨t, A1, s1 ⟨H, fun _ => False, L, start N vs⟩ H _ _ _ _ (endsD k) _ (Rel.entry h1) (q ds k h2) ⟨fun H' σ' δ' fp' R _ hk => ?_, fun _ _ _ _ _ _ z => z.elim, fun _ _ _ _ _ _ z => z.elim, fun H' σ' v r δ' fp' new R o nd hn hk => ?_⟩⟩
    · exact h3 _ .non H' [] hk (fun b o e => R.fr b o e id) (.fz .non) .nil fun a m => nomatch m
    · refine h3 r v H' new hk (fun b o e => R.fr b o e id) (o.wide fun a l _ => ⟨?_, fun z => l.2.1 (.inr z)⟩) nd hn
      exact l.2.2
theorem Rel.entryI {v0 : V} {t0 : OT} {as : List Addr} (o : Own G H L v0 t0 as) (nd : as.Nodup) (hL : ∀ a ∈ as, ¬ L a) (h : Das G H L vs ds) :
    Rel (G := G) ⟨H, fun a => a ∈ as, L, start N (v0 :: vs)⟩ [0] H (start N (v0 :: vs)) (startI N t0 ds) (fun i => if i = 0 then as else []) (fun _ => False) := by
  have lw : ∀ a, L a → H a ≠ none → Lf (G := G) ⟨H, fun a => a ∈ as, L, L2.start N (v0 :: vs)⟩ (fun i => if i = 0 then as else []) (fun _ => False) a := fun a l _ => ⟨fun q91 => by
    obtain ⟨i, z⟩ := q91
    dsimp only at z
    split at z
    · exact hL a z l
    · exact (nomatch z), fun z => z, .inl l⟩
  have sub : ∀ i a, a ∈ (if i = 0 then as else []) → i = 0 ∧ a ∈ as := fun i a m => by
    split at m
    · exact ⟨by assumption, m⟩
    · exact nomatch m
  refine ⟨?_, fun i t e => ?_, fun i h => ?_, fun i => ?_, fun i j a m m' => (sub i a m).1.trans (sub j a m').1.symm, fun i a m z => z, fun a z => z.elim, fun b o e _ => e, fun b e => e, fun i a m => .inl ⟨by rw [(sub i a m).1]; exact List.mem_singleton.mpr rfl, (sub i a m).2⟩, fun i _ => rfl⟩
  · unfold L2.start L2.startI
    simp [h.length]
  · cases i with
    | zero =>
      have e' : t0 = t := by
        unfold L2.startI at e
        simpa using e
      subst e'
      exact ⟨v0, rfl, o.wide lw⟩
    | succ i =>
      have e' : (ds.map (fun d => some (.fz d)) ++ List.replicate (N.length - (ds.length + 1)) none : DEnv)[i]? = some (some t) := e
      obtain ⟨d, e2, rfl⟩ := startD_at e'
      obtain ⟨x, e1, q⟩ := h.get e2
      refine ⟨x, ?_, .fz (q.wide lw)⟩
      show (vs.map some ++ _)[i]? = _
      rw [List.getElem?_append_left (by rw [List.length_map]; exact (List.getElem?_eq_some_iff.mp e1).1), List.getElem?_map, e1]
      rfl
  · split
    · subst i
      exact absurd rfl (h t0)
    · rfl
  · split
    · exact nd
    · exact .nil
noncomputable def endsI (k : OT → OT → Prop) : EndsM := { nx := fun δ => match δ[0]? with | some (some t) => k (.fz .none) t | _ => False, rt := fun r δ => match δ[0]? with | some (some t) => k r t | _ => False }
theorem Fun.okI {x qual : Str} {st : Stmt} {f : Addr} {fd : FuncData} {N ps : List Str} {n : Nat} {S : OT → List PyData → (OT → OT → Prop) → Prop} (F : Fun K x qual st f fd) (Sc : FnScope N ps (defScope st)) (len : ∀ t ds k, S t ds k → ds.length + 1 = ps.length)
    (hbody : ∀ (cdv : Value) (A : Around) (outer : List Env) (s : Shared) (H : Hp) (E : XK), Room n (A.deeper (envOfC qual (defScope st) s.heap.objs.size f cdv)) →
      ∃ m, MSs (cxOf CX0 P w K mg base N qual (defScope st) f cdv A outer s H E).nox [0] (defBody st) m ∧ ∀ t ds k, S t ds k → m (endsI k) (startI N t ds)) : FnOk P w K mg base CX0 (n + 1) f fd ps (spI K S) := by
  refine F.ok Sc (fun vs H Q E h => ?_) (fun cdv A outer s H vs Q E hr h => ?_)
  · obtain ⟨L, v0, t0, as, vs', ds, k, rfl, _, _, _, h1, h2, _⟩ := h
    rw [List.length_cons, h1.length]
    exact len t0 ds k h2
  · obtain ⟨L, v0, t0, as, vs', ds, k, rfl, o0, nd0, hL, h1, h2, h3⟩ := h
    obtain ⟨m, ⟨t, A1, s1⟩, q⟩ := hbody cdv A outer s H E hr
    have fin : ∀ H' σ' v r δ' fp' new, Rel (G := K) ⟨H, fun a => a ∈ as, L, L2.start N (v0 :: vs')⟩ [0] H' σ' δ' fp' (exu (fun _ => False) new) → Own K H' (Lf (G := K) ⟨H, fun a => a ∈ as, L, L2.start N (v0 :: vs')⟩ fp' (exu (fun _ => False) new)) v r new → new.Nodup → (∀ a ∈ new, H a = none) →
        (match δ'[0]? with | some (some t) => k r t | _ => False) → Q v H' := by
      intro H' σ' v r δ' fp' new R o nd hn hk
      split at hk
      case h_2 => exact hk.elim
      rename_i t' e'
      obtain ⟨u, eu, ou⟩ := R.own 0 t' e'
      have hio := R.io 0 (by simp)
      rw [eu] at hio
      have : u = v0 := by
        have e2 : (L2.start N (v0 :: vs'))[0]? = some (some v0) := rfl
        have hio' : some (some u) = (L2.start N (v0 :: vs'))[0]? := hio
        rw [e2] at hio'
        cases hio'; rfl
      subst this
      refine h3 r t' v H' new (fp' 0) hk (fun b ob e nb => R.fr b ob e nb) (fun b e => R.al b e) (o.wide fun a l _ => ⟨l.2.2, fun z => l.2.1 (.inr z), fun z => l.1 ⟨0, z⟩⟩) (ou.wide fun a l _ => ⟨l.2.2, fun z => l.2.1 (.inr z), fun z => l.1 ⟨0, z⟩⟩) ?_ hn fun a m => ?_
      · exact List.nodup_append.mpr ⟨R.nd 0, nd, fun a m b m' z => by subst z; exact R.dx 0 a m (.inr m')⟩
      · rcases R.new 0 a m with z | z
        · exact .inl z.2
        · exact .inr z
    refine ⟨t, A1, s1 ⟨H, fun a => a ∈ as, L, L2.start N (v0 :: vs')⟩ H _ _ _ _ (endsI k) _ (Rel.entryI o0 nd0 hL h1) (q t0 ds k h2) ⟨fun H' σ' δ' fp' R _ hk => ?_, fun _ _ _ _ _ _ z => z.elim, fun _ _ _ _ _ _ z => z.elim, fun H' σ' v r δ' fp' new R o nd hn hk => fin H' σ' v r δ' fp' new R o nd hn hk⟩⟩
    exact fin H' σ' .non (.fz .none) δ' fp' [] (R.drop fun a z => exu_nil.mp z) (.fz .non) .nil (fun a m => nomatch m) hk
end
noncomputable abbrev MGt := PyData → DEnv → (DEnv → Prop) → Prop
noncomputable abbrev MGst := List PyData → DEnv → (DEnv → Prop) → Prop
noncomputable def SG (G : PySem.W.Frag) (io : List Nat) (c : Bool) (t : TG) (g : MGt) : Prop := ∀ (C : MC G) (H : Hp) (σ : St) (δ : DEnv) (fp : Fp) (ex : Addr → Prop) (v : V) (d : PyData) (k : DEnv → Prop) (Q : St → Hp → Prop), Rel C io H σ δ fp ex → Da G H (fun a => c = true → Lf C fp ex a) v d → g d δ k →
  (∀ σ' δ' fp', Rel C io H σ' δ' fp' ex → Kp H fp H fp' → k δ' → Q σ' H) → t v σ H Q
noncomputable def MG (X : Cx) (io : List Nat) (c : Bool) (tg : Expr) (g : MGt) : Prop := ∃ t, PG X tg t ∧ SG X.K io c t g
section
variable {X : Cx} {io : List Nat} {c : Bool} {pos : Pos} {i : Nat} {x : Str}
noncomputable def dName (i : Nat) : MGt := fun d δ k => k (δ.set i (some (.fz d)))
noncomputable def dNameS (i : Nat) : MGt := fun d δ k => flatD d = true ∧ k (δ.set i (some (.fz d)))
theorem Rel.putD {C : MC G} {H : Hp} {σ : St} {δ : DEnv} {fp : Fp} {ex : Addr → Prop} {v : V} {d : PyData} (R : Rel C io H σ δ fp ex) (hio : i ∉ io) (q : Da G H (Lf C fp ex) v d) :
    ∃ fp', Rel C io H (σ.set i (some v)) (δ.set i (some (.fz d))) fp' ex ∧ Kp H fp H fp' := by
  obtain ⟨fp', R', g⟩ := (R.drop fun a z => exu_nil.mp z).put (new := []) hio (.fz (q.wide fun a l _ => ⟨l.1, fun z => l.2.1 (exu_nil.mp z), l.2.2⟩)) .nil (fun a m => nomatch m)
  exact ⟨fp', R', fun b o e _ => e, fun z => (nomatch z), fun a z => (g a z).imp id fun z => (nomatch z), fun b e => e⟩
theorem mg_name (hN : X.N.Nodup) (hi : X.N[i]? = some x := by rfl) (hx : Loc X.env.scope x := by first | exact Or.inl rfl | exact Or.inr rfl) (hio : i ∉ io := by decide) (hf : X.fn x = true ∨ X.env.scope.names.lookup x = some .local := by first | exact .inl rfl | exact .inr rfl | assumption) : MG X io true (.Name x pos) (dName i) :=
  ⟨_, pg_name hN hi hx hf, fun C H σ δ fp ex v d k Q R q h kk => by
    obtain ⟨fp', R', k'⟩ := R.putD hio (q.wide fun a l _ => l rfl)
    exact kk _ _ fp' R' k' h⟩
theorem mg_nameS (hN : X.N.Nodup) (hi : X.N[i]? = some x := by rfl) (hx : Loc X.env.scope x := by first | exact Or.inl rfl | exact Or.inr rfl) (hio : i ∉ io := by decide) (hf : X.fn x = true ∨ X.env.scope.names.lookup x = some .local := by first | exact .inl rfl | exact .inr rfl | assumption) : MG X io c (.Name x pos) (dNameS i) :=
  ⟨_, pg_name hN hi hx hf, fun C H σ δ fp ex v d k Q R q h kk => by
    obtain ⟨fp', R', k'⟩ := R.putD hio (q.flat h.1)
    exact kk _ _ fp' R' k' h.2⟩
end
end L2
namespace L2
open PySem PySem.Spec PyProof.Rows
variable {G : PySem.W.Frag}
noncomputable def IterOk (C : MC G) (fp : Fp) (ex : Addr → Prop) (H1 : Hp) (c : Bool) (J : It) (ds : List PyData) : Prop := ∀ H' : Hp, (∀ b o, H1 b = some o → (c = false ∨ ¬ Foot fp b) → H' b = some o) → ∀ i : Nat,
  (∀ d, ds[i]? = some d → J.go i H' ∧ ∀ x H'', J.yld i H' x H'' → Same H' H'' ∧ Da G H'' (fun a => c = true → (Lf C fp ex a ∧ H1 a ≠ none)) x d) ∧ (ds[i]? = none → J.stop i H')
noncomputable abbrev MIt := DEnv → (List PyData → DEnv → Prop) → Prop
noncomputable def SI (G : PySem.W.Frag) (io : List Nat) (p c : Bool) (t : TI) (m : MIt) : Prop := ∀ (C : MC G) (H : Hp) (σ : St) (δ : DEnv) (fp : Fp) (ex : Addr → Prop) (K : List PyData → DEnv → Prop) (Q : It → Hp → Prop), Rel C io H σ δ fp ex → m δ K →
  (∀ J H1 ds δ1 fp1, Rel C io H1 σ δ1 fp1 ex → Stp p H δ fp H1 δ1 fp1 → IterOk C fp1 ex H1 c J ds → K ds δ1 → Q J H1) → t σ H Q
noncomputable def MI (X : Cx) (io : List Nat) (p c : Bool) (tg iter : Expr) (m : MIt) : Prop := ∃ t, PI X tg iter t ∧ SI X.K io p c t m
section
variable {X : Cx} {io : List Nat} {p c : Bool} {e a b tg : Expr} {m : MEt} {mr : MAt} {K : PySem.W.Frag}
noncomputable def iL (m : MEt) : MIt := fun δ K => m δ fun r δ' => match r.data with | .list ds => K ds δ' | _ => False
theorem Rel.kept {C : MC G} {H H' : Hp} {σ : St} {δ : DEnv} {fp : Fp} {ex : Addr → Prop} (R : Rel C io H σ δ fp ex) (kp : ∀ b o, H b = some o → (c = false ∨ ¬ Foot fp b) → H' b = some o) :
    (∀ a xs, (c = true → Lf C fp ex a) → Rd H a (.lst xs) → (c = true → (Lf C fp ex a ∧ H a ≠ none)) ∧ Rd H' a (.lst xs)) ∧ (∀ a (xs : ImO), H a = some xs.ho → H' a = some xs.ho) := by
  refine ⟨fun a xs l q => ⟨fun hc => ⟨l hc, q.some⟩, ?_⟩, fun a xs q => kp a _ q (.inr fun z => ?_)⟩
  · have hk : c = false ∨ ¬ Foot fp a := by
      cases c with
      | false => exact .inl rfl
      | true => exact .inr (l rfl).1
    rcases q with q | ⟨o, q⟩
    · exact .inl (kp a _ q hk)
    · exact .inr ⟨o, kp a _ q hk⟩
  · obtain ⟨ys, e⟩ := R.foot z
    exact ImO.nl q e
theorem mi_list (h : ME X io p c e m) : MI X io p c tg e (iL m) := by
  obtain ⟨_, A, s⟩ := h
  exact ⟨_, pi_listK rfl A, fun C H σ δ fp ex K' Q R h kk => s C H σ δ fp ex _ _ R h fun H1 v r δ1 fp1 new r1 h1 => by
    have q := r1.da R
    generalize r.data = d at q h1
    cases q with
    | lst l e qs =>
      refine ⟨_, rfl, ⟨_, .inl e⟩, kk _ H1 _ δ1 fp1 r1.base r1.stp (fun H' kp i => ?_) h1⟩
      obtain ⟨f1, f2⟩ := r1.base.kept kp
      have e' := (f1 _ _ l e).2
      have qs' := qs.frame f1 f2
      refine ⟨fun d hd => ?_, fun hd => ?_⟩
      · obtain ⟨x, hx, qx⟩ := qs'.get hd
        refine ⟨⟨_, x, .inl e', hx⟩, fun y H'' hy => ?_⟩
        obtain ⟨rfl, hy⟩ := hy
        have := hy _ (.inl e')
        rw [hx] at this
        cases this
        exact ⟨Same.refl _, qx⟩
      · exact ⟨_, .inl e', by rw [qs'.length]; exact List.getElem?_eq_none_iff.mp hd⟩
    | scr ks =>
      refine ⟨_, rfl, ⟨_, ks.sq⟩, kk _ H1 _ δ1 fp1 r1.base r1.stp (fun H' kp i => ?_) h1⟩
      refine ⟨fun d hd => ?_, fun hd => ?_⟩
      · obtain ⟨x, hx, qx⟩ := (Das.ints (G := X.K) (H := H') (L := fun a => c = true → (Lf C fp1 ex a ∧ H1 a ≠ none)) _).get hd
        refine ⟨⟨_, x, ks.sq, hx⟩, fun y H'' hy => ?_⟩
        obtain ⟨rfl, hy⟩ := hy
        have := hy _ ks.sq
        rw [hx] at this
        cases this
        exact ⟨Same.refl _, qx⟩
      · refine ⟨_, ks.sq, ?_⟩
        have := List.getElem?_eq_none_iff.mp hd
        simpa using this
    | _ => exact h1.elim⟩
noncomputable def rngD (lo : Int) (n : Nat) : List PyData := (List.range n).map fun (i : Nat) => PyData.int (lo + (i : Int))
@[simp] theorem rngD_length (lo : Int) (n : Nat) : (rngD lo n).length = n := by simp [rngD]
theorem rngD_get {lo : Int} {n i : Nat} {d : PyData} (h : (rngD lo n)[i]? = some d) : i < n ∧ d = .int (lo + i) := by
  have hi : i < n := by
    have := (List.getElem?_eq_some_iff.mp h).1
    simpa using this
  unfold rngD at h
  rw [List.getElem?_map, List.getElem?_range hi] at h
  cases h
  exact ⟨hi, rfl⟩
theorem iter_rng {C : MC G} {fp : Fp} {ex : Addr → Prop} {H1 : Hp} {lo : Int} {n : Nat} : IterOk C fp ex H1 true (Itr lo n) (rngD lo n) := fun H' _ i => by
  refine ⟨fun d hd => ?_, fun hd => ?_⟩
  · obtain ⟨hi, rfl⟩ := rngD_get hd
    refine ⟨hi, fun x H'' hy => ?_⟩
    obtain ⟨rfl, rfl⟩ := hy
    exact ⟨Same.refl _, .int _⟩
  · have := List.getElem?_eq_none_iff.mp hd
    show n ≤ i
    simpa using this
noncomputable def iR1 (mr : MAt) : MIt := fun δ K => mr δ fun rs δ' => match OT.datas rs with | [.int j] => (-(2 ^ 62) ≤ j ∧ j < 2 ^ 62) ∧ K (rngD 0 j.toNat) δ' | _ => False
theorem mi_range1 {p' pos : Pos} (hg : Gl X "range") (hm : X.mg "range" = none) (ha : MA X io p c [a] mr) (hs : starEach [a] X.env = [(false, eval a X.env)] := by rfl) : MI X io p true tg (.Call (.Name "range" p') [a] [] pos) (iR1 mr) := by
  obtain ⟨_, A, s⟩ := ha
  exact ⟨_, pi_range1 hg hm A hs, fun C H σ δ fp ex K' Q R h kk => s C H σ δ fp ex _ _ R h fun H1 vs rs δ1 fp1 new r1 h1 => by
    have q := r1.das R
    generalize OT.datas rs = d at q h1
    split at h1
    case h_2 => exact h1.elim
    cases q with
    | cons q1 q2 =>
      cases q1
      cases q2
      exact ⟨_, rfl, h1.1.1, h1.1.2, kk _ H1 _ δ1 fp1 r1.base r1.stp iter_rng h1.2⟩⟩
theorem IterOk.at {C : MC G} {fp fp' : Fp} {ex : Addr → Prop} {H1 H' H'' : Hp} {J : It} {ds : List PyData} {x : V} {d : PyData} (g : ∀ a, Foot fp' a → Foot fp a ∨ H1 a = none) (h : Da G H'' (fun a => true = true → (Lf C fp ex a ∧ H1 a ≠ none)) x d) : Da G H'' (fun a => true = true → Lf C fp' ex a) x d :=
  h.wide fun a l _ z => ⟨fun w => (g a w).elim (l z).1.1 (l z).2, (l z).1.2.1, (l z).1.2.2⟩
noncomputable def mForB (ds : List PyData) (g : MGt) (u : MSt) (D : EndsM) (δ1 : DEnv) : Prop := ∃ I : Nat → DEnv → Prop, I 0 δ1 ∧ (∀ (i : Nat) (d : PyData) (δ' : DEnv), ds[i]? = some d → I i δ' → g d δ' fun δ2 => u { D with nx := I (i + 1), ct := I (i + 1), bk := D.nx } δ2) ∧ ∀ δ', I ds.length δ' → D.nx δ'
noncomputable def mFor (mi : MIt) (g : MGt) (u : MSt) : MSt := fun D δ => mi δ fun ds δ1 => mForB ds g u D δ1
theorem Rel.mk0 {C : MC G} {H H' : Hp} {σ : St} {δ : DEnv} {fp : Fp} {ex : Addr → Prop} (R : Rel C io H σ δ fp ex) (s : Same H H') : Rel C io H' σ δ fp ex := (R.made (new := []) s fun a m => nomatch m).drop fun a z => .inl z
theorem ms_for {iter : Expr} {body : List Stmt} {mi : MIt} {g : MGt} {u : MSt} {pos : Pos} (hp : PassesOwn (model X.prog X.w) X.A X.env X.xe) (hc : X.calm = true) (hi : MI X io p true tg iter mi) (hg : MG X io true tg g) (hb : MSs X io body u)
    (hs : ∀ x, foldedSetIterable iter X.env x = pure x := by intro _; rfl) : MS X io (.For tg iter body [] pos) (mFor mi g u) := by
  obtain ⟨_, A, s⟩ := hi
  obtain ⟨_, G, sg⟩ := hg
  obtain ⟨_, B, sb⟩ := hb
  refine ⟨_, ps_for hp hc A G B hs, fun C H σ δ fp ex D D' R h E => s C H σ δ fp ex _ _ R h fun J H1 ds δ1 fp1 R1 S1 it h1 => ?_⟩
  obtain ⟨I, h0, turn, fin⟩ := h1
  refine ⟨fun i n σ' H' => n = ds.length - i ∧ i ≤ ds.length ∧ ∃ δ' fp', Rel C io H' σ' δ' fp' ex ∧ Kp H1 fp1 H' fp' ∧ I i δ', ⟨ds.length, rfl, Nat.zero_le _, δ1, fp1, R1, .refl _ _, h0⟩, ?_⟩
  rintro i n σ2 H2 ⟨rfl, hle, δ2, fp2, R2, k2, i2⟩
  have itk := it H2 (fun b o e q => k2.keep b o e (.inr (q.resolve_left (by decide)))) i
  by_cases hlt : i < ds.length
  · have hd : ds[i]? = some ds[i] := List.getElem?_eq_getElem hlt
    obtain ⟨go, yl⟩ := itk.1 _ hd
    refine .inr ⟨go, fun σ' H' => ∃ δ' fp', Rel C io H' σ' δ' fp' ex ∧ Kp H1 fp1 H' fp' ∧ I (i + 1) δ', fun σ' H' ⟨δ', fp', R', k', i'⟩ => ⟨ds.length - (i + 1), by omega, rfl, hlt, δ', fp', R', k', i'⟩, fun x H3 hy => ?_⟩
    obtain ⟨s3, q3⟩ := yl x H3 hy
    have R3 := R2.mk0 s3
    have k3 : Kp H1 fp1 H3 fp2 := k2.trans ⟨fun b o e _ => s3 _ _ e, fun z => (nomatch z), fun a z => .inl z, s3.al⟩
    refine sg C H3 σ2 δ2 fp2 ex x _ _ _ R3 (IterOk.at (H' := H2) (J := J) (ds := ds) k2.grow q3) (turn i _ δ2 hd i2) fun σ4 δ4 fp4 R4 k4 h4 => ?_
    have k5 := k3.trans k4
    refine sb C H3 σ4 δ4 fp4 ex _ _ R4 h4 ⟨fun H' σ' δ' fp' R' k' n' => ⟨δ', fp', R', k5.trans k', n'⟩, fun H' σ' δ' fp' R' k' n' => E.nx H' σ' δ' fp' R' (S1.kp.trans (k5.trans k')) n', fun H' σ' δ' fp' R' k' n' => ⟨δ', fp', R', k5.trans k', n'⟩, E.rt⟩
  · have e : i = ds.length := by omega
    subst e
    exact .inl ⟨itk.2 (by simp), E.nx H2 σ2 δ2 fp2 R2 (S1.kp.trans k2) (fin δ2 i2)⟩
end
noncomputable def gM (G : PySem.W.Frag) (io : List Nat) (c : Bool) (g : MGt) : TG := fun v σ H Q => ∃ (C : MC G) (δ : DEnv) (fp : Fp) (ex : Addr → Prop) (d : PyData) (k : DEnv → Prop), Rel C io H σ δ fp ex ∧ Da G H (fun a => c = true → Lf C fp ex a) v d ∧ g d δ k ∧
  ∀ σ' δ' fp', Rel C io H σ' δ' fp' ex → Kp H fp H fp' → k δ' → Q σ' H
noncomputable def tM (G : PySem.W.Frag) (io : List Nat) (p c : Bool) (m : MEt) : TE := fun σ H Q => ∃ (C : MC G) (δ : DEnv) (fp : Fp) (ex : Addr → Prop) (K : OT → DEnv → Prop), Rel C io H σ δ fp ex ∧ m δ K ∧ ∀ H' v r δ' fp' new, RE C io p c H σ δ fp ex H' v r δ' fp' new → K r δ' → Q v H'
noncomputable def ttM (G : PySem.W.Frag) (io : List Nat) (p : Bool) (m : MTt) : TT := fun σ H Q => ∃ (C : MC G) (δ : DEnv) (fp : Fp) (ex : Addr → Prop) (K : Bool → DEnv → Prop), Rel C io H σ δ fp ex ∧ m δ K ∧ ∀ H' b δ' fp', Rel C io H' σ δ' fp' ex → Stp p H δ fp H' δ' fp' → K b δ' → Q b H'
noncomputable def MIfs (X : Cx) (io : List Nat) (p : Bool) (ifs : List Expr) (m : MTt) : Prop := ∃ t, PIfs X ifs t ∧ STt X.K io p t m
section
variable {X : Cx} {io : List Nat} {p c : Bool} {e tg : Expr} {m : MEt} {mt : MTt} {g : MGt} {ifs : List Expr}
theorem MG.canon (h : MG X io c tg g) : PG X tg (gM X.K io c g) := by
  obtain ⟨t, A, s⟩ := h
  rintro pins sh σ H v u Q I r ⟨C, δ, fp, ex, d, k, R, q, h, kk⟩
  exact A pins sh σ H v u Q I r (s C H σ δ fp ex v d k Q R q h kk)
theorem ME.canon (h : ME X io p c e m) : PE X e (tM X.K io p c m) := by
  obtain ⟨t, A, s⟩ := h
  rintro pins sh σ H Q I ⟨C, δ, fp, ex, K, R, h, kk⟩
  exact A pins sh σ H Q I (s C H σ δ fp ex K Q R h kk)
theorem MIfs.canon (h : MIfs X io p ifs mt) : PIfs X ifs (ttM X.K io p mt) := by
  obtain ⟨t, A, s⟩ := h
  rintro pins sh σ H Q I ⟨C, δ, fp, ex, K, R, h, kk⟩
  exact A pins sh σ H Q I (s C H σ δ fp ex K Q R h kk)
noncomputable def mTrue : MTt := fun δ K => K true δ
theorem mif_nil : MIfs X io true [] mTrue := ⟨_, pif_nil, fun C H σ δ fp ex K Q R h kk => kk H true δ fp R (.refl _ _ _ _) h⟩
theorem mif_one {cnd : Expr} (h : MT X io p cnd mt) : MIfs X io p [cnd] mt := by
  obtain ⟨_, A, s⟩ := h
  exact ⟨_, pif_one A, s⟩
end
end L2
namespace L2
open PySem PySem.Spec PyProof.Rows
variable {G : PySem.W.Frag}
noncomputable def blk (n : Nat) (caps : List Nat) (δ : DEnv) : DEnv := List.replicate n none ++ caps.map fun i => (δ[i]?).getD none
noncomputable def blkFp (n : Nat) (caps : List Nat) (fp : Fp) : Fp := fun k => if k < n then [] else match caps[k - n]? with | some i => fp i | none => []
noncomputable def blkIo (n : Nat) (caps : List Nat) : List Nat := (List.range caps.length).map (· + n)
noncomputable def blkC (C : MC G) (H1 : Hp) (fp : Fp) (σ0 : St) : MC G := ⟨H1, Foot fp, fun a => (C.L a ∨ C.H₀ a = none) ∧ ¬ Foot fp a, σ0⟩
noncomputable def blkEx (ex : Addr → Prop) (D : Addr) (fp fpb : Fp) (a : Addr) : Prop := ex a ∨ a = D ∨ (Foot fp a ∧ ¬ Foot fpb a)
section
variable {C : MC G} {io : List Nat} {H1 H' : Hp} {σ : St} {δ : DEnv} {fp : Fp} {ex : Addr → Prop} {own : List Str} {caps : List Nat} {D : Addr} {n : Nat}
theorem blkFp_at {k : Nat} {a : Addr} (h : a ∈ blkFp n caps fp k) : ∃ i, n ≤ k ∧ caps[k - n]? = some i ∧ a ∈ fp i := by
  unfold blkFp at h
  split at h
  · exact nomatch h
  · split at h
    · rename_i i e
      exact ⟨i, by omega, e, h⟩
    · exact nomatch h
theorem blkFp_of {j i : Nat} (h : caps[j]? = some i) : blkFp n caps fp (n + j) = fp i := by
  unfold blkFp
  rw [if_neg (by omega), show n + j - n = j by omega, h]
theorem blk_at {k : Nat} {t : OT} (h : (blk n caps δ)[k]? = some (some t)) : ∃ i, n ≤ k ∧ caps[k - n]? = some i ∧ δ[i]? = some (some t) := by
  unfold blk at h
  rw [List.getElem?_append] at h
  split at h
  · rw [List.getElem?_replicate] at h
    split at h <;> cases h
  · rename_i hk
    rw [List.length_replicate] at hk h
    rw [List.getElem?_map] at h
    cases e : caps[k - n]? with
    | none => rw [e] at h; cases h
    | some i =>
      rw [e] at h
      refine ⟨i, by omega, rfl, ?_⟩
      simp only [Option.map_some] at h
      cases e2 : δ[i]? with
      | none => rw [e2] at h; cases h
      | some o =>
        rw [e2] at h
        simpa using h
theorem Rel.block (R : Rel C io H1 σ δ fp ex) (nd : caps.Nodup) (hD : H1 D = none) :
    Rel (blkC C H1 fp (start' own caps σ)) (blkIo own.length caps) (upd H1 D (.lst [])) (start' own caps σ) (blk own.length caps δ) (blkFp own.length caps fp) (blkEx ex D fp (blkFp own.length caps fp)) := by
  have s := same_new hD (.lst [])
  have sub : ∀ a, Foot (blkFp own.length caps fp) a → Foot fp a := fun a q91 => by
    obtain ⟨k, z⟩ := q91
    obtain ⟨i, _, _, z⟩ := blkFp_at z
    exact ⟨i, z⟩
  have neD : ∀ a, H1 a ≠ none → a ≠ D := fun a h z => h (z ▸ hD)
  refine ⟨by unfold start' blk; simp, fun k t e => ?_, fun k h => ?_, fun k => ?_, fun k l a h1 h2 => ?_, fun k a h z => ?_, fun a z => ?_, fun b o e _ => s _ _ e, fun b e => s.free e, fun k a h => ?_, fun k _ => rfl⟩
  · obtain ⟨i, hk, e1, e2⟩ := blk_at e
    obtain ⟨v, e3, o⟩ := R.own i t e2
    refine ⟨v, ?_, ?_⟩
    · unfold start'
      rw [List.getElem?_append_right (by simpa using hk), List.length_map, List.getElem?_map, e1]
      simp [e3]
    · have ef : blkFp own.length caps fp k = fp i := by
        have := blkFp_of (n := own.length) (fp := fp) e1
        rwa [show own.length + (k - own.length) = k by omega] at this
      rw [ef]
      refine (o.wide fun a l q => ⟨fun z => l.1 (sub a z), fun z => ?_, .inl ⟨l.2.2, l.1⟩⟩).same s
      rcases z with z | z | z
      · exact l.2.1 z
      · exact neD a q z
      · exact l.1 z.1
  · unfold blkFp
    split
    · rfl
    · split
      · rename_i i e1
        refine R.emp i fun t z => h t ?_
        unfold blk
        rw [List.getElem?_append_right (by rw [List.length_replicate]; omega), List.length_replicate, List.getElem?_map, e1]
        simp [z]
      · rfl
  · unfold blkFp
    split
    · exact .nil
    · split
      · exact R.nd _
      · exact .nil
  · obtain ⟨i, hk, e1, m1⟩ := blkFp_at h1
    obtain ⟨j, hl, e2, m2⟩ := blkFp_at h2
    have := R.dj i j a m1 m2
    subst this
    have hlt := (List.getElem?_eq_some_iff.mp e1).1
    have := (List.getElem?_inj hlt nd).mp (e1.trans e2.symm)
    omega
  · obtain ⟨i, hk, e1, m⟩ := blkFp_at h
    rcases z with z | z | z
    · exact R.dx i a m z
    · exact R.footSome (z ▸ hD) ⟨i, m⟩
    · exact z.2 ⟨k, h⟩
  · rcases z with z | z | z
    · intro q; exact R.xa a z (s.free q)
    · subst z; rw [upd_same]; intro q; cases q
    · obtain ⟨xs, e⟩ := R.foot z.1
      rw [s _ _ e]; intro q; cases q
  · obtain ⟨i, hk, e1, m⟩ := blkFp_at h
    refine .inl ⟨?_, ⟨i, m⟩⟩
    have := (List.getElem?_eq_some_iff.mp e1).1
    exact List.mem_map.mpr ⟨k - own.length, by simpa using this, by omega⟩
theorem blk_lf {σ0 : St} {fp' : Fp} {ex' : Addr → Prop} {a : Addr} (hx : ∀ a, ex a → ex' a) (l : Lf (blkC C H1 fp σ0) fp' ex' a) : Lf C fp ex a ∨ H1 a = none := by
  obtain ⟨l1, l2, l3⟩ := l
  rcases l3 with l3 | l3
  · exact .inl ⟨l3.2, fun z => l2 (hx a z), l3.1⟩
  · exact .inr l3
theorem Rel.poke (R : Rel C io H' σ δ fp ex) {xs ys : List V} (hx : ex D) (hD : H' D = some (.lst xs)) (h0 : C.H₀ D = none) : Rel C io (upd H' D (.lst ys)) σ δ fp ex := by
  have nf : ¬ Foot fp D := fun ⟨i, z⟩ => R.dx i D z hx
  have kp : ∀ b o, b ≠ D → H' b = some o → upd H' D (.lst ys) b = some o := fun b o n e => by rw [upd_ne n]; exact e
  refine ⟨R.len, fun i t e => ?_, R.emp, R.nd, R.dj, R.dx, fun a z => ?_, fun b o e n => ?_, fun b e => ?_, R.new, R.io⟩
  · obtain ⟨v, e1, o⟩ := R.own i t e
    refine ⟨v, e1, o.frame (fun a zs l q => ⟨l, ?_⟩) (fun a zs q => kp a _ (fun z => ?_) q) fun a m zs q => kp a _ (fun z => nf ⟨i, z ▸ m⟩) q⟩
    · have na : a ≠ D := fun z => l.2.1 (z ▸ hx)
      rcases q with q | ⟨u, q⟩
      · exact .inl (kp a _ na q)
      · exact .inr ⟨u, kp a _ na q⟩
    · exact ImO.nl q (z ▸ hD)
  · by_cases e : a = D
    · subst e; rw [upd_same]; intro q; cases q
    · rw [upd_ne e]; exact R.xa a z
  · refine kp b o (fun z => ?_) (R.fr b o e n)
    rw [z, h0] at e; cases e
  · refine R.al b ?_
    by_cases q : b = D
    · subst q; rw [upd_same] at e; cases e
    · rwa [upd_ne q] at e
theorem Owns.poke {L : Addr → Prop} {xs ys zs : List V} {rs : List OT} {as : List Addr} (o : Owns G H' L zs rs as) (hD : H' D = Option.some (HO.lst xs)) (hL : ¬ L D) (hn : D ∉ as) : Owns G (upd H' D (.lst ys)) L zs rs as := by
  refine o.frame (fun a zs l q => ⟨l, ?_⟩) (fun a zs q => ?_) fun a m zs q => ?_
  · have na : a ≠ D := fun z => hL (z ▸ l)
    rcases q with q | ⟨u, q⟩
    · exact .inl (by rw [upd_ne na]; exact q)
    · exact .inr ⟨u, by rw [upd_ne na]; exact q⟩
  · rw [upd_ne (fun z => ImO.nl q (z ▸ hD))]; exact q
  · have na : a ≠ D := fun z => hn (by rw [← z]; exact m)
    rw [upd_ne na]; exact q
theorem Owns.snoc {L : Addr → Prop} {xs : List V} {rs : List OT} {as bs : List Addr} {x : V} {r : OT} (h : Owns G H' L xs rs as) (k : Own G H' L x r bs) : Owns G H' L (xs ++ [x]) (rs ++ [r]) (as ++ bs) :=
  Owns.rec (motive_1 := fun _ _ _ _ => True) (motive_2 := fun xs rs as _ => Owns G H' L (xs ++ [x]) (rs ++ [r]) (as ++ bs)) (fun _ => trivial) (fun _ _ _ => trivial) (fun _ _ _ => trivial) (by have := Owns.cons k .nil; rwa [List.append_nil] at this) (fun k _ _ ih => by rw [List.append_assoc]; exact .cons k ih) h
end
structure BlkFin (C : MC G) (H1 : Hp) (fp1 : Fp) (ex : Addr → Prop) (n : Nat) (caps : List Nat) (σ0 : St) (D : Addr) (pb : Bool) (H' : Hp) (σ' : St) (δ' : DEnv) (fp' : Fp) (ys : List V) (rs : List OT) (new : List Addr) : Prop where
  keep : ∀ b o, H1 b = some o → (pb = true ∨ ¬ Foot (blkFp n caps fp1) b) → H' b = some o
  al : ∀ b, H' b = none → H1 b = none
  dat : H' D = some (.lst ys)
  rel : Rel (blkC C H1 fp1 σ0) (blkIo n caps) H' σ' δ' fp' (exu (blkEx ex D fp1 (blkFp n caps fp1)) new)
  grow : ∀ a, Foot fp' a → Foot (blkFp n caps fp1) a ∨ H1 a = none
  own : Owns G H' (fun a => true = true → Lf (blkC C H1 fp1 σ0) fp' (exu (blkEx ex D fp1 (blkFp n caps fp1)) new) a) ys rs new
  nd : new.Nodup
  fresh : ∀ a ∈ new, H1 a = none ∧ a ≠ D
section
variable {io : List Nat} {p c pt pe ci : Bool} {g : MGt} {mt : MTt} {me : MEt} {own : List Str} {caps : List Nat}
theorem comp_loop {C : MC G} {H1 : Hp} {σ : St} {δ1 : DEnv} {fp1 : Fp} {ex : Addr → Prop} {J : It} {ds : List PyData} {D : Addr} {Qf : Hp → Prop} (I : Nat → List OT → DEnv → Prop) (R1 : Rel C io H1 σ δ1 fp1 ex)
    (it : ∀ H' : Hp, (∀ b o, H1 b = some o → ((pt && pe) = true ∨ ¬ Foot (blkFp own.length caps fp1) b) → H' b = some o) → ∀ i : Nat, (∀ d, ds[i]? = some d → J.go i H' ∧ ∀ x H'', J.yld i H' x H'' → Same H' H'' ∧ Da G H'' (fun a => ci = true → (Lf C fp1 ex a ∧ H1 a ≠ none)) x d) ∧ (ds[i]? = none → J.stop i H'))
    (nd : caps.Nodup) (hD : H1 D = none) (hz : ds.length ≤ sizeLine) (h0 : I 0 [] (blk own.length caps δ1))
    (turn : ∀ (i : Nat) (d : PyData) (rs : List OT) (δ' : DEnv), ds[i]? = some d → I i rs δ' → g d δ' fun δ2 => mt δ2 fun b δ3 => if b = true then me δ3 fun r δ4 => I (i + 1) (rs ++ [r]) δ4 else I (i + 1) rs δ3)
    (fin : ∀ H' σ' δ' fp' ys rs new, BlkFin C H1 fp1 ex own.length caps (start' own caps σ) D (pt && pe) H' σ' δ' fp' ys rs new → I ds.length rs δ' → Qf H') :
    cLoop J (gM G (blkIo own.length caps) ci g) (ttM G (blkIo own.length caps) pt mt) (tM G (blkIo own.length caps) pe true me) (start' own caps σ) D Qf H1 := by
  have hx : blkEx ex D fp1 (blkFp own.length caps fp1) D := .inr (.inl rfl)
  refine ⟨fun i n σ' H' => n = ds.length - i ∧ i ≤ ds.length ∧ ∃ rs ys new δ' fp', BlkFin C H1 fp1 ex own.length caps (start' own caps σ) D (pt && pe) H' σ' δ' fp' ys rs new ∧ ys.length ≤ i ∧ I i rs δ', ⟨ds.length, rfl, Nat.zero_le _, [], [], [], _, _, ⟨fun b o e _ => same_new hD _ _ _ e, (same_new hD _).al, upd_same, ?_, fun a z => .inl z, .nil, .nil, fun a m => (nomatch m)⟩, Nat.le_refl _, h0⟩, ?_⟩
  · exact (R1.block nd hD).drop fun a z => exu_nil.mp z
  rintro i n σ2 H2 ⟨rfl, hle, rs, ys, new, δ2, fp2, B, hl, i2⟩
  have subB : ∀ b, Foot (blkFp own.length caps fp1) b → Foot fp1 b := fun b q92 => by
    obtain ⟨k, z⟩ := q92
    obtain ⟨i, _, _, z⟩ := blkFp_at z
    exact ⟨i, z⟩
  have itk := it H2 B.keep i
  by_cases hlt : i < ds.length
  case neg =>
    have e : i = ds.length := by omega
    subst e
    exact .inl ⟨itk.2 (by simp), fin H2 σ2 δ2 fp2 ys rs new B i2⟩
  have hd : ds[i]? = some ds[i] := List.getElem?_eq_getElem hlt
  obtain ⟨go, yl⟩ := itk.1 _ hd
  refine .inr ⟨go, fun x H3 hy => ?_⟩
  obtain ⟨s3, q3⟩ := yl x H3 hy
  have R3 := B.rel.mk0 s3
  have D3 : H3 D = some (.lst ys) := s3 _ _ B.dat
  -- the item, clean in the block
  have q3' : Da G H3 (fun a => ci = true → Lf (blkC C H1 fp1 (start' own caps σ)) fp2 (exu (blkEx ex D fp1 (blkFp own.length caps fp1)) new) a) x ds[i] := by
    refine q3.wide fun a l _ z => ?_
    obtain ⟨⟨l1, l2, l3⟩, l4⟩ := l z
    refine ⟨fun w => ?_, fun w => ?_, .inl ⟨l3, l1⟩⟩
    · rcases B.grow a w with w | w
      · exact l1 (subB a w)
      · exact l4 w
    · rcases w with (w | w | w) | w
      · exact l2 w
      · subst w; exact l4 hD
      · exact l1 w.1
      · exact l4 (B.fresh a w).1
  refine ⟨_, δ2, fp2, _, _, _, R3, q3', turn i _ rs δ2 hd i2, fun σ4 δ4 fp4 R4 k4 h4 => ?_⟩
  refine ⟨_, δ4, fp4, _, _, R4, h4, fun H5 b δ5 fp5 R5 S5 h5 => ?_⟩
  -- the state behind the test
  have keep5 : ∀ b o, H1 b = some o → ((pt && pe) = true ∨ ¬ Foot (blkFp own.length caps fp1) b) → H5 b = some o := fun b o e q => by
    refine S5.keep b o (s3 _ _ (B.keep b o e q)) ?_
    rcases q with q | q
    · rw [Bool.and_eq_true] at q; exact .inl q.1
    · refine .inr fun z => ?_
      rcases k4.grow b z with z | z
      · rcases B.grow b z with z | z
        · exact q z
        · rw [e] at z; cases z
      · rw [s3 _ _ (B.keep b o e (.inr q))] at z; cases z
  have al5 : ∀ b, H5 b = none → H1 b = none := fun b e => B.al b (s3.al b (S5.al b e))
  have grow4 : ∀ a, Foot fp4 a → Foot (blkFp own.length caps fp1) a ∨ H1 a = none := fun a z => by
    rcases k4.grow a z with z | z
    · exact B.grow a z
    · exact .inr (B.al a (s3.al a z))
  have grow5 : ∀ a, Foot fp5 a → Foot (blkFp own.length caps fp1) a ∨ H1 a = none := fun a z => by
    rcases S5.grow a z with z | z
    · exact grow4 a z
    · exact .inr (B.al a (s3.al a z))
  have D5 : H5 D = some (.lst ys) := S5.keep D _ D3 (.inr fun ⟨k, z⟩ => R4.dx k D z (.inl hx))
  have own3 := B.own.same s3
  -- the items so far behind the target and the test
  have own4 : Owns G H3 (fun a => true = true → Lf (blkC C H1 fp1 (start' own caps σ)) fp4 (exu (blkEx ex D fp1 (blkFp own.length caps fp1)) new) a) ys rs new := by
    refine own3.wide fun a l q z => ?_
    obtain ⟨l1, l2, l3⟩ := l z
    exact ⟨fun w => (k4.grow a w).elim l1 q, l2, l3⟩
  have own5 := R4.owns_step (ex' := exu (blkEx ex D fp1 (blkFp own.length caps fp1)) new) S5 (c := true) (.inr rfl) (fun a z => .inl z) (fun a m => .inr m) own4
  dsimp only at h5 ⊢
  cases b with
  | false =>
    rw [if_neg Bool.false_ne_true] at h5 ⊢
    exact ⟨ds.length - (i + 1), by omega, rfl, hlt, rs, ys, new, δ5, fp5, ⟨keep5, al5, D5, R5, grow5, own5, B.nd, B.fresh⟩, by omega, h5⟩
  | true =>
    rw [if_pos rfl] at h5 ⊢
    refine ⟨_, δ5, fp5, _, _, R5, h5, fun H6 v r δ6 fp6 nr r6 h6 => ?_⟩
    have D6 : H6 D = some (.lst ys) := r6.stp.keep D _ D5 (.inr fun ⟨k, z⟩ => R5.dx k D z (.inl hx))
    have hDnr : D ∉ nr := fun z => by
      have := r6.fresh D z
      rw [D5] at this; cases this
    have own6 := R5.owns_step (ex' := exu (exu (blkEx ex D fp1 (blkFp own.length caps fp1)) new) nr) r6.stp (c := true) (.inr rfl) (fun a z => z.imp id fun z => r6.fresh a z) (fun a m => .inr m) own5
    have eqx : ∀ a, exu (blkEx ex D fp1 (blkFp own.length caps fp1)) (new ++ nr) a → exu (exu (blkEx ex D fp1 (blkFp own.length caps fp1)) new) nr a := fun a z => by
      rcases z with z | z
      · exact .inl (.inl z)
      · rcases List.mem_append.mp z with z | z
        · exact .inl (.inr z)
        · exact .inr z
    have lw : ∀ a, (true = true → Lf (blkC C H1 fp1 (start' own caps σ)) fp6 (exu (exu (blkEx ex D fp1 (blkFp own.length caps fp1)) new) nr) a) → H6 a ≠ none → (true = true → Lf (blkC C H1 fp1 (start' own caps σ)) fp6 (exu (blkEx ex D fp1 (blkFp own.length caps fp1)) (new ++ nr)) a) :=
      fun a l _ z => ⟨(l z).1, fun w => (l z).2.1 (eqx a w), (l z).2.2⟩
    have ownA := (own6.snoc r6.own).wide lw
    refine ⟨ys, D6, by omega, ds.length - (i + 1), by omega, rfl, hlt, rs ++ [r], ys ++ [v], new ++ nr, δ6, fp6, ⟨fun b o e q => ?_, fun b e => ?_, upd_same, ?_, fun a z => ?_, ?_, ?_, fun a m => ?_⟩, by rw [List.length_append]; show ys.length + 1 ≤ i + 1; omega, h6⟩
    · have nD : b ≠ D := fun z => by rw [z, hD] at e; cases e
      rw [upd_ne nD]
      refine r6.stp.keep b o (keep5 b o e q) ?_
      rcases q with q | q
      · rw [Bool.and_eq_true] at q; exact .inl q.2
      · refine .inr fun z => ?_
        rcases grow5 b z with z | z
        · exact q z
        · rw [e] at z; cases z
    · by_cases q : b = D
      · subst q; rw [upd_same] at e; cases e
      · rw [upd_ne q] at e
        exact al5 b (r6.stp.al b e)
    · exact (r6.rel.drop eqx).poke (.inl hx) D6 hD
    · rcases r6.stp.grow a z with z | z
      · exact grow5 a z
      · exact .inr (al5 a z)
    · exact ownA.poke D6 (fun z => (z rfl).2.1 (.inl hx)) (fun m => by
        rcases List.mem_append.mp m with m | m
        · exact (B.fresh D m).2 rfl
        · exact hDnr m)
    · refine List.nodup_append.mpr ⟨B.nd, r6.nd, fun a m b m' z => ?_⟩
      subst z
      obtain ⟨xs, e⟩ := own5.some a m
      rw [r6.fresh a m'] at e; cases e
    · rcases List.mem_append.mp m with m | m
      · exact B.fresh a m
      · exact ⟨al5 a (r6.fresh a m), fun z => hDnr (z ▸ m)⟩
end
end L2
namespace L2
open PySem PySem.Spec PyProof.Rows
variable {G : PySem.W.Frag}
section
variable {X : Cx} {io : List Nat} {p p' c pt pe ci : Bool} {g : MGt} {mt : MTt} {me m : MEt} {mi : MIt} {own : List Str} {caps : List Nat} {e : Expr}
noncomputable def mCompB (n : Nat) (caps : List Nat) (ds : List PyData) (g : MGt) (mt : MTt) (me : MEt) (δ1 : DEnv) (K : OT → DEnv → Prop) : Prop := ds.length ≤ sizeLine ∧ ∃ I : Nat → List OT → DEnv → Prop, I 0 [] (blk n caps δ1) ∧
  (∀ (i : Nat) (d : PyData) (rs : List OT) (δ' : DEnv), ds[i]? = some d → I i rs δ' → g d δ' fun δ2 => mt δ2 fun b δ3 => if b = true then me δ3 fun r δ4 => I (i + 1) (rs ++ [r]) δ4 else I (i + 1) rs δ3) ∧
  ∀ rs δ', I ds.length rs δ' → K (.nd rs) δ1
noncomputable def mComp (n : Nat) (caps : List Nat) (mi : MIt) (g : MGt) (mt : MTt) (me : MEt) : MEt := fun δ K => mi δ fun ds δ1 => mCompB n caps ds g mt me δ1 K
theorem sComp {wi : TI} (si : SI G io p ci wi mi) (nd : caps.Nodup) (hp : (pt && pe) = true) :
    SE G io p true (tComp own caps wi (gM G (blkIo own.length caps) ci g) (ttM G (blkIo own.length caps) pt mt) (tM G (blkIo own.length caps) pe true me)) (mComp own.length caps mi g mt me) := by
  intro C H σ δ fp ex K Q R h k
  refine si C H σ δ fp ex _ _ R h fun J H1 ds δ1 fp1 R1 S1 it h1 D hD => ?_
  obtain ⟨hz, I, h0, turn, fin⟩ := h1
  refine comp_loop I R1 (fun H' kp => it H' fun b o e _ => kp b o e (.inl hp)) nd hD hz h0 turn fun H' σ' δ' fp' ys rs new B i' => ?_
  have s : Same H1 H' := fun b o e => B.keep b o e (.inl hp)
  refine k H' (.ref D) (.nd rs) δ1 fp1 (D :: new) (RE.tree R R1 S1 s (fun a m => ?_) (List.nodup_cons.mpr ⟨fun m => (B.fresh D m).2 rfl, B.nd⟩) (.nd B.dat (B.own.wide fun a l _ => ?_))) (fin rs δ' i')
  · rcases List.mem_cons.mp m with rfl | m
    · exact hD
    · exact (B.fresh a m).1
  · refine ⟨?_, fun m => ?_⟩
    · rcases blk_lf (fun a z => .inl (.inl z)) (l rfl) with z | z
      · exact .inl fun _ => z
      · exact .inr z
    · rcases List.mem_cons.mp m with z | z
      · exact (l rfl).2.1 (.inl (.inr (.inl z)))
      · exact (l rfl).2.1 (.inr z)
noncomputable def capsOk (caps : List Nat) (o : Nat) (δ : DEnv) : Bool := caps.all fun i => i == o || match δ[i]? with | some (some (.nd _)) => false | some (some (.tp _)) => false | _ => true
noncomputable def mCompIB (n : Nat) (caps : List Nat) (o q : Nat) (ds : List PyData) (g : MGt) (mt : MTt) (me : MEt) (δ1 : DEnv) (K : OT → DEnv → Prop) : Prop := ds.length ≤ sizeLine ∧ capsOk caps o δ1 = true ∧ ∃ I : Nat → List OT → DEnv → Prop, I 0 [] (blk n caps δ1) ∧
  (∀ (i : Nat) (d : PyData) (rs : List OT) (δ' : DEnv), ds[i]? = some d → I i rs δ' → g d δ' fun δ2 => mt δ2 fun b δ3 => if b = true then me δ3 fun r δ4 => I (i + 1) (rs ++ [r]) δ4 else I (i + 1) rs δ3) ∧
  ∀ rs δ', I ds.length rs δ' → match δ1[o]?, δ'[q]? with | some (some _), some (some t) => K (.nd rs) (δ1.set o (some t)) | _, _ => False
noncomputable def mCompI (n : Nat) (caps : List Nat) (o q : Nat) (mi : MIt) (g : MGt) (mt : MTt) (me : MEt) : MEt := fun δ K => mi δ fun ds δ1 => mCompIB n caps o q ds g mt me δ1 K
theorem capsOk_fp {C : MC G} {H : Hp} {σ : St} {δ : DEnv} {fp : Fp} {ex : Addr → Prop} {o : Nat} (R : Rel C io H σ δ fp ex) (h : capsOk caps o δ = true) {k : Nat} {a : Addr} {n : Nat} (m : a ∈ blkFp n caps fp k) : a ∈ fp o := by
  obtain ⟨i, _, e, m⟩ := blkFp_at m
  have := List.all_eq_true.mp h i (List.mem_of_getElem? e)
  rw [Bool.or_eq_true] at this
  rcases this with z | z
  · rw [beq_iff_eq] at z; subst z; exact m
  · by_cases q : ∃ t, δ[i]? = some (some t)
    · obtain ⟨t, q⟩ := q
      obtain ⟨v, _, ow⟩ := R.own i t q
      rw [q] at z
      cases t with
      | nd ts => cases z
      | tp ts => cases z
      | fz d =>
        generalize fp i = as at ow m
        cases ow
        exact nomatch m
    · rw [R.emp i fun t w => q ⟨t, w⟩] at m
      exact nomatch m
theorem sCompI {wi : TI} {o q : Nat} (si : SI G io p true wi mi) (nd : caps.Nodup) (ho : caps[q - own.length]? = some o) (hq : own.length ≤ q) :
    SE G io false true (tComp own caps wi (gM G (blkIo own.length caps) true g) (ttM G (blkIo own.length caps) pt mt) (tM G (blkIo own.length caps) pe true me)) (mCompI own.length caps o q mi g mt me) := by
  intro C H σ δ fp ex K Q R h k
  refine si C H σ δ fp ex _ _ R h fun J H1 ds δ1 fp1 R1 S1 it h1 D hD => ?_
  obtain ⟨hz, hcap, I, h0, turn, fin⟩ := h1
  refine comp_loop I R1 (fun H' kp => it H' fun b o e q => kp b o e (q.elim (fun z => nomatch z) fun q => .inr fun z => q (by obtain ⟨k, z⟩ := z; obtain ⟨j, _, _, z⟩ := blkFp_at z; exact ⟨j, z⟩))) nd hD hz h0 turn fun H' σ' δ' fp' ys rs new B i' => ?_
  have h2 := fin rs δ' i'
  split at h2
  case h_2 => exact h2.elim
  rename_i t0 t' e0 e'
  obtain ⟨v0, ev, _⟩ := R1.own o t0 e0
  obtain ⟨v1, ev1, o1⟩ := B.rel.own q t' e'
  have hql : q - own.length < caps.length := (List.getElem?_eq_some_iff.mp ho).1
  have hio := B.rel.io q (List.mem_map.mpr ⟨q - own.length, by simpa using hql, by omega⟩)
  have hs : (start' own caps σ)[q]? = some (some v0) := by
    unfold start'
    rw [List.getElem?_append_right (by simpa using hq), List.length_map, List.getElem?_map, ho]
    simp [ev]
  have : v1 = v0 := by
    rw [ev1] at hio
    have hio' : some (some v1) = (start' own caps σ)[q]? := hio
    rw [hs] at hio'
    cases hio'; rfl
  subst this
  have lw : ∀ a, Lf (blkC C H1 fp1 (start' own caps σ)) fp' (exu (blkEx ex D fp1 (blkFp own.length caps fp1)) new) a → H' a ≠ none → Lf C (fpu fp1 o (fp' q)) (exu ex (D :: new)) a := fun a l _ => by
    have nD : a ∉ D :: new := fun m => by
      rcases List.mem_cons.mp m with z | z
      · exact l.2.1 (.inl (.inr (.inl z)))
      · exact l.2.1 (.inr z)
    have nq : a ∉ fp' q := fun z => l.1 ⟨q, z⟩
    rcases blk_lf (C := C) (fp := fp1) (ex := ex) (fun a z => .inl (.inl z)) l with z | z
    · exact ⟨fun w => by
        rcases w.of_u with w | ⟨j, _, w⟩
        · exact nq w
        · exact z.1 ⟨j, w⟩, fun w => w.elim z.2.1 nD, z.2.2⟩
    · have := R1.newOk z
      exact ⟨fun w => by
        rcases w.of_u with w | ⟨j, _, w⟩
        · exact nq w
        · exact this.1 ⟨j, w⟩, fun w => w.elim this.2.1 nD, .inr this.2.2⟩
  obtain ⟨R2, S2⟩ := R1.change (new := D :: new) (t' := t') e0 ev (fun b ob eb nb => B.keep b ob eb (.inr fun ⟨k, z⟩ => nb (capsOk_fp R1 hcap z))) B.al (o1.wide lw) (B.rel.nd q)
    (fun a m => by
      rcases B.grow a ⟨q, m⟩ with ⟨k, z⟩ | z
      · exact .inl (capsOk_fp R1 hcap z)
      · exact .inr z)
    (fun a m => by
      rcases List.mem_cons.mp m with rfl | m
      · refine ⟨hD, fun z => ?_, fun z => B.rel.dx q _ z (.inl (.inr (.inl rfl)))⟩
        rw [B.dat] at z; cases z
      · refine ⟨(B.fresh a m).1, fun z => ?_, fun z => B.rel.dx q _ z (.inr m)⟩
        obtain ⟨xs, e⟩ := B.own.some a m
        rw [z] at e; cases e)
  refine k H' (.ref D) (.nd rs) _ _ (D :: new) ⟨R2, (S1.trans S2).cast (fun z => nomatch z), .nd B.dat (B.own.wide fun a l q _ => lw a (l rfl) q), List.nodup_cons.mpr ⟨fun m => (B.fresh D m).2 rfl, B.nd⟩, fun a m => ?_⟩ h2
  rcases List.mem_cons.mp m with rfl | m
  · exact S1.al _ hD
  · exact S1.al _ (B.fresh a m).1
variable {N' : List Str} {sc : Scope} {tg elt iter : Expr} {ifs : List Expr} {pos : Pos}
theorem m_comp (S : CompScope X own caps N' sc) (hc : X.calm = true) (nd : caps.Nodup) (hi : MI X io p ci tg iter mi)
    (hg : ∀ C cells s₂ H₂ fp, MG (compCx X N' sc C cells s₂ H₂ fp) (blkIo own.length caps) ci tg g) (ht : ∀ C cells s₂ H₂ fp, MIfs (compCx X N' sc C cells s₂ H₂ fp) (blkIo own.length caps) pt ifs mt) (he : ∀ C cells s₂ H₂ fp, ME (compCx X N' sc C cells s₂ H₂ fp) (blkIo own.length caps) pe true elt me)
    (hp : (pt && pe) = true := by rfl) (hs : ∀ x, foldedSetIterable iter X.env x = pure x := by intro _; rfl) : ME X io p true (.ListComp elt [⟨tg, iter, ifs, 0⟩] sc pos) (mComp own.length caps mi g mt me) := by
  obtain ⟨_, A, si⟩ := hi
  exact ⟨_, pe_comp S hc A (fun C cells s₂ H₂ fp => (hg C cells s₂ H₂ fp).canon) (fun C cells s₂ H₂ fp => (ht C cells s₂ H₂ fp).canon) (fun C cells s₂ H₂ fp => (he C cells s₂ H₂ fp).canon) hs, sComp si nd hp⟩
theorem m_compI {o q : Nat} (S : CompScope X own caps N' sc) (hc : X.calm = true) (nd : caps.Nodup) (ho : caps[q - own.length]? = some o) (hq : own.length ≤ q) (hi : MI X io p true tg iter mi)
    (hg : ∀ C cells s₂ H₂ fp, MG (compCx X N' sc C cells s₂ H₂ fp) (blkIo own.length caps) true tg g) (ht : ∀ C cells s₂ H₂ fp, MIfs (compCx X N' sc C cells s₂ H₂ fp) (blkIo own.length caps) pt ifs mt) (he : ∀ C cells s₂ H₂ fp, ME (compCx X N' sc C cells s₂ H₂ fp) (blkIo own.length caps) pe true elt me)
    (hs : ∀ x, foldedSetIterable iter X.env x = pure x := by intro _; rfl) : ME X io false true (.ListComp elt [⟨tg, iter, ifs, 0⟩] sc pos) (mCompI own.length caps o q mi g mt me) := by
  obtain ⟨_, A, si⟩ := hi
  exact ⟨_, pe_comp S hc A (fun C cells s₂ H₂ fp => (hg C cells s₂ H₂ fp).canon) (fun C cells s₂ H₂ fp => (ht C cells s₂ H₂ fp).canon) (fun C cells s₂ H₂ fp => (he C cells s₂ H₂ fp).canon) hs, sCompI si nd ho hq⟩
section
variable {i : Nat} {y : Str} {py spos : Pos}
theorem ms_setcomp (own' : Bool) (hN : X.N.Nodup) (hy : X.N[i]? = some y) (hx : Loc X.env.scope y) (S : CompScope X own caps N' sc) (hc : X.calm = true) (nd : caps.Nodup) (hi : MI X io p ci tg iter mi)
    (hg : ∀ C cells s₂ H₂ fp, MG (compCx X N' sc C cells s₂ H₂ fp) (blkIo own.length caps) ci tg g) (ht : ∀ C cells s₂ H₂ fp, MIfs (compCx X N' sc C cells s₂ H₂ fp) (blkIo own.length caps) pt ifs mt) (he : ∀ C cells s₂ H₂ fp, ME (compCx X N' sc C cells s₂ H₂ fp) (blkIo own.length caps) pe true elt me)
    (hp : (pt && pe) = true := by rfl) (hio : i ∉ io := by decide)
    (hsw : swapsWith (.ListComp elt [⟨tg, iter, ifs, 0⟩] sc pos) (some (.Name y py)) spos.line X.env = pure true := by rfl)
    (hs : ∀ x, foldedSetIterable iter X.env x = pure x := by intro _; rfl) (hf : X.fn y = true ∨ X.env.scope.names.lookup y = some .local := by first | exact .inl rfl | exact .inr rfl | assumption) :
    MS X io (.Assign [.Name y py] (.ListComp elt [⟨tg, iter, ifs, 0⟩] sc pos) spos) (if own' = true then mSetO i (mComp own.length caps mi g mt me) else mSet i (mComp own.length caps mi g mt me)) := by
  obtain ⟨_, A, si⟩ := hi
  refine ⟨_, ps_setcomp (g := gM X.K (blkIo own.length caps) ci g) (tt := ttM X.K (blkIo own.length caps) pt mt) (te := tM X.K (blkIo own.length caps) pe true me) hN hy hx S hc A (fun C cells s₂ H₂ fp => (hg C cells s₂ H₂ fp).canon) (fun C cells s₂ H₂ fp => (ht C cells s₂ H₂ fp).canon) (fun C cells s₂ H₂ fp => (he C cells s₂ H₂ fp).canon) hsw hs hf, ?_⟩
  cases own'
  · exact sSet (sComp si nd hp) hio
  · exact sSetO (sComp si nd hp) hio
end
end
end L2
namespace L2
open PySem PySem.Spec PyProof.Rows
variable {G : PySem.W.Frag}
section
variable {X : Cx} {pins : List (Addr × Obj)} {σ : St} {H : Hp} {s : Shared} {l : Addr} {xs : List V}
noncomputable def rCatR (K : PySem.W.Frag) : R2 := fun x y H Q => ∃ l b xs zs, x = .ref l ∧ y = .ref b ∧ SqL K H l xs ∧ SqL K H b zs ∧ xs.length + zs.length ≤ sizeLine ∧ ∀ p, H p = none → Q (.ref p) (upd H p (.lst (xs ++ zs)))
theorem Inv.lstQ {K : PySem.W.Frag} (hK : X.K = K) (I : Inv X pins σ H s) (hH : SqL K H l xs) : ∃ (its : List Value) (n : Nat), Vals xs its ∧ xs.length = its.length ∧ ∃ o, s.heap.get? l = some o ∧ o.cls = .type "list" ∧ o.dict = none ∧ o.data = .seq its.toArray n := by
  subst hK
  obtain ⟨its, r, ⟨o, n, e, h1, h2, h3⟩, _⟩ := I.list hH
  exact ⟨its, n, r, r.length, o, e, h1, h2, h3⟩
theorem op_catR {K : PySem.W.Frag} (hK : X.K = K) : OpR X (binaryOp .Add) (rCatR K) := by
  intro pins s σ H x y v u Q I rx ry h
  obtain ⟨l, b, xs, zs, rfl, rfl, hH, hB, hz, q⟩ := h
  cases rx
  cases ry
  obtain ⟨its, n, r, hl, ⟨cls, dd, data, sl⟩, ho, hc, _, hd⟩ := I.lstQ hK hH
  obtain ⟨its2, n2, r2, hl2, ⟨cls2, dd2, data2, sl2⟩, ho2, hc2, _, hd2⟩ := I.lstQ hK hB
  simp only at hc hd hc2 hd2
  subst hc hd hc2 hd2
  have ea : its.toArray ++ its2.toArray = (its ++ its2).toArray := by simp
  refine concat_meets ⟨_, ho, rfl⟩ ⟨_, ho2, rfl⟩ noFill_list_add seq_list_add PySem.F.slot_list_add PySem.F.entry_list_add (PySem.F.args_list_add_2 _ _) (list_addW l b its.toArray its2.toArray n n2 dd dd2 sl sl2 (by simp only [List.size_toArray]; omega)) ⟨ho, ho2, ?_⟩
  rw [ea]
  exact ⟨.ref _, _, I.lnew (t' := s.toks) (r.append r2) (by rw [List.length_append]; omega), rfl, q _ I.fresh⟩
end
noncomputable def asI (d : PyData) (k : Int → Prop) : Prop := match d with | .int i => k i | _ => False
noncomputable def asL (d : PyData) (k : List PyData → Prop) : Prop := match d with | .list ds => k ds | _ => False
section
variable {H : Hp} {L : Addr → Prop} {v : V} {d : PyData}
theorem Da.intInv {k : Int → Prop} (q : Da G H L v d) (h : asI d k) : ∃ i, v = .int i ∧ k i := by
  cases q with
  | int b => exact ⟨b, rfl, h⟩
  | _ => exact h.elim
theorem Da.lstInv {k : List PyData → Prop} (q : Da G H L v d) (h : asL d k) : ∃ a xs ds, v = .ref a ∧ SqL G H a xs ∧ Das G H L xs ds ∧ k ds := by
  cases q with
  | lst l e r => exact ⟨_, _, _, rfl, .inl e, r, h⟩
  | scr s => exact ⟨_, _, _, rfl, s.sq, .ints _, h⟩
  | _ => exact h.elim
end
noncomputable def d2I (C : Int → Int → Prop) (g : Int → Int → PyData) : PyData → PyData → (PyData → Prop) → Prop := fun d e k => asI d fun i => asI e fun j => C i j ∧ k (g i j)
noncomputable def d2I0 (g : Int → Int → PyData) : PyData → PyData → (PyData → Prop) → Prop := fun d e k => asI d fun i => asI e fun j => k (g i j)
theorem p2_int {C : Int → Int → Prop} {f : Int → Int → Int} : P2s G (rI C fun i j => .int (f i j)) (d2I C fun i j => .int (f i j)) := fun H L x y d e k Q hx hy h kk => by
  obtain ⟨i, rfl, h⟩ := hx.intInv h
  obtain ⟨j, rfl, h⟩ := hy.intInv h
  exact ⟨i, j, rfl, rfl, h.1, kk _ _ (.int _) h.2⟩
structure MulOk (i j : Int) : Prop where
  ok : IntMulOk i j
structure DvOk (i j : Int) : Prop where
  ok : DivOk i j
structure PwOk (i j : Int) : Prop where
  ok : CPow i j
theorem p2_mul {f : Int → Int → Int} : P2s G (rI IntMulOk fun i j => .int (f i j)) (d2I MulOk fun i j => .int (f i j)) := fun H L x y d e k Q hx hy h kk => by
  obtain ⟨i, rfl, h⟩ := hx.intInv h
  obtain ⟨j, rfl, h⟩ := hy.intInv h
  exact ⟨i, j, rfl, rfl, h.1.ok, kk _ _ (.int _) h.2⟩
theorem p2_div {f : Int → Int → Int} : P2s G (rI DivOk fun i j => .int (f i j)) (d2I DvOk fun i j => .int (f i j)) := fun H L x y d e k Q hx hy h kk => by
  obtain ⟨i, rfl, h⟩ := hx.intInv h
  obtain ⟨j, rfl, h⟩ := hy.intInv h
  exact ⟨i, j, rfl, rfl, h.1.ok, kk _ _ (.int _) h.2⟩
theorem p2_pow {f : Int → Int → Int} : P2s G (rI CPow fun i j => .int (f i j)) (d2I PwOk fun i j => .int (f i j)) := fun H L x y d e k Q hx hy h kk => by
  obtain ⟨i, rfl, h⟩ := hx.intInv h
  obtain ⟨j, rfl, h⟩ := hy.intInv h
  exact ⟨i, j, rfl, rfl, h.1.ok, kk _ _ (.int _) h.2⟩
theorem p2_int0 {f : Int → Int → Int} : P2s G (rI0 fun i j => .int (f i j)) (d2I0 fun i j => .int (f i j)) := fun H L x y d e k Q hx hy h kk => by
  obtain ⟨i, rfl, h⟩ := hx.intInv h
  obtain ⟨j, rfl, h⟩ := hy.intInv h
  exact ⟨i, j, rfl, rfl, kk _ _ (.int _) h⟩
theorem p2_cmp {f : Int → Int → Bool} : P2s G (rI0 fun i j => .bl (f i j)) (d2I0 fun i j => .bool (f i j)) := fun H L x y d e k Q hx hy h kk => by
  obtain ⟨i, rfl, h⟩ := hx.intInv h
  obtain ⟨j, rfl, h⟩ := hy.intInv h
  exact ⟨i, j, rfl, rfl, kk _ _ (.bl _) h⟩
section
variable {X : Cx}
noncomputable def rEqA (K : PySem.W.Frag) : R2 := fun x y H Q => ∃ (L L' : Addr → Prop) (d e : PyData), Da K H L x d ∧ Da K H L' y e ∧ Shp d ∧ Shp e ∧ Q (.bl (PyData.eqv d e)) H
noncomputable def rNeA (K : PySem.W.Frag) : R2 := fun x y H Q => ∃ (L L' : Addr → Prop) (d e : PyData), Da K H L x d ∧ Da K H L' y e ∧ Shp d ∧ Shp e ∧ Q (.bl (!PyData.eqv d e)) H
theorem op_eqA (hu : X.A.units + 64 < cLine) : OpR X (compareOp .Eq) (rEqA X.K) := by
  intro pins s σ H x y v u Q I rx ry h
  obtain ⟨L, L', d, e, h1, h2, s1, s2, q⟩ := h
  obtain ⟨as, k1⟩ := h1.reads rfl I rx (SeqAt.canLay_of_shaped s1)
  obtain ⟨bs, k2⟩ := h2.reads rfl I ry (SeqAt.canLay_of_shaped s2)
  exact eq_dataH k1 k2 s1 s2 hu ⟨.bl _, H, I, rfl, q⟩
theorem op_neA (hu : X.A.units + 64 < cLine) : OpR X (compareOp .NotEq) (rNeA X.K) := by
  intro pins s σ H x y v u Q I rx ry h
  obtain ⟨L, L', d, e, h1, h2, s1, s2, q⟩ := h
  obtain ⟨as, k1⟩ := h1.reads rfl I rx (SeqAt.canLay_of_shaped s1)
  obtain ⟨bs, k2⟩ := h2.reads rfl I ry (SeqAt.canLay_of_shaped s2)
  exact ne_dataH k1 k2 s1 s2 hu ⟨.bl _, H, I, rfl, q⟩
end
structure ShpD (d : PyData) : Prop where
  ok : Shp d
noncomputable def dEq : PyData → PyData → (PyData → Prop) → Prop := fun d e k => ShpD d ∧ ShpD e ∧ k (.bool (PyData.eqv d e))
noncomputable def dNe : PyData → PyData → (PyData → Prop) → Prop := fun d e k => ShpD d ∧ ShpD e ∧ k (.bool (!PyData.eqv d e))
theorem p2_eq : P2s G (rEqA G) dEq := fun H L x y d e k Q hx hy h kk => ⟨L, L, d, e, hx, hy, h.1.ok, h.2.1.ok, kk _ _ (.bl _) h.2.2⟩
theorem p2_ne : P2s G (rNeA G) dNe := fun H L x y d e k Q hx hy h kk => ⟨L, L, d, e, hx, hy, h.1.ok, h.2.1.ok, kk _ _ (.bl _) h.2.2⟩
noncomputable def isNoneD : PyData → Bool
  | .none => true
  | _ => false
theorem Da.isNone {H : Hp} {L : Addr → Prop} {v : V} {d : PyData} (h : Da G H L v d) : decide (v = .non) = isNoneD d := by
  cases h <;> rfl
noncomputable def dIsN : PyData → PyData → (PyData → Prop) → Prop := fun d e k => e = .none ∧ k (.bool (isNoneD d))
noncomputable def dNotN : PyData → PyData → (PyData → Prop) → Prop := fun d e k => e = .none ∧ k (.bool (!isNoneD d))
theorem p2_isN : P2s G (fun x y H Q => y = .non ∧ Q (.bl (decide (x = .non))) H) dIsN := fun H L x y d e k Q hx hy h kk => by
  obtain ⟨rfl, h⟩ := h
  cases hy
  exact ⟨rfl, by rw [hx.isNone]; exact kk _ _ (.bl _) h⟩
theorem p2_notN : P2s G (fun x y H Q => y = .non ∧ Q (.bl (!decide (x = .non))) H) dNotN := fun H L x y d e k Q hx hy h kk => by
  obtain ⟨rfl, h⟩ := h
  cases hy
  exact ⟨rfl, by rw [hx.isNone]; exact kk _ _ (.bl _) h⟩
noncomputable def scD : PyData → Bool
  | .none => true
  | .bool _ => true
  | .int _ => true
  | .str _ => true
  | _ => false
noncomputable def eqS : PyData → PyData → Bool
  | .none, .none => true
  | .bool a, .bool b => a == b
  | .bool a, .int b => (if a then 1 else 0) == b
  | .int a, .bool b => a == (if b then 1 else 0)
  | .int a, .int b => a == b
  | .str a, .str b => a == b
  | _, _ => false
noncomputable def memS (d : PyData) (ds : List PyData) : Bool := ds.any fun e => eqS e d
theorem Da.toSc {H : Hp} {L : Addr → Prop} {v : V} {d : PyData} (h : Da G H L v d) (s : scD d = true) : ScD v d := by
  cases h with
  | non => exact .non
  | bl b => exact .bl b
  | int i => exact .int i
  | str x => exact .str x
  | _ => cases s
theorem Da.sc {H : Hp} {L : Addr → Prop} {v : V} {d : PyData} (h : Da G H L v d) (s : scD d = true) : flatV v = true := by
  cases h.toSc s <;> rfl
theorem Das.sc {H : Hp} {L : Addr → Prop} {vs : List V} {ds : List PyData} (h : Das G H L vs ds) : ds.all scD = true → vs.all flatV = true :=
  Das.ind (Q := fun vs ds => ds.all scD = true → vs.all flatV = true) (fun _ => rfl) (fun h _ r s => by
    rw [List.all_cons, Bool.and_eq_true] at s
    rw [List.all_cons, h.sc s.1, r s.2]; rfl) h
theorem Da.eqS {H : Hp} {L : Addr → Prop} {v u : V} {d e : PyData} (h : Da G H L v d) (g : Da G H L u e) (s : scD d = true) (t : scD e = true) : eqV v u = L2.eqS d e := by
  cases h.toSc s <;> cases g.toSc t <;> rfl
theorem Das.memS {H : Hp} {L : Addr → Prop} {v : V} {d : PyData} (h : Da G H L v d) (s : scD d = true) {vs : List V} {ds : List PyData} (g : Das G H L vs ds) : ds.all scD = true → inV v vs = L2.memS d ds :=
  Das.ind (Q := fun vs ds => ds.all scD = true → inV v vs = L2.memS d ds) (fun _ => rfl) (fun g _ r t => by
    rw [List.all_cons, Bool.and_eq_true] at t
    have := r t.2
    unfold inV L2.memS at *
    rw [List.any_cons, List.any_cons, this, g.eqS h t.1 s]) g
noncomputable def dIn (neg : Bool) : PyData → PyData → (PyData → Prop) → Prop := fun d e k => scD d = true ∧ match e with
  | .list ds => ds.all scD = true ∧ k (.bool (if neg then !memS d ds else memS d ds))
  | .tuple ds => ds.all scD = true ∧ k (.bool (if neg then !memS d ds else memS d ds))
  | _ => False
theorem p2_in {neg : Bool} : P2s G (rIn G neg) (dIn neg) := fun H L x y d e k Q hx hy h kk => by
  obtain ⟨s, h⟩ := h
  cases hy with
  | lst l e r => exact ⟨_, _, rfl, .inl (.inl e), hx.sc s, r.sc h.1, by rw [Das.memS hx s r h.1]; exact kk _ _ (.bl _) h.2⟩
  | tup e r => exact ⟨_, _, rfl, .inr (.inl (.inl e)), hx.sc s, r.sc h.1, by rw [Das.memS hx s r h.1]; exact kk _ _ (.bl _) h.2⟩
  | scr ks => exact ⟨_, _, rfl, .inl ks.sq, hx.sc s, (Das.ints (G := G) (H := H) (L := L) _).sc h.1, by rw [Das.memS hx s (Das.ints (G := G) (H := H) (L := L) _) h.1]; exact kk _ _ (.bl _) h.2⟩
  | _ => exact h.elim
noncomputable def ixD (d e : PyData) : Option PyData := match d, e with
  | .list ds, .int i => atI ds i
  | .tuple ds, .int i => atI ds i
  | _, _ => none
noncomputable def dIx : PyData → PyData → (OT → Prop) → Prop := fun d e k => match ixD d e with | some x => k (.fz x) | none => False
theorem Das.atI {H : Hp} {L : Addr → Prop} {xs : List V} {ds : List PyData} {i : Int} {d : PyData} (h : Das G H L xs ds) (e : L2.atI ds i = some d) : ∃ x, L2.atI xs i = some x ∧ Da G H L x d := by
  unfold L2.atI at *
  rw [h.length]
  cases q : ixN ds.length i with
  | none => rw [q] at e; cases e
  | some j =>
    rw [q] at e
    exact h.get e
theorem p2_ix : P2 G (rIx G) dIx := fun H L x y d e k Q hx hy h kk => by
  unfold dIx at h
  split at h
  case h_2 => exact h.elim
  rename_i z ez
  have fin : ∀ v, Da G H L v z → Q v H := fun v q => kk H v (.fz z) [] (Same.refl _) (.fz (q.wide fun a l _ => ⟨.inl l, fun m => nomatch m⟩)) .nil (fun a m => nomatch m) h
  cases hx with
  | lst l e1 r =>
    cases hy with
    | int i =>
      obtain ⟨v, e2, q⟩ := r.atI (show L2.atI _ i = some z from ez)
      exact .inl ⟨_, _, i, v, rfl, rfl, .inl e1, e2, fin v q⟩
    | _ => cases ez
  | tup e1 r =>
    cases hy with
    | int i =>
      obtain ⟨v, e2, q⟩ := r.atI (show L2.atI _ i = some z from ez)
      exact .inr (.inl ⟨_, _, i, v, rfl, rfl, .inl (.inl e1), e2, fin v q⟩)
    | _ => cases ez
  | scr ks =>
    cases hy with
    | int i =>
      obtain ⟨v, e2, q⟩ := (Das.ints (G := G) (H := H) (L := L) _).atI (show L2.atI _ i = some z from ez)
      exact .inl ⟨_, _, i, v, rfl, rfl, ks.sq, e2, fin v q⟩
    | _ => cases ez
  | _ => cases ez
theorem Own.list {H : Hp} {L : Addr → Prop} {p : Addr} {xs : List V} {ds : List PyData} (hp : H p = none) (h : Das G H L xs ds) : Own G (upd H p (.lst xs)) (fun a => (L a ∨ H a = none) ∧ a ∉ [p]) (.ref p) (.nd (ds.map OT.fz)) [p] :=
  .nd upd_same (((h.wide fun a l q => ⟨.inl l, fun m => q (by rw [List.mem_singleton.mp m]; exact hp)⟩).same (same_new hp _)).owns)
theorem one_new {H : Hp} {p : Addr} (hp : H p = none) : ∀ a ∈ [p], H a = none := fun a m => by rw [List.mem_singleton.mp m]; exact hp
theorem one_nd (p : Addr) : [p].Nodup := List.nodup_cons.mpr ⟨fun m => (nomatch m), .nil⟩
noncomputable def dCat : PyData → PyData → (OT → Prop) → Prop := fun d e k => asL d fun ds => asL e fun es => ds.length + es.length ≤ sizeLine ∧ k (.nd ((ds ++ es).map OT.fz))
theorem p2_cat : P2 G (rCatR G) dCat := fun H L x y d e k Q hx hy h kk => by
  obtain ⟨a, xs, ds, rfl, e1, r1, h⟩ := hx.lstInv h
  obtain ⟨b, ys, es, rfl, e2, r2, h⟩ := hy.lstInv h
  exact ⟨a, b, xs, ys, rfl, rfl, e1, e2, by rw [r1.length, r2.length]; exact h.1, fun p hp => kk _ _ _ [p] (same_new hp _) (Own.list hp (r1.append r2)) (one_nd p) (one_new hp) h.2⟩
noncomputable def n1 (k : PyData → Prop) (ds : List PyData) : Prop := match ds with | [d] => k d | _ => False
noncomputable def n2 (k : PyData → PyData → Prop) (ds : List PyData) : Prop := match ds with | [d, e] => k d e | _ => False
theorem Das.one {H : Hp} {L : Addr → Prop} {vs : List V} {ds : List PyData} {k : PyData → Prop} (q : Das G H L vs ds) (h : n1 k ds) : ∃ v d, vs = [v] ∧ ds = [d] ∧ Da G H L v d ∧ k d := by
  cases q with
  | nil => exact h.elim
  | cons q r =>
    cases r with
    | nil => exact ⟨_, _, rfl, rfl, q, h⟩
    | cons _ _ => exact h.elim
theorem Das.two {H : Hp} {L : Addr → Prop} {vs : List V} {ds : List PyData} {k : PyData → PyData → Prop} (q : Das G H L vs ds) (h : n2 k ds) : ∃ v u d e, vs = [v, u] ∧ ds = [d, e] ∧ Da G H L v d ∧ Da G H L u e ∧ k d e := by
  cases q with
  | nil => exact h.elim
  | cons q r =>
    cases r with
    | nil => exact h.elim
    | cons q' r' =>
      cases r' with
      | nil => exact ⟨_, _, _, _, rfl, rfl, q, q', h⟩
      | cons _ _ => exact h.elim
noncomputable def lenD : PyData → Option Nat
  | .list ds => some ds.length
  | .tuple ds => some ds.length
  | _ => none
noncomputable def dLen : List PyData → (PyData → Prop) → Prop := fun ds k => n1 (fun d => match lenD d with | some n => k (.int n) | none => False) ds
theorem pn_len : PNs G (rLen G) dLen := fun H L xs ds k Q hx h kk => by
  obtain ⟨v, d, rfl, rfl, q, h⟩ := hx.one h
  cases q with
  | lst l e r => exact ⟨_, _, rfl, .inl (.inl e), by rw [r.length]; exact kk _ _ (.int _) h⟩
  | tup e r => exact ⟨_, _, rfl, .inr (.inl (.inl e)), by rw [r.length]; exact kk _ _ (.int _) h⟩
  | scr ks => exact ⟨_, _, rfl, .inl ks.sq, by rw [(Das.ints (G := G) (H := H) (L := L) _).length]; exact kk _ _ (.int _) h⟩
  | _ => exact h.elim
noncomputable def dMax : List PyData → (PyData → Prop) → Prop := fun ds k => n2 (fun d e => asI d fun i => asI e fun j => k (.int (if j > i then j else i))) ds
theorem pn_max2 : PNs G (fun xs H Q => ∃ i j, xs = [.int i, .int j] ∧ Q (.int (if j > i then j else i)) H) dMax := fun H L xs ds k Q hx h kk => by
  obtain ⟨v, u, d, e, rfl, rfl, q, q', h⟩ := hx.two h
  obtain ⟨i, rfl, h⟩ := q.intInv h
  obtain ⟨j, rfl, h⟩ := q'.intInv h
  exact ⟨i, j, rfl, kk _ _ (.int _) h⟩
noncomputable def dMin : List PyData → (PyData → Prop) → Prop := fun ds k => n2 (fun d e => asI d fun i => asI e fun j => k (.int (if j < i then j else i))) ds
theorem pn_min2 : PNs G (fun xs H Q => ∃ i j, xs = [.int i, .int j] ∧ Q (.int (if j < i then j else i)) H) dMin := fun H L xs ds k Q hx h kk => by
  obtain ⟨v, u, d, e, rfl, rfl, q, q', h⟩ := hx.two h
  obtain ⟨i, rfl, h⟩ := q.intInv h
  obtain ⟨j, rfl, h⟩ := q'.intInv h
  exact ⟨i, j, rfl, kk _ _ (.int _) h⟩
noncomputable def dInt : List PyData → (PyData → Prop) → Prop := fun ds k => n1 (fun d => match d with | .int i => k (.int i) | .bool b => k (.int (if b then 1 else 0)) | _ => False) ds
theorem pn_int : PNs G (fun xs H Q => (∃ i, xs = [.int i] ∧ Q (.int i) H) ∨ ∃ k, xs = [.bl k] ∧ Q (.int (if k then 1 else 0)) H) dInt := fun H L xs ds k Q hx h kk => by
  obtain ⟨v, d, rfl, rfl, q, h⟩ := hx.one h
  cases q with
  | int i => exact .inl ⟨i, rfl, kk _ _ (.int _) h⟩
  | bl b => exact .inr ⟨b, rfl, kk _ _ (.int _) h⟩
  | _ => exact h.elim
noncomputable def itemsD : PyData → Option (List PyData)
  | .list ds => some ds
  | .tuple ds => some ds
  | _ => none
noncomputable def dList : List PyData → (OT → Prop) → Prop := fun ds k => n1 (fun d => match itemsD d with | some es => k (.nd (es.map OT.fz)) | none => False) ds
theorem pn_list : PN G (rListOf G) dList := fun H L xs ds k Q hx h kk => by
  obtain ⟨v, d, rfl, rfl, q, h⟩ := hx.one h
  cases q with
  | lst l e r => exact ⟨_, _, rfl, .inl (.inl e), fun p hp => kk _ _ _ [p] (same_new hp _) (Own.list hp r) (one_nd p) (one_new hp) h⟩
  | tup e r => exact ⟨_, _, rfl, .inr (.inl (.inl e)), fun p hp => kk _ _ _ [p] (same_new hp _) (Own.list hp r) (one_nd p) (one_new hp) h⟩
  | scr ks => exact ⟨_, _, rfl, .inl ks.sq, fun p hp => kk _ _ _ [p] (same_new hp _) (Own.list hp (Das.ints _)) (one_nd p) (one_new hp) h⟩
  | _ => exact h.elim
section
variable {X : Cx} {io : List Nat} {p c : Bool} {a : Expr} {ma : MEt} {pos : Pos}
noncomputable def mNeg (m : MEt) : MEt := fun δ K => m δ fun r δ' => asI r.data fun i => K (.fz (.int (-i))) δ'
theorem m_neg (ha : ME X io p c a ma) : ME X io p true (.UnaryOp .USub a pos) (mNeg ma) := by
  obtain ⟨_, A, s⟩ := ha
  exact ⟨_, pe_un un_neg A, fun C H σ δ fp ex K Q R h k => s C H σ δ fp ex _ _ R h fun H' v r δ' fp' new r1 h1 => by
    obtain ⟨i, rfl, h1⟩ := (r1.da R).intInv h1
    exact ⟨i, rfl, k H' _ _ δ' fp' [] (.fz r1.base r1.stp (.int _)) h1⟩⟩
noncomputable def isTy (T : String) : PyData → Bool
  | .none => false
  | .bool _ => T == "bool" || T == "int"
  | .int _ => T == "int"
  | .str _ => T == "str"
  | .list _ => T == "list"
  | .tuple _ => T == "tuple"
  | .dict _ => false
noncomputable def mIsi (T : String) (m : MEt) : MEt := fun δ K => m δ fun r δ' => isFnD r.data = false ∧ K (.fz (.bool (isTy T r.data))) δ'
end
end L2
namespace L2
open PySem PySem.Spec PyProof.Rows
section
variable {prog : Program} {w : World} {A : Around} {E : Value → Shared → Prop} {h : Heap} {g : Array GenState} {d : Drawn} {t : Nat} {os : OsState} {a C : Addr} {o : Obj} {K : PySem.W.Frag}
theorem xcls_ty (M : Model) (hx : h.get? a = some o) (hc : o.cls = .ref C) : PySem.W.Looks M h (typeOf (.ref a)) (.ref C) := hc ▸ (PySem.W.Looks.ld hx).andThen .now
theorem xcls_get {R : Result → Shared → Prop} (X : K.In h) (Z : ExCls K C) (hx : h.get? a = some o) (hc : o.cls = .ref C) (hq : R (.ok (.ret (.ref C))) ⟨h, g, d, t, os⟩) :
    codeAny (model prog w) A (.call (.builtin "getset_descriptor.__get__") ⟨[.builtin "object.__class__", .ref a, .ref C], []⟩) R ⟨h, g, d, t, os⟩ := by
  have L1 : PySem.W.Looks (model prog w) h (isSubtype (.ref C) (.type (".".intercalate ("object.__class__".cutAt '.').dropLast))) true := by
    rw [F.owner_object_class]
    exact PySem.W.looks_subIn X Z.isO
  have T5 : (⟨h, g, d, t, os⟩ : Shared).TypeIs (.builtin "object.__class__") "getset_descriptor" := F.typeOf_object_class
  refine codeAny_call_builtin F.slot_gs_get.plain F.entry_gs_get (F.slot_gs_get.check _ _ _ _ _ _ _ _ T5 (F.args_gs_get _ _ _) ?_)
  repeat (any_goals (first | assumption | (with_reducible refine wpAny_loadPart_at hx ?_; rw [hc]) | (with_reducible refine wpAny_bind (PySem.W.Looks.at L1 ?_)) | (with_reducible refine PySem.W.Looks.at L1 ?_) | wp_step))
  refine ⟨Code.quiet_builtin _ (by decide +kernel), codeAny_builtin F.entry_object_class ?_⟩
  repeat (any_goals (first | assumption | (with_reducible refine wpAny_loadPart_at hx ?_; rw [hc]) | wp_step))
theorem xcls_entry {tk : Tok} {Q : Fin → Shared → Prop} (X : K.In h) (Z : ExCls K C) (hx : h.get? a = some o) (hc : o.cls = .ref C) (hq : Q (.done (.ret (.ref C))) ⟨h, g, d, t, os⟩) :
    wpAny (model prog w) A (Builtin.«object.__getattribute__» ⟨[.ref a, .str "__class__" tk], []⟩) Q E ⟨h, g, d, t, os⟩ := by
  have T5 : (⟨h, g, d, t, os⟩ : Shared).TypeIs (.builtin "object.__class__") "getset_descriptor" := F.typeOf_object_class
  have g5 := F.typeOf_object_class
  have g6 := F.slot_gs_get.lookup
  have g7 := F.slot_gs_set.lookup
  have L4 := PySem.W.looks_findIn (M := model prog w) X Z.cl
  repeat (any_goals (first | assumption | (with_reducible refine wpAny_loadPart_at hx ?_; rw [hc]) | (with_reducible refine wpAny_bind (PySem.W.Looks.at L4 ?_)) | (with_reducible refine PySem.W.Looks.at L4 ?_) | wp_step))
  refine xcls_get X Z hx hc ?_
  repeat (any_goals (first | assumption | wp_step))
theorem xcls_check {M : Model} {nameV : Value} {Q : Unit → Shared → Prop} (X : K.In h) (Z : ExCls K C) (hx : h.get? a = some o) (hc : o.cls = .ref C) (hq : Q () ⟨h, g, d, t, os⟩) :
    wpAny M A (checkBuiltinCall "BaseException.__getattribute__" ⟨[.ref a, nameV], []⟩) Q E ⟨h, g, d, t, os⟩ := by
  have e1 : builtinKind "BaseException.__getattribute__" = some .slot := by decide +kernel
  have e2 : splitId "BaseException.__getattribute__" = some ("BaseException", "__getattribute__") := by decide +kernel
  have L1 := PySem.W.looks_subIn (M := M) X Z.isB
  have e3 := F.args_bexc_ga (.ref a) nameV
  simp only [checkBuiltinCall, e1, e2]
  refine wpAny_bind ?_
  unfold isInstance
  repeat (first | (with_reducible refine wpAny_loadPart_at hx ?_; rw [hc]) | (with_reducible refine wpAny_bind (PySem.W.Looks.at L1 ?_)) | (with_reducible refine PySem.W.Looks.at L1 ?_) | wp_step)
  exact hq
theorem xcls_call {tk : Tok} {R : Result → Shared → Prop} (X : K.In h) (Z : ExCls K C) (hx : h.get? a = some o) (hc : o.cls = .ref C) (hq : R (.ok (.ret (.ref C))) ⟨h, g, d, t, os⟩) :
    codeAny (model prog w) A (.call (.builtin "BaseException.__getattribute__") ⟨[.ref a, .str "__class__" tk], []⟩) R ⟨h, g, d, t, os⟩ :=
  codeAny_call_builtin F.excAttr_ValueError.ga.plain F.entry_bexc_ga (xcls_check X Z hx hc (xcls_entry X Z hx hc hq))
theorem xcls_by {tk : Tok} {fill expr : Bool} {Q : Value → Shared → Prop} (X : K.In h) (Z : ExCls K C) (hx : h.get? a = some o) (hc : o.cls = .ref C) (hq : Q (.ref C) ⟨h, g, d, t, os⟩) :
    wpAny (model prog w) A (getAttrBy (.ref a) (.str "__class__" tk) fill expr) Q E ⟨h, g, d, t, os⟩ := by
  have f3 := F.excAttr_ValueError.ga.bind (.ref a)
  have y0 : (expr && onTheHeap (Value.builtin "BaseException.__getattribute__")) = false := by cases expr <;> rfl
  have y2 : (Value.builtin "BaseException.__getattribute__" == Value.builtin "object.__getattribute__") = false := by decide +kernel
  have y1 : (onTheHeap (Value.ref C) && Value.builtin "BaseException.__getattribute__" == Value.builtin "object.__getattribute__") = false := by rw [y2]; rfl
  have L2 := PySem.W.looks_findIn (M := model prog w) X Z.ga
  have L3 := PySem.W.looks_findIn (M := model prog w) X Z.gt
  repeat (any_goals (first | assumption | (with_reducible refine wpAny_loadPart_at hx ?_; rw [hc]) | (with_reducible refine PySem.W.Looks.at L2 ?_) | (with_reducible refine PySem.W.Looks.at L3 ?_) | (with_reducible refine wpAny_bind (PySem.W.Looks.at L2 ?_)) | (with_reducible refine wpAny_bind (PySem.W.Looks.at L3 ?_)) | wp_step))
  refine xcls_call X Z hx hc ?_
  repeat (any_goals (first | assumption | wp_step))
theorem xcls_attr {Q : Option Value → Shared → Prop} (X : K.In h) (Z : ExCls K C) (hx : h.get? a = some o) (hc : o.cls = .ref C) (hq : Q (some (.ref C)) ⟨h, g, d, t + 1, os⟩) :
    wpAny (model prog w) A (getAttr? (.ref a) "__class__") Q E ⟨h, g, d, t, os⟩ := by
  unfold getAttr? getAttrBy?
  repeat (any_goals (first | assumption | with_reducible apply xcls_by X Z hx hc | wp_step))
end
theorem kitx_exc {K : PySem.W.Frag} {a C : Addr} (Z : ExCls K C) : PySem.W.KitX K (.ref a) (.ref C) (fun h => ∃ o, h.get? a = some o ∧ o.cls = .ref C) where
  ty := fun M h _ p => let ⟨_, hx, hc⟩ := p; xcls_ty M hx hc
  it := fun M h X _ => by
    have z := Z.isC
    unfold PySem.W.clsIn at z
    split at z
    · rename_i ho
      intro A' Q' E' s' k q
      unfold isType loadHead
      exact wpAny_bind (wpAny_loadPart (k _ _ (X _ _ ho)) (wpAny_pure q))
    · cases z
  ne := fun h tp dd its n sl X htp => by
    have z := Z.isC
    refine Bool.eq_false_iff.mpr fun q => ?_
    have e : C = tp := Value.ref.inj (beq_iff_eq.mp q)
    subst e
    unfold PySem.W.clsIn at z
    split at z
    · rename_i ho
      have z := (X _ _ ho).symm.trans htp
      cases z
    · cases z
  ca := fun {_ _ _ _ _ s} X p k => by
    obtain ⟨h, g, d, t, os⟩ := s
    obtain ⟨_, hx, hc⟩ := p
    exact xcls_attr X Z hx hc k
end L2
namespace L2
open PySem PySem.Spec PyProof.Rows
variable {G : PySem.W.Frag}
noncomputable def tyD : PyData → String
  | .none => "NoneType"
  | .bool _ => "bool"
  | .int _ => "int"
  | .str _ => "str"
  | .list _ => "list"
  | .tuple _ => "tuple"
  | .dict _ => "dict"
theorem kitT {K : PySem.W.Frag} {T : String} {d : PyData} (h : T = "int" ∨ T = "bool" ∨ T = "str" ∨ T = "list" ∨ T = "tuple") (hd : ∀ kvs, d ≠ .dict kvs) : PySem.W.kitOne K (.type (tyD d)) (.type T) = some (isTy T d) := by
  rcases h with rfl | rfl | rfl | rfl | rfl <;> cases d <;> first | rfl | (exact absurd rfl (hd _)) | (unfold PySem.W.kitOne PySem.W.kitCls; rfl) | (simp only [tyD, isTy]; decide +kernel)
noncomputable def rIsiD (G : PySem.W.Frag) : List V → Hp → VK → Prop := fun xs H Q => ∃ (x : V) (T : String) (L : Addr → Prop) (d : PyData), xs = [x, .ty T] ∧ Da G H L x d ∧ isFnD d = false ∧ (T = "int" ∨ T = "bool" ∨ T = "str" ∨ T = "list" ∨ T = "tuple") ∧ Q (.bl (isTy T d)) H
theorem call_isiD {X : Cx} (hK : X.K = G) : CallR X (.builtin "isinstance") (rIsiD G) := by
  subst hK
  intro pins s σ H xs us Q I r h
  obtain ⟨x, T, L, d, rfl, q, hf, hT, h⟩ := h
  obtain ⟨u, w', rfl, r1, r2⟩ := vals2 r
  cases (show w' = Value.type T from r2)
  have fin : ∀ tk : Nat, EP X pins σ Q (.bool (isTy T d)) { s with toks := tk } := fun tk => ⟨.bl _, H, I.tok tk, rfl, h⟩
  cases q with
  | non => exact isinst_ok I r1 .non (kitT (d := .none) hT fun _ z => by cases z) fin
  | bl b => exact isinst_ok I r1 (.bl b) (kitT (d := .bool b) hT fun _ z => by cases z) fin
  | int b => exact isinst_ok I r1 (.int b) (kitT (d := .int b) hT fun _ z => by cases z) fin
  | str b => exact isinst_ok I r1 (.str b) (kitT (d := .str b) hT fun _ z => by cases z) fin
  | lst l e qs =>
    rename_i ds
    rcases e with e | ⟨o, e⟩
    · exact isinst_ok I r1 (.lst e) (kitT (d := .list ds) hT fun _ z => by cases z) fin
    · exact isinst_ok I r1 (.frz e) (kitT (d := .list ds) hT fun _ z => by cases z) fin
  | tup e qs =>
    rename_i ds
    exact isinst_ok I r1 (.tup e) (kitT (d := .tuple ds) hT fun _ z => by cases z) fin
  | scr ks =>
    rename_i a ns
    cases (show u = Value.ref a from r1)
    obtain ⟨its, vs, ⟨o, n, ho, hc, hd, hs⟩, _⟩ := I.list (ks.sq (H := H))
    exact PySem.W.kia_one PySem.W.kitx_list I.kIn ⟨o, ho, hc⟩ (kitT (d := .list (ns.map PyData.int)) hT fun _ z => by cases z) (fun z => nomatch z) fin
  | exc Z hn e =>
    rename_i a C x
    cases (show u = Value.ref a from r1)
    obtain ⟨⟨o, vs, ho, hc, _⟩, _, _⟩ := (show ObjOk X.prog X.w H s.heap a (.ext (ExO C a)) from I.hok a _ e)
    refine PySem.W.kia_one (kitx_exc Z) I.kIn ⟨o, ho, hc⟩ (b := isTy T (exD x)) ?_ (fun z => nomatch z) fin
    rcases hT with rfl | rfl | rfl | rfl | rfl
    · exact Z.k1
    · exact Z.k2
    · exact Z.k3
    · exact Z.k4
    · exact Z.k5
  | fn _ => cases hf
section
variable {X : Cx} {io : List Nat} {p c p' c' : Bool} {a b e : Expr} {ma m : MEt} {pos pp p2 : Pos} {K : PySem.W.Frag}
theorem m_isi {T : Str} {T' : String} (hT : T' = "int" ∨ T' = "bool" ∨ T' = "str" ∨ T' = "list" ∨ T' = "tuple") (hg : Gl X "isinstance") (hm : X.mg "isinstance" = none) (hv : bootBuiltins "isinstance" = some (.builtin "isinstance"))
    (hg2 : Gl X T) (hm2 : X.mg T = none) (hv2 : bootBuiltins T = some (.type T')) (ha : ME X io p c a ma) (hn : T ≠ "__name__" := by decide) (hd : (T == ("__debug__" : Str)) = false := by decide)
    (he : starEach [a, .Name T p2] X.env = (false, eval a X.env) :: starEach [.Name T p2] X.env := by rfl) (he2 : starEach [.Name T p2] X.env = (false, eval (.Name T p2) X.env) :: starEach [] X.env := by rfl) (hpl : (backTo pos (starEach [.Name T p2] X.env)).any (·.1) = false := by rfl) :
    ME X io p true (.Call (.Name "isinstance" pp) [a, .Name T p2] [] pos) (mIsi T' ma) := by
  obtain ⟨_, A, s⟩ := ha
  refine ⟨_, pe_callB (call_isiD rfl) hg hm hv (pa_cons A (pa_cons (pe_bltn (v := .ty T') hg2 hm2 hv2 rfl hn hd) pa_nil he2) he) (by decide) (by decide) he hpl, ?_⟩
  intro C H σ δ fp ex K' Q R h k
  refine s C H σ δ fp ex _ _ R h fun H' v r δ' fp' new r1 h1 => ?_
  exact ⟨v, T', _, _, rfl, r1.da R, h1.1, hT, k H' _ _ δ' fp' [] (.fz r1.base r1.stp (.bl _)) h1.2⟩
noncomputable abbrev MOt := DEnv → (Option Int → DEnv → Prop) → Prop
noncomputable def MO (X : Cx) (io : List Nat) (p : Bool) (e : Option Expr) (m : MOt) : Prop := ∃ t, PO X e t ∧ ∀ (C : MC X.K) (H : Hp) (σ : St) (δ : DEnv) (fp : Fp) (ex : Addr → Prop) (K : Option Int → DEnv → Prop) (Q : Option Int → Hp → Prop), Rel C io H σ δ fp ex → m δ K →
  (∀ H' b δ' fp', Rel C io H' σ δ' fp' ex → Stp p H δ fp H' δ' fp' → K b δ' → Q b H') → t σ H Q
noncomputable def mNoPart : MOt := fun δ K => K none δ
noncomputable def mPart (m : MEt) : MOt := fun δ K => m δ fun r δ' => asI r.data fun i => K (some i) δ'
theorem mo_none : MO X io true none mNoPart := ⟨_, po_none, fun C H σ δ fp ex K Q R h k => k H none δ fp R (.refl _ _ _ _) h⟩
theorem mo_some (h : ME X io p c e m) : MO X io p (some e) (mPart m) := by
  obtain ⟨_, A, s⟩ := h
  exact ⟨_, po_some A, fun C H σ δ fp ex K Q R h k => s C H σ δ fp ex _ _ R h fun H' v r δ' fp' new r1 h1 => by
    obtain ⟨i, rfl, h1⟩ := (r1.da R).intInv h1
    exact ⟨i, rfl, k H' _ δ' fp' r1.base r1.stp h1⟩⟩
noncomputable def cutD (ds : List PyData) (lo hi : Option Int) : List PyData := (ds.drop (HT.sIx ds.length 0 lo)).take (HT.sIx ds.length ds.length hi - HT.sIx ds.length 0 lo)
theorem Das.cut {H : Hp} {L : Addr → Prop} {xs : List V} {ds : List PyData} (h : Das G H L xs ds) (lo hi : Option Int) : Das G H L (cutV xs lo hi) (cutD ds lo hi) := by
  unfold cutV cutD
  rw [h.length]
  exact (h.drop _).take _
noncomputable def mSl (m : MEt) (ml mh : MOt) : MEt := fun δ K => m δ fun r δ1 => ml δ1 fun lo δ2 => mh δ2 fun hi δ3 => asL r.data fun ds => K (.nd ((cutD ds lo hi).map OT.fz)) δ3
theorem m_slL {lo hi : Option Expr} {ml mh : MOt} (ha : ME X io true c a ma) (hl : MO X io true lo ml) (hh : MO X io true hi mh) : ME X io true c (.Subscript a (.Slice lo hi none p2) pos) (mSl ma ml mh) := by
  obtain ⟨_, A, s⟩ := ha
  obtain ⟨_, B, sl⟩ := hl
  obtain ⟨_, D, sh⟩ := hh
  refine ⟨_, pe_slice (sl_listK rfl) A B D, ?_⟩
  intro C H σ δ fp ex K' Q R h k
  refine s C H σ δ fp ex _ _ R h fun H1 v r δ1 fp1 new r1 h1 => ?_
  refine sl C H1 σ δ1 fp1 ex _ _ r1.base h1 fun H2 l δ2 fp2 R2 S2 h2 => ?_
  refine sh C H2 σ δ2 fp2 ex _ _ R2 h2 fun H3 u δ3 fp3 R3 S3 h3 => ?_
  have s2 : Same H1 H2 := fun b o e => S2.keep b o e (.inl rfl)
  have s3 : Same H2 H3 := fun b o e => S3.keep b o e (.inl rfl)
  obtain ⟨e1, e2⟩ := r1.stp.env rfl
  obtain ⟨e3, e4⟩ := S2.env rfl
  obtain ⟨e5, e6⟩ := S3.env rfl
  have q := ((r1.da R).same s2).same s3
  obtain ⟨a', xs, ds, rfl, e, qs, h3⟩ := q.lstInv h3
  refine ⟨a', xs, rfl, e, fun p hp => ?_⟩
  have S := (r1.stp.trans S2).trans S3
  refine k _ _ _ δ3 fp3 [p] (RE.tree R R3 S (same_new hp _) (one_new hp) (one_nd p) (Own.list hp ((qs.cut l u).wide fun a l _ => ?_))) h3
  rw [e6, e4]
  exact l
theorem Owns.set {H : Hp} {L : Addr → Prop} {x : V} {r : OT} (hr : Own G H L x r []) : ∀ {xs : List V} {ts : List OT} {as : List Addr} (j : Nat), Owns G H L xs ts as → ∃ bs, Owns G H L (xs.set j x) (ts.set j r) bs ∧ bs.Sublist as
  | _, _, _, _, .nil => ⟨[], .nil, .refl _⟩
  | _, _, _, 0, .cons k t => ⟨_, .cons hr t, by simp⟩
  | _, _, _, j + 1, .cons (as := as) k t => by
    obtain ⟨bs, o, s⟩ := Owns.set hr j t
    exact ⟨as ++ bs, .cons k o, List.Sublist.append_left s as⟩
theorem Rel.top {C : MC G} {H : Hp} {σ : St} {δ : DEnv} {fp : Fp} {ex : Addr → Prop} {i : Nat} {ts ts' : List OT} {a' : Addr} {xs ys : List V} {bs bs' : List Addr} (R : Rel C io H σ δ fp ex) (hi : δ[i]? = some (some (.nd ts))) (hv : σ[i]? = some (some (.ref a')))
    (hf : fp i = a' :: bs) (hx : H a' = some (.lst xs)) (o : Owns G H (Lf C fp ex) ys ts' bs') (hs : bs'.Sublist bs) :
    Rel C io (upd H a' (.lst ys)) σ (δ.set i (some (.nd ts'))) (fpu fp i (a' :: bs')) ex ∧ Stp false H δ fp (upd H a' (.lst ys)) (δ.set i (some (.nd ts'))) (fpu fp i (a' :: bs')) := by
  have nd := R.nd i
  rw [hf] at nd
  have hn := List.nodup_cons.mp nd
  have hm : a' ∈ fp i := by rw [hf]; exact .head _
  have ne' : ∀ a, ¬ Foot fp a → a ≠ a' := fun a h z => h ⟨i, by rw [z]; exact hm⟩
  have kp : ∀ b o, H b = some o → b ≠ a' → upd H a' (.lst ys) b = some o := fun b o e n => by rw [upd_ne n]; exact e
  have sub : ∀ a, a ∈ a' :: bs' → a ∈ fp i := fun a m => by
    rw [hf]
    rcases List.mem_cons.mp m with rfl | m
    · exact .head _
    · exact .tail _ (hs.subset m)
  have o' : Owns G (upd H a' (.lst ys)) (Lf C (fpu fp i (a' :: bs')) (exu ex [])) ys ts' bs' := by
    have f0 : ∀ a, ¬ Foot fp a → ¬ Foot (fpu fp i (a' :: bs')) a := fun a h z => by
      rcases z.of_u with z | ⟨j, _, z⟩
      · exact h ⟨i, sub a z⟩
      · exact h ⟨j, z⟩
    have f1 : ∀ a zs, Lf C fp ex a → Rd H a (.lst zs) → Lf C (fpu fp i (a' :: bs')) (exu ex []) a ∧ Rd (upd H a' (.lst ys)) a (.lst zs) := fun a zs l q => by
      refine ⟨⟨f0 a l.1, fun z => l.2.1 (exu_nil.mp z), l.2.2⟩, ?_⟩
      rcases q with q | ⟨u, q⟩
      · exact .inl (kp a _ q (ne' a l.1))
      · exact .inr ⟨u, kp a _ q (ne' a l.1)⟩
    have f2 : ∀ a (zs : ImO), H a = some zs.ho → upd H a' (.lst ys) a = some zs.ho := fun a zs q => kp a _ q fun z => ImO.nl q (z ▸ hx)
    exact o.frame f1 f2 fun a m zs q => kp a _ q fun z => hn.1 (hs.subset (z ▸ m))
  have key := R.change (new := []) (as' := a' :: bs') (t' := .nd ts') (H' := upd H a' (.lst ys)) hi hv (fun b o e nb => kp b o e fun z => nb (by rw [z]; exact hm)) (fun b e => by
      by_cases q : b = a'
      · subst q; rw [upd_same] at e; cases e
      · rwa [upd_ne q] at e) (.nd upd_same o') (List.nodup_cons.mpr ⟨fun m => hn.1 (hs.subset m), hn.2.sublist hs⟩) (fun a m => .inl (sub a m)) (fun a m => nomatch m)
  exact ⟨key.1.drop fun a z => .inl z, key.2⟩
end
end L2
namespace L2
open PySem PySem.Spec PyProof.Rows
variable {G : PySem.W.Frag}
section
variable {X : Cx} {io : List Nat} {p c p' c' : Bool} {a b e : Expr} {ma m mi mj : MEt} {pos pp p2 apos cpos px : Pos} {K : PySem.W.Frag} {i : Nat} {x : Str}
theorem Rel.ownNd {C : MC G} {H : Hp} {σ : St} {δ : DEnv} {fp : Fp} {ex : Addr → Prop} {ts : List OT} (R : Rel C io H σ δ fp ex) (hi : δ[i]? = some (some (.nd ts))) :
    ∃ a' xs bs, σ[i]? = some (some (.ref a')) ∧ H a' = some (.lst xs) ∧ Owns G H (Lf C fp ex) xs ts bs ∧ fp i = a' :: bs := by
  obtain ⟨v, e, o⟩ := R.own i _ hi
  generalize hf : fp i = as at o
  cases o with
  | nd h r => exact ⟨_, _, _, e, h, r, rfl⟩
noncomputable def mAppend (i : Nat) (m : MEt) : MSt := fun D δ => match δ[i]? with
  | some (some (.nd _)) => m δ fun r δ1 => match δ1[i]? with
    | some (some (.nd ts)) => ts.length < sizeLine ∧ D.nx (δ1.set i (some (.nd (ts ++ [.fz r.data]))))
    | _ => False
  | _ => False
theorem ms_append (i : Nat) (he : ME X io p true e m) (hN : X.N[i]? = some x := by rfl) (hv : Vis X.env.scope x := by first | exact Or.inl rfl | exact Or.inr (Or.inl rfl) | exact Or.inr (Or.inr rfl)) (hd : (x == ("__debug__" : Str)) = false := by decide)
    (hcd : (x == ("__classdict__" : Str)) = false := by decide)
    (hbase : attributeBase (.Name x px) "append" X.env (eval (.Name x px) X.env) = eval (.Name x px) X.env := by rfl)
    (hfew : ((backTo cpos (starEach [e] X.env)).all (fun x => !x.1) && (backToKw cpos (keywordEach [] X.env)).all (fun x => x.1.isSome)
      && decide ([e].length + ([] : List Keyword).length + (if ([] : List Keyword).isEmpty then 0 else 1) < 30)) = true := by rfl)
    (hline : (apos.endLine == cpos.line) = true := by rfl) (hs : starEach [e] X.env = (false, eval e X.env) :: starEach [] X.env := by rfl) (hplain : (backTo cpos (starEach [] X.env)).any (·.1) = false := by rfl)
    (hsw : swapsWith (.Call (.Attribute (.Name x px) "append" apos) [e] [] cpos) none pos.line X.env = pure false := by rfl) :
    MS X io (.Expr (.Call (.Attribute (.Name x px) "append" apos) [e] [] cpos) pos) (mAppend i m) := by
  obtain ⟨_, A, s⟩ := he
  refine ⟨_, ps_expr (pe_bm PySem.F.plainAttrs_list PySem.F.slot_list_append PySem.F.type_list_append mt_append (pv i hN hv hd hcd) (pa_cons A pa_nil hs) hbase hfew hline hs hplain) hsw, fun C H σ δ fp ex D D' R h E => ?_⟩
  unfold mAppend at h
  split at h
  case h_2 => exact h.elim
  rename_i ts0 hi0
  obtain ⟨a', xs0, bs0, hv0, hx0, _, _⟩ := R.ownNd hi0
  refine ⟨_, hv0, .inl ⟨rfl, xs0, .inl (.inl hx0)⟩, ?_⟩
  refine s C H σ δ fp ex _ _ R h fun H1 v r δ1 fp1 new r1 h1 => ?_
  split at h1
  case h_2 => exact h1.elim
  rename_i ts1 hi1
  have R1 := r1.base
  obtain ⟨a1, xs1, bs1, hv1, hx1, o1, hf1⟩ := R1.ownNd hi1
  rw [hv0] at hv1
  cases hv1
  have q := (r1.da R).wide (L' := Lf C fp1 ex) fun a l _ => l rfl
  refine ⟨a', xs1, v, rfl, rfl, hx1, by rw [o1.length]; exact h1.1, ?_⟩
  have o2 := o1.snoc (.fz q)
  obtain ⟨R2, S2⟩ := R1.top hi1 hv0 hf1 hx1 o2 (by simp)
  exact E.nx _ σ _ _ R2 (r1.stp.kp.trans S2.kp) h1.2
noncomputable def mPut (i : Nat) (m mi : MEt) : MSt := fun D δ => m δ fun r δ1 => match δ1[i]? with
  | some (some (.nd ts)) => mi δ1 fun n _ => asI n.data fun k => match ixN ts.length k with
    | some j => D.nx (δ1.set i (some (.nd (ts.set j (.fz r.data)))))
    | none => False
  | _ => False
theorem SE.pureAfter {t : TE} {C : MC G} {H : Hp} {σ : St} {δ : DEnv} {fp : Fp} {ex : Addr → Prop} {K' : OT → DEnv → Prop} {Q : VK} (s : SE G io true c t m) (R : Rel C io H σ δ fp ex) (h : m δ K') (k : ∀ H' v r, Rel C io H' σ δ fp ex → Same H H' → Da G H' (fun a => c = true → Lf C fp ex a) v r.data → K' r δ → Q v H') : t σ H Q :=
  s C H σ δ fp ex _ _ R h fun H1 v r δ1 fp1 new r1 h1 => by
    obtain ⟨e1, e2⟩ := r1.stp.env rfl
    have q := r1.da R
    have R1 := r1.base
    rw [e1] at R1 h1
    rw [e2] at R1 q
    exact k H1 v r R1 (fun b o e => r1.stp.keep b o e (.inl rfl)) q h1
theorem ms_put (i : Nat) (he : ME X io p true e m) (hj : ME X io true c a mi) (hN : X.N[i]? = some x := by rfl) (hv : Vis X.env.scope x := by first | exact Or.inl rfl | exact Or.inr (Or.inl rfl) | exact Or.inr (Or.inr rfl)) (hd : (x == ("__debug__" : Str)) = false := by decide)
    (hcd : (x == ("__classdict__" : Str)) = false := by decide)
    (hpg : ∀ {to ti : TE}, PE X (.Name x px) to → PE X a ti → PG X (.Subscript (.Name x px) a pp) (gSub to ti rSetL) := by intro _ _ A B; exact pg_sub A B set_list)
    (hs : swapsWithSole [.Subscript (.Name x px) a pp] e pos.line X.env = pure false := by rfl) (hw : swappedStores [.Subscript (.Name x px) a pp] e X.env = pure none := by rfl)
    (h1 : (assignEach [.Subscript (.Name x px) a pp] X.env).map (·.2) = [assign (.Subscript (.Name x px) a pp) X.env] := by rfl) : MS X io (.Assign [.Subscript (.Name x px) a pp] e pos) (mPut i m mi) := by
  obtain ⟨_, A, s⟩ := he
  obtain ⟨_, B, sj⟩ := hj
  refine ⟨_, ps_asg A (hpg (pv i hN hv hd hcd) B) hs hw h1, fun C H σ δ fp ex D D' R h E => ?_⟩
  refine s C H σ δ fp ex _ _ R h fun H1 v r δ1 fp1 new r1 h1 => ?_
  have R1 := r1.base
  have q := (r1.da R).wide (L' := Lf C fp1 ex) fun a l _ => l rfl
  split at h1
  case h_2 => exact h1.elim
  rename_i ts hi
  obtain ⟨a', _, _, hv0, _⟩ := R1.ownNd hi
  refine ⟨_, hv0, ?_⟩
  refine sj.pureAfter R1 h1 fun H2 w n R2 s2 q2 h2 => ?_
  obtain ⟨k, rfl, h2⟩ := q2.intInv h2
  split at h2
  case h_2 => exact h2.elim
  rename_i j hj
  obtain ⟨a2, xs, bs, hv2, hx, o, hf⟩ := R2.ownNd hi
  rw [hv0] at hv2
  cases hv2
  obtain ⟨bs', o', hs'⟩ := Owns.set (.fz (q.same s2)) j o
  refine ⟨a', xs, k, j, rfl, rfl, hx, by rw [o.length]; exact hj, ?_⟩
  obtain ⟨R3, S3⟩ := R2.top hi hv0 hf hx o' hs'
  exact E.nx _ σ _ _ R3 (r1.stp.kp.trans (Kp.trans ⟨fun b o e _ => s2 _ _ e, fun z => (nomatch z), fun a z => .inl z, s2.al⟩ S3.kp)) h2
end
end L2
namespace L2
open PySem PySem.Spec PyProof.Rows
variable {G : PySem.W.Frag}
mutual
noncomputable def flatT : OT → Bool
  | .fz d => flatD d
  | .nd ts => flatTs ts
  | .tp ts => flatTs ts
noncomputable def flatTs : List OT → Bool
  | [] => true
  | t :: ts => flatT t && flatTs ts
end
theorem Own.flat2 {H : Hp} {L L' : Addr → Prop} : (∀ {v : V} {t : OT} {as : List Addr}, Own G H L v t as → flatT t = true → Own G H L' v t as) ∧ ∀ {v : List V} {t : List OT} {as : List Addr}, Owns G H L v t as → flatTs t = true → Owns G H L' v t as :=
  Own.both (fun q h => .fz (q.flat (by rw [flatT] at h; exact h))) (fun e r h => .nd e (r (by rw [flatT] at h; exact h))) (fun e r h => .tp e (r (by rw [flatT] at h; exact h))) (fun _ => .nil) (fun k r h => by rw [flatTs, Bool.and_eq_true] at h; exact .cons (k h.1) (r h.2))
theorem Own.flat {H : Hp} {L L' : Addr → Prop} {v : V} {t : OT} {as : List Addr} (h : Own G H L v t as) (f : flatT t = true) : Own G H L' v t as := Own.flat2.1 h f
section
variable {X : Cx} {io : List Nat} {p c : Bool} {e : Expr} {m : MEt}
noncomputable def mFlatT (m : MEt) : MEt := fun δ K => m δ fun r δ' => flatT r = true ∧ K r δ'
theorem m_flatT (h : ME X io p c e m) : ME X io p true e (mFlatT m) := by
  obtain ⟨_, A, s⟩ := h
  exact ⟨_, A, fun C H σ δ fp ex K Q R h k => s C H σ δ fp ex _ _ R h fun H' v r δ' fp' new r1 h1 => k H' v r δ' fp' new ⟨r1.rel, r1.stp, r1.own.flat h1.1, r1.nd, r1.fresh⟩ h1.2⟩
theorem Rel.freeze {C : MC G} {H : Hp} {σ : St} {δ : DEnv} {fp : Fp} {ex : Addr → Prop} {i : Nat} {t : OT} (R : Rel C io H σ δ fp ex) (hio : i ∉ io) (hi : δ[i]? = some (some t)) : Rel C io H σ (δ.set i (some (.fz t.data))) (fpu fp i []) ex := by
  have hil : i < δ.length := (List.getElem?_eq_some_iff.mp hi).1
  have sub : ∀ j a, a ∈ fpu fp i [] j → j ≠ i ∧ a ∈ fp j := fun j a m => by
    by_cases ej : j = i
    · subst ej; rw [fpu_same] at m; exact nomatch m
    · rw [fpu_ne ej] at m; exact ⟨ej, m⟩
  have lw : ∀ a, Lf C fp ex a → Lf C (fpu fp i []) ex a := fun a l => ⟨fun ⟨j, z⟩ => l.1 ⟨j, (sub j a z).2⟩, l.2.1, l.2.2⟩
  have ln : ∀ a ∈ fp i, Lf C (fpu fp i []) ex a := fun a m => ⟨fun ⟨j, z⟩ => (sub j a z).1 (R.dj j i a (sub j a z).2 m), R.dx i a m, .inr (by
    rcases R.new i a m with z | z
    · exact absurd z.1 hio
    · exact z)⟩
  refine ⟨by rw [List.length_set]; exact R.len, fun j t' e => ?_, fun j h => ?_, fun j => ?_, fun j k a h1 h2 => R.dj j k a (sub j a h1).2 (sub k a h2).2, fun j a h z => R.dx j a (sub j a h).2 z, R.xa, R.fr, R.al, fun j a h => R.new j a (sub j a h).2, R.io⟩
  · by_cases ej : j = i
    · subst ej
      rw [List.getElem?_set_self hil] at e
      cases e
      obtain ⟨v, e1, o⟩ := R.own j t hi
      exact ⟨v, e1, by rw [fpu_same]; exact .fz (o.da (fun a l _ => lw a l) ln)⟩
    · rw [List.getElem?_set_ne (Ne.symm ej)] at e
      obtain ⟨w, e1, o⟩ := R.own j t' e
      exact ⟨w, e1, by rw [fpu_ne ej]; exact o.wide fun a l _ => lw a l⟩
  · by_cases ej : j = i
    · subst ej; rw [fpu_same]
    · rw [fpu_ne ej]
      exact R.emp j fun t' z => h t' (by rw [List.getElem?_set_ne (Ne.symm ej)]; exact z)
  · by_cases ej : j = i
    · subst ej; rw [fpu_same]; exact .nil
    · rw [fpu_ne ej]; exact R.nd j
noncomputable def mFreeze (i : Nat) (u : MSt) : MSt := fun D δ => match δ[i]? with | some (some t) => u D (δ.set i (some (.fz t.data))) | _ => False
theorem ms_freeze {st : Stmt} {u : MSt} (i : Nat) (h : MS X io st u) (hio : i ∉ io := by decide) : MS X io st (mFreeze i u) := by
  obtain ⟨_, A, s⟩ := h
  exact ⟨_, A, fun C H σ δ fp ex D D' R h E => by
    unfold mFreeze at h
    split at h
    case h_2 => exact h.elim
    rename_i t hi
    refine s C H σ _ _ ex D D' (R.freeze hio hi) h (E.shift ⟨fun b o e _ => e, fun z => (nomatch z), fun a z => ?_, fun b e => e⟩)
    rcases z.of_u with z | ⟨j, _, z⟩
    · exact nomatch z
    · exact .inl ⟨j, z⟩⟩
end
end L2
namespace L2
open PySem PySem.Spec PyProof.Rows
variable {G : PySem.W.Frag}
noncomputable def SLaw (ds : List PyData) (k : OT → Prop) : Prop := ∃ ns : List Int, ds = [.list (ns.map PyData.int)] ∧ ns.length ≤ 63 ∧ k (.fz (.bool true))
theorem law_sp {H : Hp} {a : Addr} {ns : List Int} {E : XK} (hl : ns.length ≤ 63) (h : SqL G H a (ns.map V.int)) : spD G SLaw [.ref a] H (fun v _ => v = .bl true) E := by
  refine ⟨fun _ => True, [.list (ns.map PyData.int)], fun r => r = .fz (.bool true), .cons ?_ .nil, ⟨ns, rfl, hl, rfl⟩, fun r v H' new kr s o _ _ => ?_⟩
  · rcases h with h | h
    · exact .lst trivial h (.ints ns)
    · exact .scr h
  · subst kr
    cases o with
    | fz q => cases q; rfl
section
variable {P : Program} {w : World} {mg : Str → Option Value} {base : Heap} {CX : CXT} {n : Nat} {f : Addr} {fd : FuncData} {ps : List Str}
theorem Da.ints_sq {H : Hp} {L : Addr → Prop} {v : V} {ns : List Int} (h : Da G H L v (.list (ns.map PyData.int))) : ∃ a, v = .ref a ∧ SqL G H a (ns.map V.int) := by
  generalize e : PyData.list (ns.map PyData.int) = d at h
  cases h with
  | lst l e1 r =>
    cases e
    rw [r.int_inv] at e1
    exact ⟨_, rfl, .inl e1⟩
  | scr k =>
    rename_i a ms
    have e' := PyData.list.inj e
    have : ns = ms := (List.map_inj_right (fun _ _ h => by cases h; rfl)).mp e'
    subst this
    exact ⟨_, rfl, k.sq⟩
  | _ => cases e
end
end L2
namespace L2
open PySem PySem.Spec PyProof.Rows
@[simp] theorem datas_nil : OT.datas [] = [] := rfl
@[simp] theorem datas_cons (t : OT) (ts : List OT) : OT.datas (t :: ts) = t.data :: OT.datas ts := rfl
theorem atI_nn {α : Type} {xs : List α} {i : Int} (h0 : 0 ≤ i) : atI xs i = xs[i.toNat]? := by
  unfold atI ixN
  rw [if_pos h0]
  split
  · rfl
  · rename_i h
    symm
    exact List.getElem?_eq_none_iff.mpr (by omega)
@[simp] theorem atI_0 {α : Type} (x : α) (xs : List α) : atI (x :: xs) 0 = some x := by
  rw [atI_nn (by decide)]; rfl
@[simp] theorem atI_1 {α : Type} (x y : α) (xs : List α) : atI (x :: y :: xs) 1 = some y := by
  rw [atI_nn (by decide)]; rfl
@[simp] theorem atI_2 {α : Type} (x y z : α) (xs : List α) : atI (x :: y :: z :: xs) 2 = some z := by
  rw [atI_nn (by decide)]; rfl
@[simp] theorem ixD_list (ds : List PyData) (i : Int) : ixD (.list ds) (.int i) = atI ds i := rfl
@[simp] theorem ixD_tup (ds : List PyData) (i : Int) : ixD (.tuple ds) (.int i) = atI ds i := rfl
@[simp] theorem lenD_list (ds : List PyData) : lenD (.list ds) = some ds.length := rfl
@[simp] theorem lenD_tup (ds : List PyData) : lenD (.tuple ds) = some ds.length := rfl
noncomputable def rowD (r : List Rat) : PyData := .list (r.map frD)
noncomputable def tbD (T : List (List Rat)) : PyData := .list (T.map rowD)
noncomputable def rowT (r : List Rat) : OT := .nd (r.map fun q => .fz (frD q))
noncomputable def tbT (T : List (List Rat)) : OT := .nd (T.map rowT)
@[simp] theorem rowT_data (r : List Rat) : (rowT r).data = rowD r := by
  unfold rowT rowD
  rw [OT.data_nd, List.map_map]
  rfl
@[simp] theorem tbT_data (T : List (List Rat)) : (tbT T).data = tbD T := by
  unfold tbT tbD
  rw [OT.data_nd, List.map_map]
  exact congrArg PyData.list (List.map_congr_left fun r _ => rowT_data r)
noncomputable def dd (T : List (List Rat)) (i j : Nat) : Rat := (T.getD i []).getD j 0
@[simp] theorem lenD_tb (T : List (List Rat)) : lenD (tbD T) = some T.length := by unfold tbD lenD; simp
@[simp] theorem lenD_row (r : List Rat) : lenD (rowD r) = some r.length := by unfold rowD lenD; simp
@[simp] theorem flat_fr (q : Rat) : flatD (frD q) = true := by unfold frD fr; simp [flatD, flatDs]
end L2
namespace L2
open PySem PySem.Spec PyProof.Rows
end L2
namespace L2
open PySem PySem.Spec PyProof.Rows
end L2
namespace L2
open PySem PySem.Spec PyProof.Rows
end L2
namespace L2
open PySem PySem.Spec PyProof.Rows
end L2
namespace L2
open PySem PySem.Spec PyProof.Rows
end L2
namespace L2
open PySem PySem.Spec PyProof.Rows
end L2
namespace L2
open PySem PySem.Spec PyProof.Rows
end L2
namespace L2
open PySem PySem.Spec PyProof.Rows
end L2
namespace L2
open PySem PySem.Spec PyProof.Rows
end L2
namespace L2
open PySem PySem.Spec PyProof.Rows
structure Sh (n : Nat) (d : PyData) : Prop where
  lay : PyData.canLay0 d = true
  dep : PyData.depth d ≤ n
theorem Sh.shp {n : Nat} {d : PyData} (h : Sh n d) (hn : n ≤ 64 := by decide) : ShpD d := ⟨by
  show (PyData.canLay0 d && decide (PyData.depth d ≤ 64)) = true
  rw [h.lay, decide_eq_true (Nat.le_trans h.dep hn)]; rfl⟩
theorem sh_all {n : Nat} : ∀ {ds : List PyData}, (∀ d ∈ ds, Sh n d) → PyData.canLayAll0 ds = true ∧ PyData.depthAll ds ≤ n
  | [], _ => ⟨by rw [PyData.canLayAll0], by rw [PyData.depthAll]; exact Nat.zero_le _⟩
  | d :: ds, h => by
    obtain ⟨h1, h2⟩ := sh_all fun e m => h e (.tail _ m)
    have h3 := h d (.head _)
    refine ⟨by rw [PyData.canLayAll0, h3.lay, h1]; rfl, ?_⟩
    rw [PyData.depthAll]
    exact Nat.max_le.mpr ⟨h3.dep, h2⟩
theorem sh_list {n : Nat} {ds : List PyData} (h : ∀ d ∈ ds, Sh n d) : Sh (n + 1) (.list ds) :=
  ⟨by rw [PyData.canLay0]; exact (sh_all h).1, by rw [PyData.depth]; exact Nat.succ_le_succ (sh_all h).2⟩
theorem sh_int (i : Int) : Sh 0 (.int i) := ⟨rfl, Nat.le_of_eq rfl⟩
end L2
namespace L2
open PySem PySem.Spec PyProof.Rows
section
variable {X : Cx} {pins : List (Addr × Obj)} {σ : St} {H : Hp} {s : Shared}
end
end L2
namespace L2
open PySem PySem.Spec PyProof.Rows
variable {G : PySem.W.Frag}
section
variable {X : Cx} {io : List Nat} {p c : Bool} {e a b tg : Expr} {m : MEt} {mr : MAt}
noncomputable def zipD (as bs : List PyData) : List PyData := (as.zip bs).map fun x => .tuple [x.1, x.2]
@[simp] theorem zipD_length (as bs : List PyData) : (zipD as bs).length = min as.length bs.length := by simp [zipD]
end
end L2
namespace L2
open PySem PySem.Spec PyProof.Rows
variable {G : PySem.W.Frag}
section
variable {X : Cx} {io : List Nat} {c1 c2 c3 : Bool} {a b e : Expr} {ma mb mc : MEt} {pos : Pos} {f g : Int → Int → Bool}
noncomputable def mChain (f g : Int → Int → Bool) (ma mb mc : MEt) : MEt := fun δ K => ma δ fun x δ1 => mb δ1 fun y δ2 => asI x.data fun i => asI y.data fun j => if f i j = true then mc δ2 fun z δ3 => asI z.data fun k => K (.fz (.bool (g j k))) δ3 else K (.fz (.bool false)) δ2
theorem sChain {ta tb tc : TE} (ha : SE G io true c1 ta ma) (hb : SE G io true c2 tb mb) (hc : SE G io true c3 tc mc) : SE G io true true (tChain (rI0 fun i j => .bl (f i j)) (rI0 fun i j => .bl (g i j)) ta tb tc) (mChain f g ma mb mc) := by
  intro C H σ δ fp ex K Q R h k
  refine ha.pureAfter R h fun H1 x u R1 s1 q1 h1 => ?_
  refine hb.pureAfter R1 h1 fun H2 y v R2 s2 q2 h2 => ?_
  obtain ⟨i, rfl, h2⟩ := q1.intInv h2
  obtain ⟨j, rfl, h2⟩ := q2.intInv h2
  refine ⟨i, j, rfl, rfl, f i j, rfl, ?_⟩
  by_cases hf : f i j = true
  · rw [if_pos hf] at h2 ⊢
    refine hc.pureAfter R2 h2 fun H3 z w R3 s3 q3 h3 => ?_
    obtain ⟨l, rfl, h3⟩ := q3.intInv h3
    have s13 : Same H H3 := (s1.trans s2).trans s3
    exact ⟨j, l, rfl, rfl, k H3 _ _ δ fp [] (.fz R3 (.same s13 s13.al) (.bl _)) h3⟩
  · rw [if_neg hf] at h2 ⊢
    have s12 : Same H H2 := s1.trans s2
    exact k H2 _ _ δ fp [] (.fz R2 (.same s12 s12.al) (.bl _)) h2
theorem mt_chain {op op' : CmpOp} (ho : OpR X (compareOp op) (rI0 fun i j => .bl (f i j))) (ho' : OpR X (compareOp op') (rI0 fun i j => .bl (g i j))) (ha : ME X io true c1 a ma) (hb : ME X io true c2 b mb) (hc : ME X io true c3 e mc)
    (hm : lastMarks [op, op'] [b, e] = false := by with_unfolding_all rfl) : MT X io true (.Compare a [op, op'] [b, e] pos) (fun δ K => mChain f g ma mb mc δ (kB K)) := by
  obtain ⟨_, A, sa⟩ := ha
  obtain ⟨_, B, sb⟩ := hb
  obtain ⟨_, D, sc⟩ := hc
  exact ⟨_, pt_chain ho ho' A B D hm, sTest (sChain sa sb sc)⟩
end
theorem ints_items : ∀ {ns : List Int} {its : List Value}, Vals (ns.map V.int) its → ∃ xs : List (Int × Tok), its = xs.map (fun p => Value.int p.1 p.2) ∧ xs.map (·.1) = ns
  | [], _, .nil => ⟨[], rfl, rfl⟩
  | n :: ns, _, .cons r rs => by
    obtain ⟨t, e⟩ := (show ∃ t, _ = Value.int n t from r)
    obtain ⟨xs, h1, h2⟩ := ints_items rs
    exact ⟨(n, t) :: xs, by rw [e, h1]; rfl, by rw [List.map_cons, h2]⟩
section
variable {X : Cx} {io : List Nat} {p c : Bool} {a b e : Expr} {ma mb m : MEt} {pos pl : Pos}
end
end L2
namespace L2
open PySem PySem.Spec PyProof.Rows
variable {G : PySem.W.Frag}
section
variable {X : Cx}
noncomputable def rRange1 : List V → Hp → VK → Prop := fun vs H Q => ∃ j : Int, vs = [.int j] ∧ ∀ r, H r = none → Q (.ref r) (upd H r (.rng 0 j))
theorem call_rng1 : CallR X (.type "range") rRange1 := by
  intro pins s σ H vs us Q I r h
  obtain ⟨j, rfl, q⟩ := h
  obtain ⟨u, rfl, t, rfl⟩ := vals1 r
  refine call_range_1 ?_
  exact ⟨.ref s.heap.objs.size, _, I.laid (o := .rng 0 j) (fun b o e => Heap.get?_push_of_some _ e) (Nat.le_refl _) ⟨_, _, _, Heap.get?_push_size _ rfl⟩, rfl, q _ I.fresh⟩
noncomputable def rngV (lo : Int) (n : Nat) : List V := (List.range n).map fun (i : Nat) => V.int (lo + (i : Int))
noncomputable def rListRng : List V → Hp → VK → Prop := fun vs H Q => ∃ r lo hi, vs = [.ref r] ∧ H r = some (.rng lo hi) ∧ (-(2 ^ 62) ≤ lo ∧ lo < 2 ^ 62 ∧ -(2 ^ 62) ≤ hi ∧ hi < 2 ^ 62) ∧ (hi - lo).toNat ≤ sizeLine ∧ ∀ l, H l = none → Q (.ref l) (upd H l (.lst (rngV lo (hi - lo).toNat)))
theorem rngV_succ (lo : Int) (n : Nat) : rngV lo (n + 1) = .int lo :: rngV (lo + 1) n := by
  unfold rngV
  rw [List.range_succ_eq_map, List.map_cons, List.map_map]
  congr 1
  · simp
  · refine List.map_congr_left fun i _ => ?_
    show V.int (lo + ((i + 1 : Nat) : Int)) = V.int (lo + 1 + (i : Int))
    congr 1
    omega
theorem vals_rng : ∀ (acc : List Value) (lo : Int), (∀ (i : Nat) (v : Value), acc[i]? = some v → ∃ t, v = Value.int (lo + i) t) → Vals (rngV lo acc.length) acc
  | [], _, _ => .nil
  | v :: acc, lo, h => by
    rw [List.length_cons, rngV_succ]
    obtain ⟨t, e⟩ := h 0 v rfl
    refine .cons ⟨t, by rw [e]; simp⟩ (vals_rng acc (lo + 1) fun i w hw => ?_)
    obtain ⟨t', e'⟩ := h (i + 1) w (by simpa using hw)
    refine ⟨t', ?_⟩
    rw [e']
    congr 1
    omega
theorem call_list_rng (hc : X.calm = true) : CallR X (.type "list") rListRng := by
  intro pins s σ H vs us Q I r h
  obtain ⟨a, lo, hi, rfl, e, hb, hz, q⟩ := h
  obtain ⟨u, rfl, ru⟩ := vals1 r
  cases (show u = Value.ref a from ru)
  obtain ⟨t, u', v, e1⟩ := (show ObjOk X.prog X.w H s.heap a (.rng lo hi) from I.hok a _ e)
  refine call_list_range (n := (hi - lo).toNat) (I.ok.hd hc) e1 ?_ ?_ hz fun h' tk acc c' hk hS hacc => ?_
  · exact small_one hb.1 hb.2.1 hb.2.2.1 hb.2.2.2
  · rw [rangeSize_one]; split <;> omega
  · refine ⟨.ref s.heap.objs.size, _, I.laid (o := .lst (rngV lo (hi - lo).toNat)) (t' := tk) hk (Nat.le_refl _) ⟨?_, acc.toList, c', ?_, by simpa using hS⟩, rfl, q _ I.fresh⟩
    · simp [rngV]; omega
    · have := vals_rng acc.toList lo fun i v hv => by
        obtain ⟨t, e⟩ := hacc.2 i v (by simpa using hv)
        exact ⟨t, by rw [e, Int.mul_one]⟩
      rwa [show acc.toList.length = (hi - lo).toNat by simpa using hacc.1] at this
end
end L2
namespace L2
open PySem PySem.Spec PyProof.Rows PySem.SeqAt
variable {G : PySem.W.Frag}
theorem rngD_succ (lo : Int) (n : Nat) : rngD lo (n + 1) = .int lo :: rngD (lo + 1) n := by
  unfold rngD
  rw [List.range_succ_eq_map, List.map_cons, List.map_map]
  congr 1
  · simp
  · refine List.map_congr_left fun i _ => ?_
    show PyData.int (lo + ((i + 1 : Nat) : Int)) = PyData.int (lo + 1 + (i : Int))
    congr 1
    omega
theorem Das.rng {H : Hp} {L : Addr → Prop} : ∀ (n : Nat) (lo : Int), Das G H L (rngV lo n) (rngD lo n)
  | 0, _ => .nil
  | n + 1, lo => by
    rw [rngV_succ, rngD_succ]
    exact .cons (.int _) (Das.rng n _)
section
variable {X : Cx} {io : List Nat} {p c : Bool} {a b e : Expr} {ma mb m : MEt} {mr : MAt} {pos pos' pl pr : Pos}
noncomputable def mLR1 (mr : MAt) : MEt := fun δ K => mr δ fun rs δ' => n1 (fun d => asI d fun j => (-(2 ^ 62) ≤ j ∧ j < 2 ^ 62 ∧ j.toNat ≤ sizeLine) ∧ K (.nd ((rngD 0 j.toNat).map OT.fz)) δ') (OT.datas rs)
theorem lr_fin {C : MC G} {H H1 : Hp} {σ : St} {δ δ1 : DEnv} {fp fp1 : Fp} {ex : Addr → Prop} {r l : Addr} {lo hi : Int} {n : Nat} (R : Rel C io H σ δ fp ex) (R1 : Rel C io H1 σ δ1 fp1 ex) (S : Stp p H δ fp H1 δ1 fp1) (hr : H1 r = none)
    (hl : upd H1 r (.rng lo hi) l = none) : RE C io p true H σ δ fp ex (upd (upd H1 r (.rng lo hi)) l (.lst (rngV lo n))) (.ref l) (.nd ((rngD lo n).map OT.fz)) δ1 fp1 [l] := by
  have s1 := same_new hr (.rng lo hi)
  have S' : Stp p H δ fp (upd H1 r (.rng lo hi)) δ1 fp1 := by
    have := S.trans (p' := true) (Stp.same (p := true) (δ := δ1) (fp := fp1) s1 s1.al)
    rwa [Bool.and_true] at this
  exact RE.tree R (R1.mk0 s1) S' (same_new hl _) (one_new hl) (one_nd l) (Own.list hl (Das.rng n lo))
theorem m_lrange1 (hc : X.calm = true) (hgl : Gl X "list") (hml : X.mg "list" = none) (hvl : bootBuiltins "list" = some (.type "list")) (hg : Gl X "range") (hm : X.mg "range" = none) (hv : bootBuiltins "range" = some (.type "range")) (ha : MA X io p c [a] mr)
    (he : starEach [a] X.env = (false, eval a X.env) :: starEach [] X.env := by rfl) (hpl : (backTo pos' (starEach [] X.env)).any (·.1) = false := by rfl)
    (he' : starEach [.Call (.Name "range" pr) [a] [] pos'] X.env = (false, eval (.Call (.Name "range" pr) [a] [] pos') X.env) :: starEach [] X.env := by rfl) (hpl' : (backTo pos (starEach [] X.env)).any (·.1) = false := by rfl) :
    ME X io p true (.Call (.Name "list" pl) [.Call (.Name "range" pr) [a] [] pos'] [] pos) (mLR1 mr) := by
  obtain ⟨_, A, s⟩ := ha
  refine ⟨_, pe_callTy (call_list_rng hc) hgl hml hvl (pa_cons (pe_callTy call_rng1 hg hm hv A (he := he) (hpl := hpl)) pa_nil he') (he := he') (hpl := hpl'), fun C H σ δ fp ex K Q R h kk => s C H σ δ fp ex _ _ R h fun H1 vs rs δ1 fp1 new r1 h1 => ?_⟩
  obtain ⟨v, d, rfl, e2, q, h2⟩ := (r1.das R).one h1
  obtain ⟨j, rfl, h2⟩ := q.intInv h2
  refine ⟨j, rfl, fun r hr => ⟨r, 0, j, rfl, upd_same, ⟨by decide, by decide, h2.1.1, h2.1.2.1⟩, by rw [Int.sub_zero]; exact h2.1.2.2, fun l hl => ?_⟩⟩
  rw [Int.sub_zero]
  exact kk _ _ _ δ1 fp1 [l] (lr_fin R r1.base r1.stp hr hl) h2.2
end
section
variable {X : Cx} {io : List Nat} {p c : Bool} {a b e : Expr} {ma mb m : MEt} {mr : MAt} {pos pos' pl pr : Pos}
end
end L2
namespace L2
open PySem PySem.Spec PyProof.Rows
section
variable {X : Cx} {io : List Nat} {p p' c : Bool} {a b e : Expr} {ma mb m : MEt} {pos p2 : Pos}
end
end L2
namespace L2
open PySem PySem.Spec PyProof.Rows
theorem ObjOk.is {P : Program} {w : World} {H : Hp} {h : Heap} {a : Addr} {o : HO} (x : ObjOk P w H h a o) : ∃ u, h.get? a = some u := by
  cases o with
  | lst xs => obtain ⟨_, _, _, _, e⟩ := x; exact ⟨_, e⟩
  | tup xs => obtain ⟨_, _, _, ob, e, _⟩ := x; exact ⟨_, e⟩
  | dK kvs => obtain ⟨_, _, _, _, o, _, _, e, _⟩ := x; exact ⟨_, e⟩
  | dT kvs => obtain ⟨_, _, _, _, o, _, _, e, _⟩ := x; exact ⟨_, e⟩
  | set S n => obtain ⟨o, _, _, _, e, _⟩ := x; exact ⟨_, e⟩
  | ins C dx fs => obtain ⟨_, _, _, e, _⟩ := x; exact ⟨_, e⟩
  | own y => obtain ⟨_, e⟩ := x; exact ⟨_, e⟩
  | xd fs => obtain ⟨_, ⟨_, _, _, e, _⟩, _⟩ := x; exact ⟨_, e⟩
  | rng lo hi => obtain ⟨_, _, _, e⟩ := x; exact ⟨_, e⟩
  | frz ob u => obtain ⟨e, _⟩ := x; exact ⟨_, e⟩
  | tbl ps => exact ⟨_, (show h.get? a = some _ from x)⟩
  | met f y => exact ⟨_, (show h.get? a = some _ from x)⟩
  | ext φ => obtain ⟨_, ⟨_, e⟩, _⟩ := x; exact ⟨_, e⟩
structure Apart (X : Cx) (pins : List (Addr × Obj)) (H : Hp) (b : Addr) : Prop where
  fr : H b = none
  new : X.s₀.heap.get? b = none
  loc : b ≠ X.env.locals
  cel : ∀ x c, X.env.cells.lookup x = some c → c ≠ b
  pin : ∀ p ∈ X.pn ++ pins, p.1 ≠ b
section
variable {X : Cx} {pins : List (Addr × Obj)} {σ : St} {H H' : Hp} {s : Shared} {h' : Heap} {b a C : Addr}
theorem Inv.apart (I : Inv X pins σ H s) (hex : X.ex = []) (hb : s.heap.get? b = none) (hH : H' b = none) : Apart X pins H' b := by
  have ne : ∀ c o, s.heap.get? c = some o → c ≠ b := fun c o e z => by rw [z, hb] at e; cases e
  refine ⟨hH, ?_, ?_, fun x c e => ?_, fun p hp => ?_⟩
  · cases q : X.s₀.heap.get? b with
    | none => rfl
    | some o =>
      obtain ⟨o', e⟩ := I.base.there b o q (by rw [hex]; simp)
      rw [hb] at e; cases e
  · obtain ⟨m, ⟨o, _, _, ho, _⟩, _⟩ := I.loc
    exact (ne _ _ ho).symm
  · obtain ⟨v, o, ho, _⟩ := I.cell x c e
    exact ne _ _ ho
  · exact ne _ _ (I.pin p hp).1
theorem Inv.unheld (I : Inv X pins σ H s) (hb : s.heap.get? b = none) : H b = none := by
  cases q : H b with
  | none => rfl
  | some u =>
    obtain ⟨o, e⟩ := (I.hok b u q).is
    rw [hb] at e; cases e
theorem Inv.nofrs (I : Inv X pins σ H s) (hb : b ≠ X.env.locals) (hf : b ∉ X.fs) : b ∉ frs X.stack := fun z => (List.mem_cons.mp (I.stkSub b z)).elim hb hf
theorem Inv.flown {t' : Nat} (I : Inv X pins σ H s) {ch : List Addr} (hch : ∀ b ∈ ch, Apart X pins H b) (keep : ∀ b o, b ∉ frs X.stack → b ∉ ch → s.heap.get? b = some o → h'.get? b = some o)
    (slot : ∀ b o, b ∈ frs X.stack → s.heap.get? b = some o → ∃ sl, h'.get? b = some { o with slots := sl }) : Inv X pins σ H { s with heap := h', toks := t' } := by
  have any : ∀ b o, b ∉ ch → s.heap.get? b = some o → ∃ sl, h'.get? b = some { o with slots := sl } := fun b o n e => by
    by_cases hb : b ∈ frs X.stack
    · exact slot b o hb e
    · exact ⟨o.slots, keep b o hb n e⟩
  have neL : ∀ b o, X.s₀.heap.get? b = some o → b ≠ X.env.locals := fun b o e => Nat.ne_of_lt (Nat.lt_of_lt_of_le (Heap.lt_size e) I.ok.above)
  have neC : ∀ b o, X.s₀.heap.get? b = some o → b ∉ ch := fun b o e hb => by
    have := (hch b hb).new
    rw [this] at e; cases e
  have cellK : ∀ x c, X.env.cells.lookup x = some c → ∀ v, s.heap.IsCell c v → h'.IsCell c v := fun x c e v q91 => by
    obtain ⟨o, ho, hd⟩ := q91
    obtain ⟨sl, q⟩ := any c o (fun z => (hch c z).cel x c e rfl) ho
    exact ⟨_, q, hd⟩
  have nL : X.env.locals ∉ ch := fun z => (hch _ z).loc rfl
  refine ⟨I.ok, I.os, I.bare, ⟨fun b o e n hb hx => ?_, fun b o e n hb hx => ?_, I.base.free, fun b o e hx => ?_, I.base.tups, I.base.frzs, I.base.tbls⟩, ?_, fun x c e => ?_, I.free, I.freeC, fun p hp => ?_, fun b u e => ?_, I.len⟩
  · exact keep b o (I.nofrs (neL b o e) hb) (neC b o e) (I.base.keep b o e n hb hx)
  · obtain ⟨sl, e1⟩ := I.base.slot b o e n hb hx
    obtain ⟨sl', e2⟩ := any b _ (neC b o e) e1
    exact ⟨sl', e2⟩
  · obtain ⟨o', e1⟩ := I.base.there b o e hx
    obtain ⟨sl, e2⟩ := any b o' (neC b o e) e1
    exact ⟨_, e2⟩
  · obtain ⟨m, ⟨o, es, ep, ho, r⟩, hl⟩ := I.loc
    obtain ⟨sl, q⟩ := any _ o nL ho
    refine ⟨m, ⟨_, es, ep, q, r⟩, fun i x v e1 e2 e3 => ?_⟩
    obtain ⟨u, rv, l⟩ := hl i x v e1 e2 e3
    refine ⟨u, rv, ?_⟩
    rcases l with l | ⟨k, c, e, z⟩
    · exact .inl l
    · exact .inr ⟨k, c, e, cellK x c e _ z⟩
  · obtain ⟨v, z⟩ := I.cell x c e
    exact ⟨v, cellK x c e v z⟩
  · obtain ⟨e, n, ne, nf, d⟩ := I.pin p hp
    exact ⟨keep p.1 p.2 (I.nofrs ne nf) (fun z => (hch _ z).pin p hp rfl) e, n, ne, nf, d⟩
  · refine (I.hok b u e).stay (fun c v hc q => keep c v (fun z => ?_) (fun z => ?_) q) (fun _ q => q) fun _ _ q => q
    · have n := I.stkFree c z
      rcases hc with rfl | hc
      · rw [n] at e; cases e
      · rw [n] at hc; cases hc
    · have n := (hch c z).fr
      rcases hc with rfl | hc
      · rw [n] at e; cases e
      · rw [n] at hc; cases hc
noncomputable def Fl (ap : Addr → Prop) (C a : Addr) (fl : Value) (h : Heap) : Prop := ∃ a0 oe vs T oT ts, h.get? a = some oe ∧ (oe.cls = .ref C ∧ vs[0]? = some a0) ∧ oe.data = .fields vs ∧ vs[1]? = some (.ref T) ∧ T ≠ a ∧ h.get? T = some oT ∧ oT.data = .fields ts ∧ ts[3]? = some fl ∧ ap a ∧ ap T
noncomputable def Fl0 (ap : Addr → Prop) (C a : Addr) (h : Heap) : Prop := ∃ a0 oe vs, h.get? a = some oe ∧ (oe.cls = .ref C ∧ vs[0]? = some a0) ∧ oe.data = .fields vs ∧ vs[1]? = some .none ∧ ap a
noncomputable def FlA (ap : Addr → Prop) (fl : Value) (C a : Addr) (h : Heap) : Prop := Fl ap C a .none h ∨ Fl0 ap C a h ∨ Fl ap C a fl h
theorem Fl.imp {ap ap' : Addr → Prop} {fl : Value} {h : Heap} (f : ∀ b, ap b → ap' b) (x : Fl ap C a fl h) : Fl ap' C a fl h := by
  obtain ⟨a0, oe, vs, T, oT, ts, h1, h2, h3, h4, h5, h6, h7, h8, h9, h10⟩ := x
  exact ⟨a0, oe, vs, T, oT, ts, h1, h2, h3, h4, h5, h6, h7, h8, f _ h9, f _ h10⟩
theorem Fl.exO {ap : Addr → Prop} {fl : Value} {h : Heap} (x : Fl ap C a fl h) : ExO C a h := by
  obtain ⟨a0, oe, vs, T, oT, ts, h1, h2, h3, _⟩ := x
  exact ⟨oe, vs, h1, h2.1, h3⟩
section
variable {M : Model} {A : Around} {E : Value → Shared → Prop} {Q : Unit → Shared → Prop} {ch : List Addr}
theorem Inv.hidFrames (I : Inv X pins σ H s) : s.heap.FunFrames (PySem.W.hideAll s.heap (frs X.stack ++ ch)) X.stack :=
  PySem.W.funFrames_hide I.stack fun env he b hb => List.mem_append_left _ (List.mem_filterMap.mpr ⟨env, he, hb⟩)
theorem Inv.flyTo (I : Inv X pins σ H s) (hch : ∀ b ∈ ch, Apart X pins H b) (k1 : (PySem.W.hideAll s.heap (frs X.stack ++ ch)).StaysIn h') (k4 : ∀ b o, s.heap.get? b = some o → (∀ vs, o.data ≠ .fields vs) → ∃ sl, h'.get? b = some { o with slots := sl }) :
    Inv X pins σ H { s with heap := h' } :=
  I.flown (t' := s.toks) hch (fun b o hf hc e => k1 b o (PySem.W.hideAll_get _ e fun z => (List.mem_append.mp z).elim hf hc)) fun b o hb e => by
    obtain ⟨_, o', ho', hd⟩ := I.stack.mem hb
    rw [e] at ho'; cases ho'
    exact k4 b o e hd
theorem Inv.flyT (I : Inv X pins σ H s) (hex : X.ex = []) (hch : ∀ b ∈ ch, Apart X pins H b) {T : Addr} {oT : Obj} {ts : Array Value} (k4 : ∀ b o, s.heap.get? b = some o → (∀ vs, o.data ≠ .fields vs) → ∃ sl, h'.get? b = some { o with slots := sl })
    (hT : (PySem.W.hideAll s.heap (frs X.stack ++ ch)).get? T = none) (h1 : h'.get? T = some oT) (h2 : oT.data = .fields ts) : Apart X pins H T := by
  by_cases hc : T ∈ ch
  · exact hch T hc
  by_cases hf : T ∈ frs X.stack
  · obtain ⟨_, o', ho', hd⟩ := I.stack.mem hf
    obtain ⟨sl, e⟩ := k4 T o' ho' hd
    rw [h1] at e
    cases e
    exact absurd h2 (hd ts)
  have hn : s.heap.get? T = none := by
    cases q : s.heap.get? T with
    | none => rfl
    | some o =>
      have := PySem.W.hideAll_get (frs X.stack ++ ch) q fun z => (List.mem_append.mp z).elim hf hc
      rw [hT] at this; cases this
  exact I.apart hex hn (I.unheld hn)
theorem fly_note (I : Inv X pins σ H s) (hex : X.ex = []) (hst : X.stack = X.env :: X.outer) (hf : X.env.frame = some X.env.locals) (hA : A.frames = some X.stack) (F : FlA (Apart X pins H) (rawInt X.env.locals) C a s.heap)
    (h : ∀ s', Inv X pins σ H s' → Fl (Apart X pins H) C a (rawInt X.env.locals) s'.heap → Q () s') : wpAny M A (noteFrame (.ref a) X.env) Q E s := by
  rcases F with F | F | F
  · obtain ⟨a0, oe, vs, T, oT, ts, eA, cA, dA, v1, nT, eT, dT, t3, pA, pT⟩ := F
    have hch : ∀ b ∈ [a, T], Apart X pins H b := fun b hb => by
      rcases List.mem_cons.mp hb with rfl | hb
      · exact pA
      · rw [List.mem_singleton.mp hb]; exact pT
    have hen : (PySem.W.hideAll s.heap (frs X.stack ++ [a, T])).get? a = none := PySem.W.hideAll_none _ (List.mem_append_right _ (.head _))
    have hTn : (PySem.W.hideAll s.heap (frs X.stack ++ [a, T])).get? T = none := PySem.W.hideAll_none _ (List.mem_append_right _ (.tail _ (.head _)))
    have fr := I.hidFrames (ch := [a, T])
    refine wpAny_noteFrame_onW (base := PySem.W.hideAll s.heap (frs X.stack ++ [a, T])) (outer := X.outer) (hA.trans (by rw [hst])) (hst ▸ fr) hf ⟨oe, vs, T, oT, ts, eA, cA, dA, v1, hTn, nT, eT, dT, t3⟩ (fun b o e => PySem.W.of_hideAll _ e) hen fun h' hN => ?_
    obtain ⟨k1, _, ⟨oe', vs', T', oT', ts', e1, e2, e3, e4, e5, e6, e7, e8, e9⟩, k4⟩ := hN
    exact h _ (I.flyTo hch k1 k4) ⟨a0, oe', vs', T', oT', ts', e1, e2, e3, e4, e6, e7, e8, e9, pA, I.flyT hex hch k4 e5 e7 e8⟩
  · obtain ⟨a0, oe, vs, eA, cA, dA, v1, pA⟩ := F
    have hch : ∀ b ∈ [a], Apart X pins H b := fun b hb => by rw [List.mem_singleton.mp hb]; exact pA
    have hen : (PySem.W.hideAll s.heap (frs X.stack ++ [a])).get? a = none := PySem.W.hideAll_none _ (List.mem_append_right _ (.head _))
    have fr := I.hidFrames (ch := [a])
    unfold noteFrame
    simp only [hf]
    refine wpAny_bind (wpAny_field eA dA v1 ?_)
    rw [if_neg (by decide)]
    refine wpAny_entryW (base := PySem.W.hideAll s.heap (frs X.stack ++ [a])) (outer := X.outer) (hA.trans (by rw [hst])) (hst ▸ fr) hf eA (fun b o e => PySem.W.of_hideAll _ e) hen dA (Array.getElem?_eq_some_iff.mp v1).1 cA.2 fun h' hN => ?_
    obtain ⟨k1, _, ⟨oe', vs', T', oT', ts', e1, e2, e3, e4, e5, e6, e7, e8, e9⟩, k4⟩ := hN
    exact h _ (I.flyTo hch k1 k4) ⟨a0, oe', vs', T', oT', ts', e1, ⟨e2.1.trans cA.1, e2.2⟩, e3, e4, e6, e7, e8, e9, pA, I.flyT hex hch k4 e5 e7 e8⟩
  · have F' := F
    obtain ⟨a0, oe, vs, T, oT, ts, eA, cA, dA, v1, nT, eT, dT, t3, pA, pT⟩ := F
    unfold noteFrame
    simp only [hf]
    refine wpAny_bind (wpAny_field eA dA v1 ?_)
    rw [if_pos (by rfl)]
    refine wpAny_bind (wpAny_field eT dT t3 ?_)
    rw [if_pos (by simp)]
    exact wpAny_pure (h s I F')
theorem fly_land (I : Inv X pins σ H s) (hex : X.ex = []) {fl : Value} (F : Fl (Apart X pins H) C a fl s.heap)
    (h : ∀ s', Inv X pins σ H s' → Fl (Apart X pins H) C a .none s'.heap → Q () s') : wpAny M A (setFlight (.ref a) none) Q E s := by
  obtain ⟨a0, oe, vs, T, oT, ts, eA, cA, dA, v1, nT, eT, dT, t3, pA, pT⟩ := F
  have hch : ∀ b ∈ [a, T], Apart X pins H b := fun b hb => by
    rcases List.mem_cons.mp hb with rfl | hb
    · exact pA
    · rw [List.mem_singleton.mp hb]; exact pT
  have hTn : (PySem.W.hideAll s.heap (frs X.stack ++ [a, T])).get? T = none := PySem.W.hideAll_none _ (List.mem_append_right _ (.tail _ (.head _)))
  refine wpAny_setFlight_noneW (base := PySem.W.hideAll s.heap (frs X.stack ++ [a, T])) (l := X.stack) (fun b o e => PySem.W.of_hideAll _ e) I.hidFrames ⟨oe, vs, T, oT, ts, eA, cA, dA, v1, hTn, nT, eT, dT, t3⟩ fun h' k1 _ k3 k4' => ?_
  have k4 : ∀ b o, s.heap.get? b = some o → (∀ vs, o.data ≠ .fields vs) → ∃ sl, h'.get? b = some { o with slots := sl } := fun b o e n => ⟨o.slots, k4' b o e n⟩
  obtain ⟨oe', vs', T', oT', ts', e1, e2, e3, e4, e5, e6, e7, e8, e9⟩ := k3
  exact h _ (I.flyTo hch k1 k4) ⟨a0, oe', vs', T', oT', ts', e1, e2, e3, e4, e6, e7, e8, e9, pA, I.flyT hex hch k4 e5 e7 e8⟩
theorem fly_leave (I : Inv X pins σ H s) (hex : X.ex = []) (hst : X.stack = X.env :: X.outer) (hf : X.env.frame = some X.env.locals) (hA : A.frames = some X.stack) (F : FlA (Apart X pins H) (rawInt X.env.locals) C a s.heap)
    (h : ∀ s', Inv X pins σ H s' → Fl (Apart X pins H) C a .none s'.heap → Q () s') : wpAny M A (leaving X.env (.ref a)) Q E s := by
  unfold leaving
  exact wpAny_bind (fly_note I hex hst hf hA F fun s1 I1 F1 => fly_land I1 hex F1 h)
end
end
end L2
namespace L2
open PySem PySem.Spec PyProof.Rows
noncomputable def RsCls (K : PySem.W.Frag) (C : Addr) : Prop := PySem.W.excIn K C [.type "ValueError", .type "Exception", .type "BaseException", .type "object"] "ValueError.__new__" = true
theorem exc_obj {K : PySem.W.Frag} {h : Heap} {C : Addr} {bmB : List Value} {newId : String} (X : K.In h) (q : PySem.W.excIn K C bmB newId = true) :
    ∃ bm N nm qn bs hdct sn sub ab col dd k0 k1 k2 k3 k5 mN, h.get? C = some (excClassObj nm qn C N bs bm hdct sn sub ab col dd k0 k1 k2 k3 k5 newId) ∧ h.Ns N mN ∧ mN "__init__" = none ∧ OwnTail h bmB bm := by
  unfold PySem.W.excIn at q
  split at q
  case h_2 => cases q
  rename_i dd cd sl ho
  split at q
  case h_2 => cases q
  rename_i C' bm k0 k1 k2 k3 n k5 hm hs
  simp only [Bool.and_eq_true, beq_iff_eq, Bool.not_eq_true'] at q
  obtain ⟨⟨⟨⟨⟨rfl, rfl⟩, e1⟩, e2⟩, e3⟩, e4⟩ := q
  obtain ⟨nm, bs, mro, ns, qn, hd, sn, sub, ab, col, del⟩ := cd
  dsimp only at hm e1 e3 e4
  subst hm e1
  obtain ⟨l⟩ := sl
  have e5 : l = [k0, k1, k2, k3, some (.builtin n), k5] := hs
  subst e5
  exact ⟨bm, ns, nm, qn, bs, hd, sn, sub, ab, col, dd, k0, k1, k2, k3, k5, _, X _ _ ho, .of_isNs (PySem.W.isNs_of_in X e3), PySem.W.nsMap_none_of_in X e3 e4, PySem.W.tail_of_in X e2⟩
noncomputable abbrev MXt := DEnv → (Addr → DEnv → Prop) → Prop
noncomputable def XW (X : Cx) (C : MC X.K) (io : List Nat) (pins : List (Addr × Obj)) (ex : Addr → Prop) (H : Hp) (fp : Fp) (k : Addr → DEnv → Prop) (e : Value) (s' : Shared) : Prop :=
  ∃ a cl σ' H' δ' fp', e = .ref a ∧ Inv X pins σ' H' s' ∧ FlA (Apart X pins H') (rawInt X.env.locals) cl a s'.heap ∧ Rel C io H' σ' δ' fp' ex ∧ Kp H fp H' fp' ∧ k cl δ'
noncomputable def XE (X : Cx) (io : List Nat) (e : Expr) (m : MXt) : Prop := ∀ (C : MC X.K) (pins : List (Addr × Obj)) (s : Shared) (σ : St) (H : Hp) (δ : DEnv) (fp : Fp) (ex : Addr → Prop) (k : Addr → DEnv → Prop), Inv X pins σ H s → Rel C io H σ δ fp ex → m δ k →
  wpAny (model X.prog X.w) X.A (eval e X.env) (fun _ _ => False) (XW X C io pins ex H fp k) s
noncomputable def XS (X : Cx) (io : List Nat) (st : Stmt) (m : MXt) : Prop := ∀ (C : MC X.K) (pins : List (Addr × Obj)) (s : Shared) (σ : St) (H : Hp) (δ : DEnv) (fp : Fp) (ex : Addr → Prop) (k : Addr → DEnv → Prop), Inv X pins σ H s → Rel C io H σ δ fp ex → m δ k →
  wpAny (model X.prog X.w) X.A (exec st X.env) (fun _ _ => False) (XW X C io pins ex H fp k) s
noncomputable def XSs (X : Cx) (io : List Nat) (sts : List Stmt) (m : MXt) : Prop := ∀ (C : MC X.K) (pins : List (Addr × Obj)) (s : Shared) (σ : St) (H : Hp) (δ : DEnv) (fp : Fp) (ex : Addr → Prop) (k : Addr → DEnv → Prop), Inv X pins σ H s → Rel C io H σ δ fp ex → m δ k →
  wpAny (model X.prog X.w) X.A (execs sts X.env) (fun _ _ => False) (XW X C io pins ex H fp k) s
theorem XW.shift {X : Cx} {C : MC X.K} {io : List Nat} {pins : List (Addr × Obj)} {ex : Addr → Prop} {H H1 : Hp} {fp fp1 : Fp} {k : Addr → DEnv → Prop} {e : Value} {s : Shared} (q : Kp H fp H1 fp1) (h : XW X C io pins ex H1 fp1 k e s) : XW X C io pins ex H fp k e s := by
  obtain ⟨a, cl, σ', H', δ', fp', e, I, F, R, K, hk⟩ := h
  exact ⟨a, cl, σ', H', δ', fp', e, I, F, R, q.trans K, hk⟩
noncomputable def mxNever : MXt := fun _ _ => False
noncomputable def mxSeq (u : MSt) (w : MXt) : MXt := fun δ k => u { nx := fun δ' => w δ' k, rt := fun _ _ => False } δ
noncomputable def mxIf (t : MTt) (u w : MXt) : MXt := fun δ k => t δ fun b δ' => if b = true then u δ' k else w δ' k
noncomputable def mxRaise (cl : Addr) : MXt := fun δ k => k cl δ
section
variable {X : Cx} {io : List Nat} {p c : Bool} {e : Expr} {es : List Expr} {mr : MAt} {m : MXt} {pos : Pos} {st : Stmt} {sts a b : List Stmt} {u : MSt} {w v : MXt} {mt : MTt} {i : Nat} {x : Str}
theorem xss_never : XSs X io sts mxNever := fun _ _ _ _ _ _ _ _ _ _ _ h => h.elim
theorem xs_never : XS X io st mxNever := fun _ _ _ _ _ _ _ _ _ _ _ h => h.elim
theorem xss_here (h : XS X io st w) : XSs X io (st :: sts) w := fun C pins s σ H δ fp ex k I R hm => wpAny_execs_cons (thn (h C pins s σ H δ fp ex k I R hm) fun _ _ z => z.elim)
theorem xss_cons (h : MS X io st u) (g : XSs X io sts w) (hx : X.xe = fun _ _ => False := by rfl) : XSs X io (st :: sts) (mxSeq u w) := by
  obtain ⟨t, A, sS⟩ := h
  intro C pins s σ H δ fp ex k I R hm
  refine wpAny_execs_cons (wpAny_mono (A pins s σ H { nx := fun σ1 H1 => ∃ δ1 fp1, Rel C io H1 σ1 δ1 fp1 ex ∧ Kp H fp H1 fp1 ∧ w δ1 k, rt := fun _ _ => False } I
    (sS C H σ δ fp ex _ _ R hm ⟨fun H' σ' δ' fp' R' k' h' => ⟨δ', fp', R', k', h'⟩, fun _ _ _ _ _ _ z => z.elim, fun _ _ _ _ _ _ z => z.elim, fun _ _ _ _ _ _ _ _ _ _ _ z => z.elim⟩)) (fun f s1 q => ?_) fun e s1 q => by rw [hx] at q; exact q.elim)
  cases f with
  | next =>
    obtain ⟨σ1, H1, I1, δ1, fp1, R1, k1, h1⟩ := q
    exact wpAny_mono (g C pins s1 σ1 H1 δ1 fp1 ex k I1 R1 h1) (fun _ _ z => z) fun e s2 z => z.shift k1
  | ret v => obtain ⟨_, _, _, _, _, z⟩ := q; exact z.elim
  | brk => obtain ⟨_, _, _, z⟩ := q; exact z.elim
  | cont => obtain ⟨_, _, _, z⟩ := q; exact z.elim
theorem xs_if (ht : MT X io p e mt) (ha : XSs X io a w) (hb : XSs X io b v) (hx : X.xe = fun _ _ => False := by rfl) : XS X io (.If e a b pos) (mxIf mt w v) := by
  obtain ⟨t, A, sT⟩ := ht
  intro C pins s σ H δ fp ex k I R hm
  refine wpAny_If (wpAny_mono (A pins s σ H (fun r H1 => ∃ δ1 fp1, Rel C io H1 σ δ1 fp1 ex ∧ Kp H fp H1 fp1 ∧ if r = true then w δ1 k else v δ1 k) I
    (sT C H σ δ fp ex _ _ R hm fun H' r δ' fp' R' S' h' => ⟨δ', fp', R', S'.kp, h'⟩)) (fun r s1 q => ?_) fun e s1 q => by rw [hx] at q; exact q.elim)
  obtain ⟨H1, I1, δ1, fp1, R1, k1, h1⟩ := q
  cases r with
  | true => exact wpAny_mono (ha C pins s1 σ H1 δ1 fp1 ex k I1 R1 h1) (fun _ _ z => z) fun e s2 z => z.shift k1
  | false => exact wpAny_mono (hb C pins s1 σ H1 δ1 fp1 ex k I1 R1 h1) (fun _ _ z => z) fun e s2 z => z.shift k1
theorem xs_expr (he : XE X io e m) (hs : swapsWith e none pos.line X.env = pure false := by rfl) : XS X io (.Expr e pos) m := fun C pins s σ H δ fp ex k I R hm =>
  wpAny_Expr_any (thn (he C pins s σ H δ fp ex k I R hm) fun _ _ z => z.elim) I.quiet hs
theorem xs_set {pos' : Pos} (he : XE X io e m) (hs : swapsWith e (some (.Name x pos')) pos.line X.env = pure false := by rfl) : XS X io (.Assign [.Name x pos'] e pos) m := fun C pins s σ H δ fp ex k I R hm =>
  wpAny_Assign_Name (thn (he C pins s σ H δ fp ex k I R hm) fun _ _ z => z.elim) hs
theorem xs_raise {C : Addr} {x j : Str} {jk : Nat} {np cpos pos kp : Pos} (hex : X.ex = []) (hh : X.A.handled = none) (hg : Gl X x) (hm : X.mg x = some (.ref C)) (q : RsCls X.K C) (hd : (x == ("__debug__" : Str)) = false := by decide) :
    XS X io (.Raise (some (.Call (.Name x np) [.Constant (.str j) jk kp] [] cpos)) none pos) (mxRaise C) := by
  intro M pins s σ H δ fp ex k I R hk
  obtain ⟨tl, N, nm, qn, bs, hdct, sn, sub, ab, col, dd, k0, k1, k2, k3, k5, mN, hC, hN, hni, TL⟩ := exc_obj I.ok.mod.kin q
  refine wpAny_Raise_call_subT (C := C) (nm := nm) (q := qn) (N := N) (bs := bs) (bm := tl) (hdct := hdct) (sn := sn) (sub := sub) (ab := ab) (col := col) (dd := dd) (k0 := k0) (k1 := k1) (k2 := k2) (k3 := k3) (k5 := k5)
    PySem.F.excBase_ValueError (mN := mN) (TL.hasType PySem.F.excBase_ValueError.hasBase) hh rfl hni (ld_glob I hg hm ⟨rfl, ?_⟩ hd)
  refine Calls.evalArgs_plain ?_
  refine Calls.spliced_cons ?_
  show wpAny _ _ (eval (.Constant (.str j) jk kp) X.env) _ _ _
  refine Calls.Constant_str ?_
  refine Calls.spliced_nil ?_
  have I1 := I.tok (s.toks + 1)
  refine ⟨rfl, by show 1 ≤ sizeLine; decide, I1.bk _ _ hC, hN.keeps I1.bk, TL.keeps I1.bk, fun h' e hx => ?_⟩
  obtain ⟨t, e1, _, _⟩ := hx.there
  have I2 := I1.kept (t' := s.toks + 1) hx.keeps
  exact ⟨e, C, σ, H, δ, fp, rfl, I2, .inr (.inl ⟨_, _, _, e1, ⟨rfl, rfl⟩, rfl, rfl, I1.apart hex hx.new (I1.unheld hx.new)⟩), R, .refl _ _, hk⟩
end
end L2
namespace L2
open PySem PySem.Spec PyProof.Rows
noncomputable def CX1 (P : Program) (w : World) : CXT := fun outer H s E e s' => ∃ a C H', e = .ref a ∧ s'.os = s.os ∧ AllBare s'.gens ∧ Un (frs outer) [] H H' s.heap s'.heap ∧ HOk P w H' s'.heap ∧ Fl (fun b => H' b = none ∧ s.heap.get? b = none) C a .none s'.heap ∧ E (.ref C) none H'
noncomputable def spX (G : PySem.W.Frag) (S : List PyData → Addr → Prop) : Sp := fun vs H Q E => ∃ L ds cl, Das G H L vs ds ∧ S ds cl ∧ ∀ H', Same H H' → E (.ref cl) none H'
section
variable {P : Program} {w : World} {K : PySem.W.Frag} {mg : Str → Option Value} {base : Heap}
theorem Fun.okX {x qual : Str} {st : Stmt} {f : Addr} {fd : FuncData} {N ps : List Str} {n : Nat} {S : List PyData → Addr → Prop} (F : Fun K x qual st f fd) (Sc : FnScope N ps (defScope st)) (len : ∀ ds cl, S ds cl → ds.length = ps.length)
    (hbody : ∀ (cdv : Value) (A : Around) (outer : List Env) (s : Shared) (H : Hp) (E : XK), Room n (A.deeper (envOfC qual (defScope st) s.heap.objs.size f cdv)) →
      ∃ m, XSs (cxOf (CX1 P w) P w K mg base N qual (defScope st) f cdv A outer s H E).nox [] (defBody st) m ∧ ∀ ds cl, S ds cl → m (startD N ds) (fun c _ => c = cl)) : FnOk P w K mg base (CX1 P w) (n + 1) f fd ps (spX K S) := by
  obtain ⟨oc, od, kV, doc, pm, an, cdv, ct, osl, rfl, lk, hcd⟩ := F.ex
  refine fn_of lk hcd Sc (fun vs H Q E h => ?_) fun A outer s H vs Q E hr hsp => ?_
  · obtain ⟨L, ds, cl, h1, h2, _⟩ := h
    rw [h1.length]
    exact len ds cl h2
  obtain ⟨L, ds, cl, h1, h2, h3⟩ := hsp
  obtain ⟨m, hX, q⟩ := hbody cdv A outer s H E hr
  refine ⟨fun _ σ' H' => σ' = start N vs ∧ H' = H, fun pins s1 σ1 H1 D I e => ?_, rfl, rfl⟩
  obtain ⟨rfl, rfl⟩ := e
  refine wpAny_mono (hX ⟨H1, fun _ => False, L, start N vs⟩ pins s1 _ _ _ _ _ (fun c _ => c = cl) (I.wish _) (Rel.entry h1) (q ds cl h2)) (fun _ _ z => z.elim) fun e s' z => ?_
  obtain ⟨a, cl', σ', H', δ', fp', rfl, I', F', R', K', rfl⟩ := z
  exact fly_leave I' rfl rfl rfl I'.ok.frames F' fun s'' J FF => ⟨a, cl', H', rfl, J.os, J.bare, J.base, J.hok, FF.imp fun b ap => ⟨ap.fr, ap.new⟩, h3 H' fun b o e => R'.fr b o e id⟩
end
theorem Rel.grown {G : PySem.W.Frag} {C : MC G} {io : List Nat} {H H' : Hp} {σ : St} {δ : DEnv} {fp : Fp} {ex : Addr → Prop} (R : Rel C io H σ δ fp ex) (s : Same H H') : Rel C io H' σ δ fp ex :=
  (R.made (new := []) s (fun a m => nomatch m)).drop fun a z => .inl z
noncomputable def mxCall (S : List PyData → Addr → Prop) (mr : MAt) : MXt := fun δ k => mr δ fun rs δ1 => ∃ cl, S (OT.datas rs) cl ∧ k cl δ1
section
variable {X : Cx} {io : List Nat} {p c : Bool} {e : Expr} {es : List Expr} {mr : MAt} {pos pp : Pos} {k : Nat} {f : Addr} {fd : FuncData} {ps : List Str} {x : Str}
theorem xe_call {S} (F : FnOk X.prog X.w X.K X.mg X.base (CX1 X.prog X.w) k f fd ps (spX X.K S)) (hr : Room k X.A) (hg : Gl X x) (hm : X.mg x = some (.ref f)) (hk : PySem.W.keepIn X.K (.ref f) = true) (hb : Binds X.K fd ps [])
    (ha : MA X io p c (e :: es) mr) (hex : X.ex = [] := by rfl) (hx : X.xe = fun _ _ => False := by rfl) (hdb : (x == ("__debug__" : Str)) = false := by decide) (he : starEach (e :: es) X.env = (false, eval e X.env) :: starEach es X.env := by rfl) (hpl : (backTo pos (starEach es X.env)).any (·.1) = false := by rfl) :
    XE X io (.Call (.Name x pp) (e :: es) [] pos) (mxCall S mr) := by
  obtain ⟨t, A, sA⟩ := ha
  intro C pins s σ H δ fp ex kk I R hm'
  refine wpAny_Call_Name_kw (ld_glob I hg hm ?_ hdb)
  refine PySem.W.callWith_K (h₀ := X.base) I.ok.mod.kin hk (wpAny_mono (A pos pins s σ H (fun vs H1 => ∃ δ1 fp1 L ds cl, Rel C io H1 σ δ1 fp1 ex ∧ Kp H fp H1 fp1 ∧ Das X.K H1 L vs ds ∧ S ds cl ∧ kk cl δ1) I
    (sA C H σ δ fp ex _ _ R hm' fun H1 vs rs δ1 fp1 new r1 h1 => let ⟨cl, h2, h3⟩ := h1; ⟨δ1, fp1, _, _, cl, r1.base, r1.stp.kp, r1.das R, h2, h3⟩)) (fun us s1 ⟨vs, H1, I1, r, q⟩ => ⟨I1.kIn, ?_⟩) fun e s1 z => by rw [hx] at z; exact z.elim) he hpl
  obtain ⟨δ1, fp1, L, ds, cl, R1, k1, hd, hS, hkk⟩ := q
  have hsp : spX X.K S vs H1 (fun _ _ => False) (fun c _ H' => c = .ref cl ∧ Same H1 H') := ⟨L, ds, cl, hd, hS, fun H' s => ⟨rfl, s⟩⟩
  have hl : (us ++ []).length = ps.length := by rw [List.append_nil, ← r.length]; exact F.len _ _ _ _ hsp
  have hB := hb s1 us I1.kIn hl
  rw [List.append_nil] at hB
  refine wpAny_call (codeAny_mono (F.run X.A X.stack s1 H1 ⟨us, []⟩ us vs _ _ hr I1.env0 hB r hsp) fun res s' hq => ?_)
  cases res with
  | error e =>
    obtain ⟨a, C', H', rfl, ho, bare, un, hok, FF, eC, same⟩ := hq
    cases eC
    have J := I1.call' (ch := []) ho un hok bare fun b z => nomatch z
    exact ⟨a, cl, σ, H', δ1, fp1, rfl, J, .inl (FF.imp fun b z => I1.apart hex z.2 z.1), R1.grown same, k1.trans (Stp.same same same.al), hkk⟩
  | ok fl =>
    cases fl with
    | ret u => obtain ⟨_, _, _, _, _, _, _, z⟩ := hq; exact z.elim
    | next => exact False.elim hq
    | brk => exact False.elim hq
    | cont => exact False.elim hq
end
section
variable {X : Cx} {pins : List (Addr × Obj)} {σ : St} {H : Hp} {s : Shared} {a C : Addr}
theorem Inv.track (I : Inv X pins σ H s) (A : Apart X pins H a) {φ : Heap → Prop} (h1 : φ s.heap) (h2 : ∃ o, s.heap.get? a = some o) (h3 : ∀ g1 g2 : Heap, φ g1 → (∀ o, g1.get? a = some o → g2.get? a = some o) → φ g2) : Inv X pins σ (upd H a (.ext φ)) s := by
  have ne : ∀ b u, H b = some u → b ≠ a := fun b u e => ne_of_none e A.fr
  refine ⟨I.ok, I.os, I.bare, ⟨I.base.keep, I.base.slot, fun b o e n hx => ?_, I.base.there, fun b xs e => ?_, fun b o u e => ?_, fun b ps e => ?_⟩, I.loc, I.cell, ?_, fun x c e => ?_, fun p hp => ?_, fun b u e => ?_, I.len⟩
  · rw [upd_ne (fun z => by rw [z, A.new] at e; cases e)]; exact I.base.free b o e n hx
  · have := I.base.tups b xs e; rw [upd_ne (ne _ _ this)]; exact this
  · have := I.base.frzs b o u e; rw [upd_ne (ne _ _ this)]; exact this
  · obtain ⟨m, q⟩ := I.base.tbls b ps e; exact ⟨m, by rw [upd_ne (ne _ _ q)]; exact q⟩
  · rw [upd_ne (Ne.symm A.loc)]; exact I.free
  · rw [upd_ne (A.cel x c e)]; exact I.freeC x c e
  · obtain ⟨e, n, r⟩ := I.pin p hp
    exact ⟨e, by rw [upd_ne (A.pin p hp)]; exact n, r⟩
  · by_cases hb : b = a
    · subst hb; rw [upd_same] at e; cases e; exact ⟨h1, h2, h3⟩
    · rw [upd_ne hb] at e
      exact (I.hok b u e).stay (fun c v _ q => q) (fun c q => by rw [upd_ne (ne _ _ q)]; exact q) fun c xs q => by rw [upd_ne (ne _ _ q)]; exact q
noncomputable abbrev Cx.suite (X : Cx) (a : Addr) : Cx := { X with A := X.A.mark (some (.ref a)), calm := false }
theorem Inv.suite (I : Inv X pins σ H s) (a : Addr) : Inv (X.suite a) pins σ H s :=
  ⟨⟨I.ok.mod, I.ok.kind, I.ok.glob, I.ok.blt, I.ok.above, I.ok.inj, I.ok.has, I.ok.cab, fun z => (nomatch z), I.ok.frames, I.ok.stk, I.ok.exf, I.ok.bs, I.ok.bsz, I.ok.noex, I.ok.exfs, I.ok.funs, I.ok.frf⟩, I.os, I.bare, I.base, I.loc, I.cell, I.free, I.freeC, I.pin, I.hok, I.len⟩
theorem Inv.unsuite (ok : X.Ok) (I : Inv (X.suite a) pins σ H s) : Inv X pins σ H s := ⟨ok, I.os, I.bare, I.base, I.loc, I.cell, I.free, I.freeC, I.pin, I.hok, I.len⟩
theorem name_goes {M : Model} {A : Around} {E : Value → Shared → Prop} {i : Nat} {x : Str} {pos : Pos} {Q : Unit → Shared → Prop} (I : Inv X pins σ H s) (hN : X.N.Nodup) (hi : X.N[i]? = some x) (hk : X.env.scope.names.lookup x = some .local)
    (h : ∀ s', Inv X pins (σ.set i none) H s' → Q () s') : wpAny M A (do bindName X.env x .none; unbindBehindTheSuite X.env x pos) Q E s := by
  obtain ⟨m, hn, hl⟩ := id I.loc
  have hcls : (X.env.scope.kind == .class || (X.env.scope.kind == .module && X.env.locals != X.env.globals)) = false := by rw [I.ok.kind]; rfl
  refine wpAny_nameGoes_keeps hk hn hcls fun h' u hn' hs => ?_
  obtain ⟨oL, _, _, hoL, _⟩ := id hn
  have neL : ∀ b o, X.s₀.heap.get? b = some o → b ≠ X.env.locals := fun b o e => Nat.ne_of_lt (Nat.lt_of_lt_of_le (Heap.lt_size e) I.ok.above)
  refine h _ ⟨I.ok, I.os, I.bare, ⟨fun b o e n hb hx => ?_, fun b o e n hb hx => ?_, I.base.free, fun b o e hx => ?_, I.base.tups, I.base.frzs, I.base.tbls⟩, ⟨_, hn', fun j y v' e1 e2 e3 => ?_⟩, fun y c e => ?_, I.free, I.freeC, fun p hp => ?_, fun b ob e => ?_, by simpa using I.len⟩
  · exact (hs.2 b (neL b o e)).trans (I.base.keep b o e n hb hx)
  · obtain ⟨sl, e1⟩ := I.base.slot b o e n hb hx
    exact ⟨sl, (hs.2 b (neL b o e)).trans e1⟩
  · obtain ⟨o', e1⟩ := I.base.there b o e hx
    exact ⟨o', (hs.2 b (neL b o e)).trans e1⟩
  · by_cases hj : j = i
    · subst hj
      have : j < σ.length := by
        have z := (List.getElem?_eq_some_iff.mp e2).1
        simpa using z
      rw [List.getElem?_set_self this] at e2
      cases e2
    · rw [List.getElem?_set_ne (Ne.symm hj)] at e2
      obtain ⟨u', r', q⟩ := hl j y v' e1 e2 e3
      refine ⟨u', r', ?_⟩
      rcases q with ⟨k, e⟩ | ⟨k, c, e, z⟩
      · refine .inl ⟨k, ?_⟩
        have : y ≠ x := fun e => hj (nodup_ix hN e1 (e ▸ hi))
        simp [this, e]
      · exact .inr ⟨k, c, e, z.sameBut hs (I.cne y c e)⟩
  · obtain ⟨w', z⟩ := I.cell y c e
    exact ⟨w', z.sameBut hs (I.cne y c e)⟩
  · obtain ⟨e, n, ne, nf, d⟩ := I.pin p hp
    exact ⟨(hs.2 p.1 ne).trans e, n, ne, nf, d⟩
  · refine (I.hok b ob e).stay (fun c w' hc q => (hs.2 c ?_).trans q) (fun _ q => q) fun _ _ q => q
    rintro rfl
    rcases hc with rfl | hc
    · rw [I.free] at e; cases e
    · rw [I.free] at hc; cases hc
end
theorem Rel.forget {G : PySem.W.Frag} {C : MC G} {io : List Nat} {H : Hp} {σ : St} {δ : DEnv} {fp : Fp} {ex : Addr → Prop} {i : Nat} (R : Rel C io H σ δ fp ex) (hio : i ∉ io) : ∃ fp', Rel C io H (σ.set i none) (δ.set i none) fp' ex ∧ Kp H fp H fp' := by
  have get : ∀ j (t' : OT), (δ.set i none)[j]? = some (some t') → j ≠ i ∧ δ[j]? = some (some t') := fun j t' e => by
    by_cases ej : j = i
    · subst ej
      have hl : j < δ.length := by simpa using (List.getElem?_eq_some_iff.mp e).1
      rw [List.getElem?_set_self hl] at e; cases e
    · rw [List.getElem?_set_ne (Ne.symm ej)] at e; exact ⟨ej, e⟩
  have sub : ∀ j a, a ∈ fpu fp i [] j → j ≠ i ∧ a ∈ fp j := fun j a m => by
    by_cases ej : j = i
    · subst ej; rw [fpu_same] at m; exact nomatch m
    · rw [fpu_ne ej] at m; exact ⟨ej, m⟩
  have lw : ∀ a, Lf C fp ex a → Lf C (fpu fp i []) ex a := fun a l => ⟨fun ⟨j, z⟩ => l.1 ⟨j, (sub j a z).2⟩, l.2⟩
  refine ⟨fpu fp i [], ⟨by rw [List.length_set, List.length_set]; exact R.len, fun j t' e => ?_, fun j h => ?_, fun j => ?_, fun j k a h1 h2 => R.dj j k a (sub j a h1).2 (sub k a h2).2, fun j a h z => R.dx j a (sub j a h).2 z, R.xa, R.fr, R.al, fun j a h => R.new j a (sub j a h).2, fun j h => ?_⟩, fun b o e _ => e, fun z => (nomatch z), fun a ⟨j, z⟩ => .inl ⟨j, (sub j a z).2⟩, fun b e => e⟩
  · obtain ⟨ej, e⟩ := get j t' e
    obtain ⟨w, e1, o⟩ := R.own j t' e
    exact ⟨w, by rw [List.getElem?_set_ne (Ne.symm ej)]; exact e1, by rw [fpu_ne ej]; exact o.wide fun a l _ => lw a l⟩
  · by_cases ej : j = i
    · subst ej; rw [fpu_same]
    · rw [fpu_ne ej]
      exact R.emp j fun t' z => h t' (by rw [List.getElem?_set_ne (Ne.symm ej)]; exact z)
  · by_cases ej : j = i
    · subst ej; rw [fpu_same]; exact .nil
    · rw [fpu_ne ej]; exact R.nd j
  · rw [List.getElem?_set_ne (fun z => hio (by rw [z]; exact h))]; exact R.io j h
end L2
namespace L2
open PySem PySem.Spec PyProof.Rows
theorem exc_hits {K : PySem.W.Frag} {M : Model} {A : Around} {E : Value → Shared → Prop} {h : Heap} {g : Array GenState} {d : Drawn} {t : Nat} {os : OsState} {e C D : Addr} {oe : Obj} {Q : Bool → Shared → Prop} (X : K.In h) (q : RsCls K D)
    (hs : PySem.W.subIn K (.ref C) (.ref D) = some true) (he : h.get? e = some oe) (hc : oe.cls = .ref C) (hQ : Q true ⟨h, g, d, t, os⟩) : wpAny M A (excMatches (.ref e) (.ref D)) Q E ⟨h, g, d, t, os⟩ := by
  obtain ⟨bm, N, nm, qn, bs, hdct, sn, sub, ab, col, dd, k0, k1, k2, k3, k5, mN, hC, hN, hni, TL⟩ := exc_obj X q
  have L := PySem.W.looks_subIn (M := M) X hs
  have f := tc_notTuple
  have hB : (Value.ref D :: bm).contains (.type "BaseException") = true := by rw [List.contains_cons, TL.hasType PySem.F.excBase_ValueError.hasBase, Bool.or_true]
  unfold excMatches
  repeat (first | (with_reducible refine wpAny_loadPart_at he ?_; rw [hc]) | with_reducible refine wpAny_loadPart_at hC ?_ | (with_reducible refine wpAny_bind (PySem.W.Looks.at L ?_)) | (with_reducible refine PySem.W.Looks.at L ?_) | (with_reducible refine wpAny_isSubtype_exc hC ?_; rw [hB]) | wp_step)
  exact hQ
noncomputable def mTry (G : PySem.W.Frag) (Dc : Addr) (i : Nat) (u : MSt) (x : MXt) (h : MSt) : MSt := fun D δ => u D δ ∨ x δ fun cl δ' => ∃ xn, ClsAt G xn cl ∧ (ExCls G cl ∧ PySem.W.subIn G (.ref cl) (.ref Dc) = some true) ∧
  h { nx := fun δ2 => D.nx (δ2.set i none), rt := fun _ _ => False } (δ'.set i (some (.fz (exD xn))))
section
variable {X : Cx} {io : List Nat} {i : Nat} {n y : Str} {Dc : Addr} {b₀ : Stmt} {body suite : List Stmt} {pos hpos np : Pos} {u h : MSt} {x : MXt}
theorem ms_try (hN : X.N.Nodup) (hi : X.N[i]? = some n) (hk : X.env.scope.names.lookup n = some .local) (hg : Gl X y) (hm : X.mg y = some (.ref Dc)) (q : RsCls X.K Dc) (hb : MSs X io body u) (hbx : XSs X io body x) (hs : ∀ a, MSs (X.suite a) io (b₀ :: suite) h)
    (hio : i ∉ io := by decide) (hex : X.ex = [] := by rfl) (hst : X.stack = X.env :: X.outer := by rfl) (hf : X.env.frame = some X.env.locals := by rfl) (hx : X.xe = fun _ _ => False := by rfl) (hdb : (y == ("__debug__" : Str)) = false := by decide) :
    MS X io (.Try body [.ExceptHandler (some (.Name y np)) (some n) (b₀ :: suite) hpos] [] [] pos) (mTry X.K Dc i u x h) := by
  refine ⟨fun D' σ H => ∃ (C : MC X.K) (δ : DEnv) (fp : Fp) (ex : Addr → Prop) (D : EndsM), Rel C io H σ δ fp ex ∧ mTry X.K Dc i u x h D δ ∧ RelEnds C io ex H fp D D', ?_, fun C H σ δ fp ex D D' R hm E => ⟨C, δ, fp, ex, D, R, hm, E⟩⟩
  intro pins s σ H D' I hq
  obtain ⟨C, δ, fp, ex, D, R, hm', EE⟩ := hq
  rcases hm' with hu | hr
  · obtain ⟨tb, Ab, sb⟩ := hb
    refine wpAny_Try_except (wpAny_mono (Ab pins s σ H D' I (sb C H σ δ fp ex D D' R hu EE)) (fun f s1 z => ?_) fun e s1 z => by rw [hx] at z; exact z.elim)
    cases f with
    | next => exact wpAny_execs_nil z
    | ret v => exact z
    | brk => exact z
    | cont => exact z
  refine wpAny_Try_except (wpAny_mono (hbx C pins s σ H δ fp ex _ I R hr) (fun _ _ z => z.elim) fun e s1 z => ?_)
  obtain ⟨a, cl, σ1, H1, δ1, fp1, rfl, I1, F1, R1, K1, xn, hxn, ⟨Z, hsub⟩, hh⟩ := z
  refine fly_note I1 hex hst hf I1.ok.frames F1 fun s2 I2 F2 => fly_land I2 hex F2 fun s3 I3 F3 => ?_
  refine wpAny_handleBy_cons (codeAny_handlers_test (ld_glob (X := X.suite a) (I3.suite a) hg hm ?_ hdb)) (by intro z; cases z)
  obtain ⟨oe, vs, e1, e2, e3⟩ := F3.exO
  have KI := I3.kIn
  obtain ⟨g3, gg3, d3, t3, os3⟩ := s3
  refine exc_hits KI q hsub e1 e2 (codeAny_handlers_suite_as ?_)
  refine fly_land I3 hex F3 fun s4 I4 F4 => ?_
  have ap : Apart X pins H1 a := by obtain ⟨_, _, _, _, _, _, _, _, _, _, _, _, _, _, z, _⟩ := F4; exact z
  have x4 := F4.exO
  have I5 : Inv X pins σ1 (upd H1 a (.ext (ExO cl a))) s4 := I4.track ap x4 (let ⟨o, _, e, _⟩ := x4; ⟨o, e⟩) fun g1 g2 ⟨o, vs, z1, z2⟩ k => ⟨o, vs, k o z1, z2⟩
  have sm : Same H1 (upd H1 a (.ext (ExO cl a))) := same_new ap.fr _
  have R5 := R1.grown sm
  obtain ⟨fp2, R6, K6⟩ := RE.put (p := true) (RE.fz (c := true) R5 (Stp.refl true _ _ _) (.exc Z hxn upd_same)) R5 hio
  refine store_ok (X := X.suite a) (v := .ref a) (I5.suite a) hN hi (.inl hk) rfl (fun s5 I6 => ?_) (.inr hk)
  obtain ⟨ts, As, ss⟩ := hs a
  refine wpAny_mono (As pins s5 _ _ { nx := fun σ' H' => ∃ δ' fp', Rel C io H' σ' δ' fp' ex ∧ Kp (upd H1 a (.ext (ExO cl a))) fp2 H' fp' ∧ D.nx (δ'.set i none), rt := fun _ _ => False } I6
    (ss C _ _ _ fp2 ex _ _ R6 hh ⟨fun H' σ' δ' fp' R' k' h' => ⟨δ', fp', R', k', h'⟩, fun _ _ _ _ _ _ z => z.elim, fun _ _ _ _ _ _ z => z.elim, fun _ _ _ _ _ _ _ _ _ _ _ z => z.elim⟩)) (fun f s6 z => ?_) fun e s6 z => by
      have z' : X.xe e s6 := z
      rw [hx] at z'
      exact z'.elim
  cases f with
  | next =>
    obtain ⟨σ7, H7, I7, δ7, fp7, R7, K7, h7⟩ := z
    obtain ⟨fp8, R8, K8⟩ := R7.forget hio
    exact name_goes (I7.unsuite I4.ok) hN hi hk fun s8 I8 => ⟨_, _, I8, EE.nx H7 _ _ fp8 R8 (K1.trans ((Stp.same sm sm.al : Kp H1 fp1 _ fp1).trans (K6.trans (K7.trans K8)))) h7⟩
  | ret v => obtain ⟨_, _, _, _, _, w⟩ := z; exact w.elim
  | brk => obtain ⟨_, _, _, w⟩ := z; exact w.elim
  | cont => obtain ⟨_, _, _, w⟩ := z; exact w.elim
end
end L2
namespace L2
open PySem PySem.Spec PyProof.Rows
theorem asB_bl (b : Bool) (k : Bool → Prop) : asB (.bool b) k = k b := rfl
theorem Da.exInv {G : PySem.W.Frag} {H : Hp} {L : Addr → Prop} {v : V} {x : Str} (q : Da G H L v (exD x)) : ∃ a C, v = .ref a ∧ ExCls G C ∧ ClsAt G x C ∧ H a = some (.ext (ExO C a)) := by
  generalize e : exD x = d at q
  cases q with
  | exc Z n h =>
    have e' := e
    unfold exD at e'
    injection e' with e'
    injection e' with e' _
    injection e' with e' _
    injection e' with e'
    subst e'
    exact ⟨_, _, rfl, Z, n, h⟩
  | _ => unfold exD at e; cases e
inductive ClsV : V → Value → Prop where
  | own (D : Addr) : ClsV (.ref D) (.ref D)
  | ty (T : String) : ClsV (.ty T) (.type T)
theorem ClsV.val {v : V} {c u : Value} (h : ClsV v c) (r : RelV v u) : u = c := by
  cases h with
  | own D => exact r
  | ty T => exact r
inductive ClsVs : List V → List Value → Prop where
  | nil : ClsVs [] []
  | cons {v : V} {c : Value} {vs : List V} {cs : List Value} : ClsV v c → ClsVs vs cs → ClsVs (v :: vs) (c :: cs)
theorem ClsVs.vals {vs : List V} {cs us : List Value} (h : ClsVs vs cs) (k : Vals vs us) : us = cs := by
  induction h generalizing us with
  | nil => cases k; rfl
  | cons h t ih =>
    cases k with
    | cons r q => rw [h.val r, ih q]
theorem ClsVs.length : ∀ {vs : List V} {cs : List Value}, ClsVs vs cs → vs.length = cs.length
  | _, _, .nil => rfl
  | _, _, .cons _ t => by simp [t.length]
noncomputable def rIsiE (G : PySem.W.Frag) : List V → Hp → VK → Prop := fun xs H Q => ∃ a C v c b, xs = [.ref a, v] ∧ ExCls G C ∧ H a = some (.ext (ExO C a)) ∧ ClsV v c ∧ PySem.W.kitOne G (.ref C) c = some b ∧ Q (.bl b) H
noncomputable def rIsiET (G : PySem.W.Frag) : List V → Hp → VK → Prop := fun xs H Q => ∃ a C p vs cs b, xs = [.ref a, .ref p] ∧ ExCls G C ∧ H a = some (.ext (ExO C a)) ∧ H p = some (.tup vs) ∧ ClsVs vs cs ∧ PySem.W.kitAny G (.ref C) cs = some b ∧ Q (.bl b) H
theorem call_isiE {X : Cx} : CallR X (.builtin "isinstance") (rIsiE X.K) := by
  intro pins s σ H xs us Q I r h
  obtain ⟨a, C, v, c, b, rfl, Z, e, hc, hb, h⟩ := h
  obtain ⟨u, w', rfl, r1, r2⟩ := vals2 r
  cases (show u = Value.ref a from r1)
  rw [hc.val r2]
  obtain ⟨⟨o, vs, ho, hcl, _⟩, _, _⟩ := (show ObjOk X.prog X.w H s.heap a (.ext (ExO C a)) from I.hok a _ e)
  exact PySem.W.kia_one (kitx_exc Z) I.kIn ⟨o, ho, hcl⟩ hb (fun z => nomatch z) fun tk => ⟨.bl _, H, I.tok tk, rfl, h⟩
theorem call_isiET {X : Cx} : CallR X (.builtin "isinstance") (rIsiET X.K) := by
  intro pins s σ H xs us Q I r h
  obtain ⟨a, C, p, vs, cs, b, rfl, Z, e, ep, hc, hb, h⟩ := h
  obtain ⟨u, w', rfl, r1, r2⟩ := vals2 r
  cases (show u = Value.ref a from r1)
  cases (show w' = Value.ref p from r2)
  obtain ⟨⟨o, vs', ho, hcl, _⟩, _, _⟩ := (show ObjOk X.prog X.w H s.heap a (.ext (ExO C a)) from I.hok a _ e)
  obtain ⟨_, its, q, ⟨⟨oc, od, oda, osl⟩, hp, hpc, n, hpd⟩⟩ := (show ObjOk X.prog X.w H s.heap p (.tup vs) from I.hok p _ ep)
  dsimp only at hpc hpd
  subst hpc hpd
  rw [hc.vals q] at hp
  exact PySem.W.kia_tup (kitx_exc Z) I.kIn ⟨o, ho, hcl⟩ hp hb (fun z => nomatch z) fun tk => ⟨.bl _, H, I.tok tk, rfl, h⟩
noncomputable def mIsiX (G : PySem.W.Frag) (c : Value) (m : MEt) : MEt := fun δ K => m δ fun r δ' => ∃ x C b, r.data = exD x ∧ ClsAt G x C ∧ PySem.W.kitOne G (.ref C) c = some b ∧ K (.fz (.bool b)) δ'
noncomputable def mIsiXT (G : PySem.W.Frag) (cs : List Value) (m : MEt) : MEt := fun δ K => m δ fun r δ' => ∃ x C b, r.data = exD x ∧ ClsAt G x C ∧ PySem.W.kitAny G (.ref C) cs = some b ∧ K (.fz (.bool b)) δ'
section
variable {X : Cx} {io : List Nat} {p c : Bool} {a b : Expr} {ma : MEt} {pos pp p2 : Pos}
theorem m_isiX {v : V} {cv : Value} (hb : PE X b (tC v)) (hv : ClsV v cv) (hg : Gl X "isinstance") (hm : X.mg "isinstance" = none) (hbv : bootBuiltins "isinstance" = some (.builtin "isinstance")) (ha : ME X io p c a ma)
    (he : starEach [a, b] X.env = (false, eval a X.env) :: starEach [b] X.env := by rfl) (he2 : starEach [b] X.env = (false, eval b X.env) :: starEach [] X.env := by rfl) (hpl : (backTo pos (starEach [b] X.env)).any (·.1) = false := by rfl) :
    ME X io p true (.Call (.Name "isinstance" pp) [a, b] [] pos) (mIsiX X.K cv ma) := by
  obtain ⟨_, A, s⟩ := ha
  refine ⟨_, pe_callB call_isiE hg hm hbv (pa_cons A (pa_cons hb pa_nil he2) he) (by decide) (by decide) he hpl, ?_⟩
  intro C H σ δ fp ex K' Q R h k
  refine s C H σ δ fp ex _ _ R h fun H' v r δ' fp' new r1 h1 => ?_
  obtain ⟨xn, Cx, bb, e, hn, hk, h2⟩ := h1
  have q := r1.da R
  rw [e] at q
  obtain ⟨a, C0, rfl, Z, hn0, eh⟩ := q.exInv
  have eC : C0 = Cx := by
    have := hn0.symm.trans hn
    injection this with this; injection this with this; injection this
  subst eC
  exact ⟨a, C0, _, cv, bb, rfl, Z, eh, hv, hk, k H' _ _ δ' fp' [] (.fz r1.base r1.stp (.bl _)) h2⟩
theorem m_isiXT {bs : List Expr} {x1} {t : TA} {vs : List V} {cs : List Value} (hb : PA X bs t) (ht : ∀ σ H Q, Q vs H → t σ H Q) (hv : ClsVs vs cs) (hl : vs.length ≤ sizeLine) (hg : Gl X "isinstance") (hm : X.mg "isinstance" = none) (hbv : bootBuiltins "isinstance" = some (.builtin "isinstance")) (ha : ME X io p c a ma)
    (he : starEach [a, .Tuple bs x1 p2] X.env = (false, eval a X.env) :: starEach [.Tuple bs x1 p2] X.env := by rfl) (he2 : starEach [.Tuple bs x1 p2] X.env = (false, eval (.Tuple bs x1 p2) X.env) :: starEach [] X.env := by rfl) (hpl : (backTo pos (starEach [.Tuple bs x1 p2] X.env)).any (·.1) = false := by rfl) :
    ME X io p true (.Call (.Name "isinstance" pp) [a, .Tuple bs x1 p2] [] pos) (mIsiXT X.K cs ma) := by
  obtain ⟨_, A, s⟩ := ha
  refine ⟨_, pe_callB call_isiET hg hm hbv (pa_cons A (pa_cons (pe_tup hb) pa_nil he2) he) (by decide) (by decide) he hpl, ?_⟩
  intro C H σ δ fp ex K' Q R h k
  refine s C H σ δ fp ex _ _ R h fun H' v r δ' fp' new r1 h1 => ?_
  obtain ⟨xn, Cx, bb, e, hn, hk, h2⟩ := h1
  have q := r1.da R
  rw [e] at q
  obtain ⟨a, C0, rfl, Z, hn0, eh⟩ := q.exInv
  have eC : C0 = Cx := by
    have := hn0.symm.trans hn
    injection this with this; injection this with this; injection this
  subst eC
  refine ht _ _ _ ⟨hl, fun tp hp => ?_⟩
  have sm : Same H' (upd H' tp (.tup vs)) := same_new hp _
  refine ⟨a, C0, tp, vs, cs, bb, rfl, Z, sm _ _ eh, upd_same, hv, hk, k _ _ _ δ' fp' [] (.fz (r1.base.grown sm) ?_ (.bl _)) h2⟩
  have z := r1.stp.trans (p' := true) (Stp.same (p := true) (δ := δ') (fp := fp') sm sm.al)
  rwa [Bool.and_true] at z
end
end L2
namespace L2
open PySem PySem.Spec PyProof.Rows PySem.P
section
variable {prog : Program} {w : World} {A : Around} {E : Value → Shared → Prop} {s : Shared} {e t0 C : Addr} {o : Obj} {vs : Array Value} {K : PySem.W.Frag} {m : Str} {tk : Tok}
structure XText (s : Shared) (e C t0 : Addr) (m : Str) (tk : Tok) : Prop where
  ob : ∃ o vs, s.heap.get? e = some o ∧ o.cls = .ref C ∧ o.data = .fields vs ∧ vs[0]? = some (.ref t0)
  tx : s.heap.TupAt t0 [.str m tk]
end
section
variable {X : Cx} {C : Addr} {x j : Str} {jk : Nat} {np cpos pos kp p1 : Pos}
end
end L2
namespace L2
open PySem PySem.Spec PyProof.Rows
variable {G : PySem.W.Frag}
section
variable {X : Cx} {io : List Nat} {p c : Bool} {e : Expr} {m : MEt} {pos apos cpos px : Pos} {i : Nat} {x : Str}
end
end L2
namespace L2
open PySem PySem.Spec PyProof.Rows
variable {G : PySem.W.Frag}
section
variable {X : Cx} {io : List Nat} {e : Expr} {pos apos cpos px pt pl p2 : Pos} {i j : Nat} {x y : Str}
end
section
variable {X : Cx} {io : List Nat} {e : Expr} {i : Nat} {y : Str}
end
end L2
namespace L2
open PySem PySem.Spec PyProof.Rows
section
variable {X : Cx} {pins : List (Addr × Obj)} {σ : St} {H : Hp} {s : Shared} {M : Model} {A : Around} {E : Value → Shared → Prop} {Q : Unit → Shared → Prop} {C a L : Addr} {fl : Value}
theorem fly_stay (I : Inv X pins σ H s) (F : Fl (Apart X pins H) C a fl s.heap)
    (h : ∀ s', Inv X pins σ H s' → Fl (Apart X pins H) C a (rawInt L) s'.heap → Q () s') : wpAny M A (setFlight (.ref a) (some L)) Q E s := by
  obtain ⟨a0, oe, vs, T, oT, ts, eA, cA, dA, v1, nT, eT, dT, t3, pA, pT⟩ := F
  have hsz : 3 < ts.size := (Array.getElem?_eq_some_iff.mp t3).1
  unfold setFlight
  refine wpAny_bind (wpAny_field eA dA v1 ?_)
  rw [if_pos (show (Value.ref T != Value.none) = true from by simp)]
  refine wpAny_setField eT dT hsz ?_
  have hm : Obj.mapFields (fun z => z.setIfInBounds 3 ((some L : Option Addr).elim Value.none fun f => rawInt f)) oT = { oT with data := .fields (ts.setIfInBounds 3 (rawInt L)) } := by
    obtain ⟨c1, c2, c3, c4⟩ := oT
    have dT' : c3 = .fields ts := dT
    subst dT'
    rfl
  have self := Heap.get?_update_self (Obj.mapFields (fun z => z.setIfInBounds 3 ((some L : Option Addr).elim Value.none fun f => rawInt f))) eT (by rw [hm]; rfl)
  have other : ∀ b o, b ≠ T → s.heap.get? b = some o → (s.heap.update T (Obj.mapFields (fun z => z.setIfInBounds 3 ((some L : Option Addr).elim Value.none fun f => rawInt f)))).get? b = some o := fun b o n e => (Heap.get?_update_other _ _ (Ne.symm n)).trans e
  rw [hm] at self
  refine h _ (I.flown (t' := s.toks) (ch := [T]) (fun b hb => by rw [List.mem_singleton.mp hb]; exact pT) (fun b o hf hc e => other b o (fun z => hc (by simp [z])) e) fun b o hb e => ?_) ⟨a0, oe, vs, T, _, _, other a oe (Ne.symm nT) eA, cA, dA, v1, nT, self, rfl, ?_, pA, pT⟩
  · obtain ⟨_, o', ho', hd⟩ := I.stack.mem hb
    have hbT : b ≠ T := fun z => by
      subst z
      rw [eT] at ho'
      cases ho'
      exact hd ts dT
    exact ⟨o.slots, other b o hbT e⟩
  · simp [hsz]
theorem xw_passes {Cm : MC X.K} {io : List Nat} {ex : Addr → Prop} {fp : Fp} {k : Addr → DEnv → Prop} (hex : X.ex = [] := by rfl) (hst : X.stack = X.env :: X.outer := by rfl) (hf : X.env.frame = some X.env.locals := by rfl) :
    PassesOwn (model X.prog X.w) X.A X.env (XW X Cm io pins ex H fp k) := by
  rintro e s' ⟨a, cl, σ', H', δ', fp', rfl, I, F, R, Kp, hk⟩
  refine fly_note I hex hst hf I.ok.frames F fun s1 I1 F1 => ?_
  have F1' := F1
  obtain ⟨a0, oe, vs, T, oT, ts, eA, cA, dA, v1, nT, eT, dT, t3, pA, pT⟩ := F1
  show wpAny _ _ _ _ _ s1
  refine wpAny_bind (wpAny_field eA dA v1 ?_)
  rw [if_neg (by simp)]
  rw [hf]
  exact fly_stay I1 F1' fun s2 I2 F2 => ⟨a, cl, σ', H', δ', fp', rfl, I2, .inr (.inr F2), R, Kp, hk⟩
end
end L2
namespace L2
open PySem PySem.Spec PyProof.Rows
noncomputable def mxForB (ds : List PyData) (g : MGt) (u : MSt) (x : MXt) (δ : DEnv) (k : Addr → DEnv → Prop) : Prop := ∃ (I : Nat → DEnv → Prop) (r : Nat), r < ds.length ∧ I 0 δ ∧
  (∀ i d δ', i < r → ds[i]? = some d → I i δ' → g d δ' fun δ2 => u { nx := I (i + 1), ct := I (i + 1), rt := fun _ _ => False } δ2) ∧ ∀ d δ', ds[r]? = some d → I r δ' → g d δ' fun δ2 => x δ2 k
noncomputable def mxFor (mi : MIt) (g : MGt) (u : MSt) (x : MXt) : MXt := fun δ k => mi δ fun ds δ1 => mxForB ds g u x δ1 k
section
variable {X : Cx} {io : List Nat} {p : Bool} {tg iter : Expr} {body : List Stmt} {mi : MIt} {g : MGt} {u : MSt} {x : MXt} {pos : Pos}
theorem XW.unpin {C : MC X.K} {pins more : List (Addr × Obj)} {ex : Addr → Prop} {H : Hp} {fp : Fp} {k : Addr → DEnv → Prop} {e : Value} {s : Shared} (h : XW X C io (pins ++ more) ex H fp k e s) : XW X C io pins ex H fp k e s := by
  obtain ⟨a, cl, σ', H', δ', fp', rfl, I, F, R, K, hk⟩ := h
  have ap : ∀ b, Apart X (pins ++ more) H' b → Apart X pins H' b := fun b z => ⟨z.fr, z.new, z.loc, z.cel, fun q hq => z.pin q ((List.mem_append.mp hq).elim (fun m => List.mem_append_left _ m) fun m => List.mem_append_right _ (List.mem_append_left _ m))⟩
  refine ⟨a, cl, σ', H', δ', fp', rfl, I.unpinned, ?_, R, K, hk⟩
  rcases F with F | F | F
  · exact .inl (F.imp ap)
  · obtain ⟨a0, oe, vs, eA, cA, dA, v1, pA⟩ := F
    exact .inr (.inl ⟨a0, oe, vs, eA, cA, dA, v1, ap _ pA⟩)
  · exact .inr (.inr (F.imp ap))
theorem xs_for (hc : X.calm = true) (hi : MI X io p true tg iter mi) (hg : MG X io true tg g) (hb : MSs X io body u) (hbx : XSs X io body x) (hx : X.xe = fun _ _ => False := by rfl)
    (hex : X.ex = [] := by rfl) (hst : X.stack = X.env :: X.outer := by rfl) (hf : X.env.frame = some X.env.locals := by rfl) (hs : ∀ x, foldedSetIterable iter X.env x = pure x := by intro _; rfl) : XS X io (.For tg iter body [] pos) (mxFor mi g u x) := by
  obtain ⟨_, A, sI⟩ := hi
  obtain ⟨gt, G, sg⟩ := hg
  obtain ⟨tb, B, sb⟩ := hb
  intro C pins s σ H δ fp ex k I R hm
  have hp : PassesOwn (model X.prog X.w) X.A X.env (XW X C io pins ex H fp k) := xw_passes hex hst hf
  have no : ∀ (E : Value → Shared → Prop) (e : Value) (s' : Shared), X.xe e s' → E e s' := fun E e s' z => by rw [hx] at z; exact z.elim
  refine wpAny_For (wpAny_mono (A pins s σ H (fun J H1 => ∃ W : Nat → Nat → St → Hp → Prop, (∃ m, W 0 m σ H1) ∧ ∀ i m σ' H', W i m σ' H' → J.go i H' ∧ ∃ N : St → Hp → Prop, (∀ σ2 H2, N σ2 H2 → ∃ m', m' < m ∧ W (i + 1) m' σ2 H2) ∧
      ∀ x' H3, J.yld i H' x' H3 → gt x' σ' H3 fun σ4 H4 => tb { nx := N, ct := N, bk := fun _ _ => False, rt := fun _ _ => False } σ4 H4 ∨ ∃ δ4 fp4, Rel C io H4 σ4 δ4 fp4 ex ∧ Kp H fp H4 fp4 ∧ x δ4 k) I (sI C H σ δ fp ex _ _ R hm fun J H1 ds δ1 fp1 R1 S1 it h1 => ?_)) (fun v s1 h1 => wpAny_mono h1 (fun itv s2 h2 => ?_) (no _)) (no _)) hs
  · obtain ⟨I0, r, hr, h0, turn, last⟩ := h1
    refine ⟨fun i n σ' H' => n = r - i ∧ i ≤ r ∧ ∃ δ' fp', Rel C io H' σ' δ' fp' ex ∧ Kp H1 fp1 H' fp' ∧ I0 i δ', ⟨r, rfl, Nat.zero_le _, δ1, fp1, R1, .refl _ _, h0⟩, ?_⟩
    rintro i n σ2 H2 ⟨rfl, hle, δ2, fp2, R2, k2, i2⟩
    have itk := it H2 (fun b o e q => k2.keep b o e (.inr (q.resolve_left (by decide)))) i
    have hlt : i < ds.length := by omega
    have hd : ds[i]? = some ds[i] := List.getElem?_eq_getElem hlt
    obtain ⟨go, yl⟩ := itk.1 _ hd
    refine ⟨go, fun σ' H' => i < r ∧ ∃ δ' fp', Rel C io H' σ' δ' fp' ex ∧ Kp H1 fp1 H' fp' ∧ I0 (i + 1) δ', fun σ' H' ⟨hir, δ', fp', R', k', i'⟩ => ⟨r - (i + 1), by omega, rfl, hir, δ', fp', R', k', i'⟩, fun x' H3 hy => ?_⟩
    obtain ⟨s3, q3⟩ := yl x' H3 hy
    have R3 := R2.mk0 s3
    have k3 : Kp H1 fp1 H3 fp2 := k2.trans ⟨fun b o e _ => s3 _ _ e, fun z => (nomatch z), fun a z => .inl z, s3.al⟩
    by_cases hir : i < r
    · refine sg C H3 σ2 δ2 fp2 ex x' _ _ _ R3 (IterOk.at (H' := H2) (J := J) (ds := ds) k2.grow q3) (turn i _ δ2 hir hd i2) fun σ4 δ4 fp4 R4 k4 h4 => ?_
      have k5 := k3.trans k4
      exact .inl (sb C H3 σ4 δ4 fp4 ex _ _ R4 h4 ⟨fun H' σ' δ' fp' R' k' n' => ⟨hir, δ', fp', R', k5.trans k', n'⟩, fun _ _ _ _ _ _ z => z.elim, fun H' σ' δ' fp' R' k' n' => ⟨hir, δ', fp', R', k5.trans k', n'⟩, fun _ _ _ _ _ _ _ _ _ _ _ z => z.elim⟩)
    · have e : i = r := by omega
      subst e
      refine sg C H3 σ2 δ2 fp2 ex x' _ _ _ R3 (IterOk.at (H' := H2) (J := J) (ds := ds) k2.grow q3) (last _ δ2 hd i2) fun σ4 δ4 fp4 R4 k4 h4 => ?_
      exact .inr ⟨δ4, fp4, R4, S1.kp.trans (k3.trans k4), h4⟩
  · obtain ⟨it, fpi, tn, J, H2, e, I2, T, st2, f2, W, ⟨m0, w0⟩, turn⟩ := h2
    subst e
    have stat : ∀ {H' : Hp}, (∀ b ∈ fpi, H' b = none) → ∀ b ∈ fpi, FpOk X pins H' b := fun hn b hb => ⟨hn b hb, (f2 b hb).2⟩
    refine codeAny_forLoop_any (fun n s' => ∃ i σ' H', Inv X pins σ' H' s' ∧ tn i s'.heap ∧ (∀ b ∈ fpi, H' b = none) ∧ W i n σ' H') ?_ m0 ⟨0, σ, H2, I2, st2, fun b hb => (f2 b hb).1, w0⟩
    rintro n s3 ⟨i, σ3, H3, I3, st3, fr3, w3⟩
    obtain ⟨go, N, hN, step⟩ := turn i n σ3 H3 w3
    refine wpAny_passesOwn hp (wpAny_mono (T.item X rfl rfl rfl hc i pins s3 σ3 H3 X.xe I3 (stat fr3) st3 go) (fun r s4 qz9 => ?_) (no _))
    obtain ⟨u', hr, h4⟩ := qz9
    subst hr
    refine wpAny_passesOwn hp (wpAny_mono h4 (fun _ s5 qz9 => ?_) (no _))
    obtain ⟨x5, H5, I5, r5, y5, st5, fr5⟩ := qz9
    have I5' := I5.pinned (stat fr5) (T.obj _ _ st5)
    refine wpAny_passesOwn hp (wpAny_mono (G _ s5 σ3 H5 x5 u' _ I5' r5 (step x5 H5 y5)) (fun _ s6 qz9 => ?_) (no _))
    obtain ⟨σ6, H6, I6, q6⟩ := qz9
    rcases q6 with q6 | ⟨δ4, fp4, R4, K4, h4⟩
    · refine wpAny_passesOwn hp (wpAny_mono (B _ s6 σ6 H6 _ I6 q6) (fun f s7 q7 => ?_) (no _))
      have again : ∀ {σ7 : St} {H7 : Hp}, Inv X (pins ++ pinsAt fpi s5.heap) σ7 H7 s7 → N σ7 H7 → ∃ m, m < n ∧ ∃ i σ' H', Inv X pins σ' H' s7 ∧ tn i s7.heap ∧ (∀ b ∈ fpi, H' b = none) ∧ W i m σ' H' := fun {σ7 H7} I7 n7 => by
        obtain ⟨m', hm, w7⟩ := hN σ7 H7 n7
        refine ⟨m', hm, i + 1, σ7, H7, I7.unpinned, T.keep _ _ _ st5 fun b hb o e => (I7.pin (b, o) (List.mem_append_right _ (List.mem_append_right _ (mem_pinsAt hb e)))).1, fun b hb => ?_, w7⟩
        obtain ⟨o, e, d⟩ := T.obj _ _ st5 b hb
        exact (I7.pin (b, o) (List.mem_append_right _ (List.mem_append_right _ (mem_pinsAt hb e)))).2.1
      cases f with
      | next => obtain ⟨σ7, H7, I7, n7⟩ := q7; exact again I7 n7
      | cont => obtain ⟨σ7, H7, I7, n7⟩ := q7; exact again I7 n7
      | brk => obtain ⟨_, _, _, z⟩ := q7; exact z.elim
      | ret v => obtain ⟨_, _, _, _, _, z⟩ := q7; exact z.elim
    · exact wpAny_passesOwn hp (wpAny_mono (hbx C _ s6 σ6 H6 δ4 fp4 ex k I6 R4 h4) (fun _ _ z => z.elim) fun e s7 z => (z.shift K4).unpin)
end
end L2
namespace L2
open PySem PySem.Spec PyProof.Rows
noncomputable abbrev FE := DEnv → Option (OT × DEnv)
noncomputable abbrev FA := DEnv → Option (List OT × DEnv)
noncomputable abbrev FT := DEnv → Option (Bool × DEnv)
noncomputable abbrev FI := DEnv → Option (List PyData × DEnv)
noncomputable abbrev FO := DEnv → Option (Option Int × DEnv)
noncomputable abbrev FG := PyData → DEnv → Option DEnv
noncomputable abbrev FGs := List PyData → DEnv → Option DEnv
noncomputable def o2 {α : Type} (f : DEnv → Option (α × DEnv)) : DEnv → (α → DEnv → Prop) → Prop := fun δ K => ∃ r δ', f δ = some (r, δ') ∧ K r δ'
noncomputable def oG (g : FG) : MGt := fun d δ k => ∃ δ', g d δ = some δ' ∧ k δ'
section
variable {X : Cx} {io : List Nat} {p c : Bool} {e tg : Expr} {es : List Expr} {m m' : MEt} {mr mr' : MAt} {mt mt' : MTt} {mi mi' : MIt} {g g' : MGt} {gs gs' : MGst} {mo mo' : MOt} {st : Stmt} {sts : List Stmt} {u u' : MSt} {eo : Option Expr}
theorem ME.weak (h : ME X io p c e m) (w : ∀ δ K, m' δ K → m δ K) : ME X io p c e m' := let ⟨t, A, s⟩ := h; ⟨t, A, fun C H σ δ fp ex K Q R h k => s C H σ δ fp ex K Q R (w δ K h) k⟩
theorem MA.weak (h : MA X io p c es mr) (w : ∀ δ K, mr' δ K → mr δ K) : MA X io p c es mr' := let ⟨t, A, s⟩ := h; ⟨t, A, fun C H σ δ fp ex K Q R h k => s C H σ δ fp ex K Q R (w δ K h) k⟩
theorem MT.weak (h : MT X io p e mt) (w : ∀ δ K, mt' δ K → mt δ K) : MT X io p e mt' := let ⟨t, A, s⟩ := h; ⟨t, A, fun C H σ δ fp ex K Q R h k => s C H σ δ fp ex K Q R (w δ K h) k⟩
theorem MW.weak (h : MW X io p e mt) (w : ∀ δ K, mt' δ K → mt δ K) : MW X io p e mt' := let ⟨t, A, s⟩ := h; ⟨t, A, fun C H σ δ fp ex K Q R h k => s C H σ δ fp ex K Q R (w δ K h) k⟩
theorem MIfs.weak (h : MIfs X io p es mt) (w : ∀ δ K, mt' δ K → mt δ K) : MIfs X io p es mt' := let ⟨t, A, s⟩ := h; ⟨t, A, fun C H σ δ fp ex K Q R h k => s C H σ δ fp ex K Q R (w δ K h) k⟩
theorem MI.weak (h : MI X io p c tg e mi) (w : ∀ δ K, mi' δ K → mi δ K) : MI X io p c tg e mi' := let ⟨t, A, s⟩ := h; ⟨t, A, fun C H σ δ fp ex K Q R h k => s C H σ δ fp ex K Q R (w δ K h) k⟩
theorem MO.weak (h : MO X io p eo mo) (w : ∀ δ K, mo' δ K → mo δ K) : MO X io p eo mo' := let ⟨t, A, s⟩ := h; ⟨t, A, fun C H σ δ fp ex K Q R h k => s C H σ δ fp ex K Q R (w δ K h) k⟩
theorem MG.weak (h : MG X io c tg g) (w : ∀ d δ K, g' d δ K → g d δ K) : MG X io c tg g' := let ⟨t, A, s⟩ := h; ⟨t, A, fun C H σ δ fp ex v d k Q R q h kk => s C H σ δ fp ex v d k Q R q (w d δ k h) kk⟩
theorem MS.weak (h : MS X io st u) (w : ∀ D δ, u' D δ → u D δ) : MS X io st u' := let ⟨t, A, s⟩ := h; ⟨t, A, fun C H σ δ fp ex D D' R h E => s C H σ δ fp ex D D' R (w D δ h) E⟩
theorem MSs.weak (h : MSs X io sts u) (w : ∀ D δ, u' D δ → u D δ) : MSs X io sts u' := let ⟨t, A, s⟩ := h; ⟨t, A, fun C H σ δ fp ex D D' R h E => s C H σ δ fp ex D D' R (w D δ h) E⟩
end
noncomputable def fVar (i : Nat) : FE := fun δ => match δ[i]? with | some (some (.fz d)) => some (.fz d, δ) | _ => none
noncomputable def fOwn (i : Nat) : FE := fun δ => match δ[i]? with | some (some t) => some (.fz t.data, δ) | _ => none
noncomputable def fC (d : PyData) : FE := fun δ => some (.fz d, δ)
noncomputable def fBinS (g : PyData → PyData → Option PyData) (a b : FE) : FE := fun δ => (a δ).bind fun p => (b p.2).bind fun q => (g p.1.data q.1.data).bind fun d => some (.fz d, q.2)
noncomputable def fBin (g : PyData → PyData → Option OT) (a b : FE) : FE := fun δ => (a δ).bind fun p => (b p.2).bind fun q => (g p.1.data q.1.data).bind fun d => some (d, q.2)
noncomputable def fUn (g : PyData → Option PyData) (a : FE) : FE := fun δ => (a δ).bind fun p => (g p.1.data).bind fun d => some (.fz d, p.2)
noncomputable def fAnd (a b : FE) : FE := fun δ => (a δ).bind fun p => match p.1.data with | .bool true => b p.2 | .bool false => some (.fz (.bool false), p.2) | _ => none
noncomputable def fOr (a b : FE) : FE := fun δ => (a δ).bind fun p => match p.1.data with | .bool true => some (.fz (.bool true), p.2) | .bool false => b p.2 | _ => none
noncomputable def fIf (t : FT) (a b : FE) : FE := fun δ => (t δ).bind fun p => if p.1 = true then a p.2 else b p.2
noncomputable def tV (e : FE) : FT := fun δ => (e δ).bind fun p => match p.1 with | .fz (.bool b) => some (b, p.2) | _ => none
noncomputable def tNo (t : FT) : FT := fun δ => (t δ).bind fun p => some (!p.1, p.2)
noncomputable def tAn (t u : FT) : FT := fun δ => (t δ).bind fun p => if p.1 = true then u p.2 else some (false, p.2)
noncomputable def tO (t u : FT) : FT := fun δ => (t δ).bind fun p => if p.1 = true then some (true, p.2) else u p.2
noncomputable def tD (e : FE) : FT := fun δ => (e δ).bind fun p => (truD p.1.data).bind fun b => some (b, p.2)
noncomputable def aNil : FA := fun δ => some ([], δ)
noncomputable def aCons (e : FE) (a : FA) : FA := fun δ => (e δ).bind fun p => (a p.2).bind fun q => some (p.1 :: q.1, q.2)
noncomputable def fTup (a : FA) : FE := fun δ => (a δ).bind fun p => if p.1.length ≤ sizeLine then some (.fz (.tuple (OT.datas p.1)), p.2) else none
noncomputable def fLst (a : FA) : FE := fun δ => (a δ).bind fun p => if p.1.length ≤ sizeLine then some (.nd p.1, p.2) else none
noncomputable def fFlat (e : FE) : FE := fun δ => (e δ).bind fun p => if flatD p.1.data = true then some (.fz p.1.data, p.2) else none
noncomputable def fFlatT (e : FE) : FE := fun δ => (e δ).bind fun p => if flatT p.1 = true then some (p.1, p.2) else none
inductive RF where
  | ok (r : OT)
  | exn (c : Str)
  | bad
noncomputable abbrev FD := List PyData → RF
noncomputable abbrev FIO := OT → List PyData → Option (OT × OT)
noncomputable def fCall (F : FD) (a : FA) : FE := fun δ => (a δ).bind fun p => match F (OT.datas p.1) with | .ok r => some (r, p.2) | _ => none
noncomputable def fCallI (i : Nat) (F : FIO) (a : FA) : FE := fun δ => match δ[i]? with
  | some (some _) => (a δ).bind fun p => match p.2[i]? with
    | some (some t) => (F t (OT.datas p.1)).bind fun q => some (q.1, p.2.set i (some q.2))
    | _ => none
  | _ => none
noncomputable def fBlS (g : List PyData → Option PyData) (a : FA) : FE := fun δ => (a δ).bind fun p => (g (OT.datas p.1)).bind fun d => some (.fz d, p.2)
noncomputable def fBl (g : List PyData → Option OT) (a : FA) : FE := fun δ => (a δ).bind fun p => (g (OT.datas p.1)).bind fun d => some (d, p.2)
noncomputable def fIsi (T : String) (e : FE) : FE := fun δ => (e δ).bind fun p => if isFnD p.1.data = true then none else some (.fz (.bool (isTy T p.1.data)), p.2)
noncomputable def oN : FO := fun δ => some (none, δ)
noncomputable def oI (e : FE) : FO := fun δ => (e δ).bind fun p => match p.1.data with | .int i => some (some i, p.2) | _ => none
noncomputable def fSl (e : FE) (lo hi : FO) : FE := fun δ => (e δ).bind fun p => (lo p.2).bind fun q => (hi q.2).bind fun r => match p.1.data with | .list ds => some (.nd ((cutD ds q.1 r.1).map OT.fz), r.2) | _ => none
noncomputable def fChain (f g : Int → Int → Bool) (a b c : FE) : FE := fun δ => (a δ).bind fun p => (b p.2).bind fun q => match p.1.data, q.1.data with
  | .int i, .int j => if f i j = true then (c q.2).bind fun r => match r.1.data with | .int k => some (.fz (.bool (g j k)), r.2) | _ => none else some (.fz (.bool false), q.2)
  | _, _ => none
noncomputable def iLst (e : FE) : FI := fun δ => (e δ).bind fun p => match p.1.data with | .list ds => some (ds, p.2) | _ => none
noncomputable def iTp (e : FE) : FI := fun δ => (e δ).bind fun p => match p.1.data with | .tuple ds => some (ds, p.2) | _ => none
noncomputable def rOk (j : Int) : Bool := decide (-(2 ^ 62) ≤ j) && decide (j < 2 ^ 62)
theorem rOk_iff {j : Int} (h : rOk j = true) : -(2 ^ 62) ≤ j ∧ j < 2 ^ 62 := by
  unfold rOk at h
  rw [Bool.and_eq_true] at h
  exact ⟨of_decide_eq_true h.1, of_decide_eq_true h.2⟩
theorem rOk_of {j : Int} (h0 : -1000000 ≤ j) (h1 : j ≤ 1000000) : rOk j = true := by
  unfold rOk
  rw [decide_eq_true (show -(2 ^ 62) ≤ j by omega), decide_eq_true (show j < 2 ^ 62 by omega)]; rfl
noncomputable def iRa (a : FA) : FI := fun δ => (a δ).bind fun p => match OT.datas p.1 with | [.int j] => if rOk j = true then some (rngD 0 j.toNat, p.2) else none | _ => none
noncomputable def iRb (a : FA) : FI := fun δ => (a δ).bind fun p => match OT.datas p.1 with | [.int i, .int j] => if (rOk i && rOk j) = true then some (rngD i (j - i).toNat, p.2) else none | _ => none
noncomputable def iZip2 (a : FA) : FI := fun δ => (a δ).bind fun p => match OT.datas p.1 with | [.list as, .list bs] => some (zipD as bs, p.2) | _ => none
noncomputable def gNm (i : Nat) : FG := fun d δ => some (δ.set i (some (.fz d)))
noncomputable def gNmS (i : Nat) : FG := fun d δ => if flatD d = true then some (δ.set i (some (.fz d))) else none
noncomputable def gNl : FGs := fun ds δ => match ds with | [] => some δ | _ => none
noncomputable def gCn (g : FG) (gs : FGs) : FGs := fun ds δ => match ds with | d :: r => (g d δ).bind (gs r) | [] => none
noncomputable def gTp (n : Nat) (gs : FGs) : FG := fun d δ => match d with | .tuple ds => if ds.length = n then gs ds δ else none | _ => none
noncomputable def gLs (n : Nat) (gs : FGs) : FG := fun d δ => match d with | .list ds => if ds.length = n then gs ds δ else none | _ => none
noncomputable def compLoop (g : FG) (t : FT) (e : FE) : List PyData → DEnv → Option (List OT × DEnv)
  | [], δ => some ([], δ)
  | d :: ds, δ => (g d δ).bind fun δ1 => (t δ1).bind fun p => if p.1 = true then (e p.2).bind fun q => (compLoop g t e ds q.2).bind fun z => some (q.1 :: z.1, z.2) else compLoop g t e ds p.2
noncomputable def fComp (n : Nat) (caps : List Nat) (it : FI) (g : FG) (t : FT) (e : FE) : FE := fun δ => (it δ).bind fun p => if p.1.length ≤ sizeLine then (compLoop g t e p.1 (blk n caps p.2)).bind fun z => some (.nd z.1, p.2) else none
noncomputable def fCompI (n : Nat) (caps : List Nat) (o q : Nat) (it : FI) (g : FG) (t : FT) (e : FE) : FE := fun δ => (it δ).bind fun p => if p.1.length ≤ sizeLine ∧ capsOk caps o p.2 = true then
    (compLoop g t e p.1 (blk n caps p.2)).bind fun z => match p.2[o]?, z.2[q]? with | some (some _), some (some t) => some (.nd z.1, p.2.set o (some t)) | _, _ => none
  else none
noncomputable def tYes : FT := fun δ => some (true, δ)
inductive RS where
  | nx (δ : DEnv)
  | rt (r : OT) (δ : DEnv)
  | bk (δ : DEnv)
  | ct (δ : DEnv)
  | ex (c : Str) (δ : DEnv)
  | bad
noncomputable abbrev FS := DEnv → RS
noncomputable def RS.fits (D : EndsM) : RS → Prop
  | .nx δ => D.nx δ
  | .rt r δ => D.rt r δ
  | .bk δ => D.bk δ
  | .ct δ => D.ct δ
  | _ => False
noncomputable def oS (f : FS) : MSt := fun D δ => (f δ).fits D
noncomputable def xS (K : PySem.W.Frag) (f : FS) : MXt := fun δ k => ∃ c C δ', f δ = .ex c δ' ∧ ClsAt K c C ∧ k C δ'
noncomputable def fSeq (f g : FS) : FS := fun δ => match f δ with | .nx δ' => g δ' | r => r
noncomputable def fNx : FS := fun δ => .nx δ
noncomputable def fBrk : FS := fun δ => .bk δ
noncomputable def fCnt : FS := fun δ => .ct δ
noncomputable def wE (e : FE) (k : OT → DEnv → RS) : FS := fun δ => match e δ with | some (r, δ') => k r δ' | none => .bad
noncomputable def wX (F : FD) (a : FA) (k : OT → DEnv → RS) : FS := fun δ => match a δ with
  | some (rs, δ1) => match F (OT.datas rs) with
    | .ok r => k r δ1
    | .exn c => .ex c δ1
    | .bad => .bad
  | none => .bad
noncomputable def kDrop : OT → DEnv → RS := fun _ δ => .nx δ
noncomputable def kRet : OT → DEnv → RS := fun r δ => .rt r δ
noncomputable def kRetS : OT → DEnv → RS := fun r δ => if flatD r.data = true then .rt (.fz r.data) δ else .bad
noncomputable def kSet (i : Nat) : OT → DEnv → RS := fun r δ => .nx (δ.set i (some (.fz r.data)))
noncomputable def kSetS (i : Nat) : OT → DEnv → RS := fun r δ => if flatD r.data = true then .nx (δ.set i (some (.fz r.data))) else .bad
noncomputable def kSetO (i : Nat) : OT → DEnv → RS := fun r δ => .nx (δ.set i (some r))
noncomputable def kAsg (g : FG) : OT → DEnv → RS := fun r δ => match g r.data δ with | some δ' => .nx δ' | none => .bad
noncomputable def fRetN : FS := fun δ => .rt (.fz .none) δ
noncomputable def fRetO (i : Nat) : FS := fun δ => match δ[i]? with | some (some t) => .rt t (δ.set i none) | _ => .bad
noncomputable def fIfS (t : FT) (u w : FS) : FS := fun δ => match t δ with | some (b, δ') => if b = true then u δ' else w δ' | none => .bad
noncomputable def fRaise (c : Str) : FS := fun δ => .ex c δ
noncomputable def fAppend (i : Nat) (e : FE) : FS := fun δ => match δ[i]? with
  | some (some (.nd _)) => wE e (fun r δ1 => match δ1[i]? with
    | some (some (.nd ts)) => if ts.length < sizeLine then .nx (δ1.set i (some (.nd (ts ++ [.fz r.data])))) else .bad
    | _ => .bad) δ
  | _ => .bad
noncomputable def fAppendO (i : Nat) (e : FE) : FS := fun δ => match δ[i]? with
  | some (some (.nd _)) => wE e (fun r δ1 => match δ1[i]? with
    | some (some (.nd ts)) => if ts.length < sizeLine then .nx (δ1.set i (some (.nd (ts ++ [r])))) else .bad
    | _ => .bad) δ
  | _ => .bad
noncomputable def fPut (i : Nat) (e j : FE) : FS := wE e fun r δ1 => match δ1[i]? with
  | some (some (.nd ts)) => wE j (fun n _ => match n.data with
    | .int k => match ixN ts.length k with
      | some j => .nx (δ1.set i (some (.nd (ts.set j (.fz r.data)))))
      | none => .bad
    | _ => .bad) δ1
  | _ => .bad
noncomputable def fFreeze (i : Nat) (u : FS) : FS := fun δ => match δ[i]? with | some (some t) => u (δ.set i (some (.fz t.data))) | _ => .bad
noncomputable def forLoop (g : FG) (u : FS) : List PyData → DEnv → RS
  | [], δ => .nx δ
  | d :: ds, δ => match g d δ with
    | none => .bad
    | some δ1 => match u δ1 with
      | .nx δ2 => forLoop g u ds δ2
      | .ct δ2 => forLoop g u ds δ2
      | .bk δ2 => .nx δ2
      | r => r
noncomputable def fFor (it : FI) (g : FG) (u : FS) : FS := fun δ => match it δ with | some (ds, δ1) => forLoop g u ds δ1 | none => .bad
noncomputable def whileLoop (t : FT) (u : FS) : Nat → DEnv → RS
  | 0, _ => .bad
  | n + 1, δ => match t δ with
    | none => .bad
    | some (b, δ1) => if b = true then match u δ1 with
      | .nx δ2 => whileLoop t u n δ2
      | .ct δ2 => whileLoop t u n δ2
      | .bk δ2 => .nx δ2
      | .rt r δ2 => .rt r δ2
      | _ => .bad
      else .nx δ1
open Classical in
noncomputable def fWhile (t : FT) (u : FS) : FS := fun δ => if h : ∃ n, whileLoop t u n δ ≠ .bad then whileLoop t u (Classical.choose h) δ else .bad
noncomputable def subX (c d : Str) : Bool := c == d || d == ("CutError" : Str) || d == ("ValueError" : Str)
noncomputable def fTry (xs : List Str) (u : FS) (D : Str) (i : Nat) (h : FS) : FS := fun δ => match u δ with
  | .ex c δ' => if (xs.contains c && subX c D) = true then match h (δ'.set i (some (.fz (exD c)))) with
      | .nx δ2 => .nx (δ2.set i none)
      | _ => .bad
    else .bad
  | r => r
noncomputable def startN (n : Nat) (ds : List PyData) : DEnv := ds.map (fun d => some (.fz d)) ++ List.replicate (n - ds.length) none
noncomputable def startIN (n : Nat) (t : OT) (ds : List PyData) : DEnv := some t :: (ds.map (fun d => some (.fz d)) ++ List.replicate (n - (ds.length + 1)) none)
noncomputable def RS.told : RS → RF
  | .nx _ => .ok (.fz .none)
  | .rt r _ => .ok r
  | .ex c _ => .exn c
  | _ => .bad
noncomputable def runD (np n : Nat) (S : FS) : FD := fun ds => if ds.length = np then (S (startN n ds)).told else .bad
noncomputable def RS.toldI : RS → Option (OT × OT)
  | .nx δ => match δ[0]? with | some (some t) => some (.fz .none, t) | _ => none
  | .rt r δ => match δ[0]? with | some (some t) => some (r, t) | _ => none
  | _ => none
noncomputable def runI (np n : Nat) (S : FS) : FIO := fun t ds => if ds.length + 1 = np then (S (startIN n t ds)).toldI else none
end L2
namespace L2
open PySem PySem.Spec PyProof.Rows
noncomputable def sD (F : FD) : List PyData → (OT → Prop) → Prop := fun ds k => ∃ r, F ds = .ok r ∧ k r
noncomputable def sI (F : FIO) : OT → List PyData → (OT → OT → Prop) → Prop := fun t ds k => ∃ r t', F t ds = some (r, t') ∧ k r t'
noncomputable def sX (K : PySem.W.Frag) (F : FD) : List PyData → Addr → Prop := fun ds cl => ∃ c, F ds = .exn c ∧ ClsAt K c cl
theorem bs {α β : Type} {x : Option α} {f : α → Option β} {b : β} (h : x.bind f = some b) : ∃ a, x = some a ∧ f a = some b := Option.bind_eq_some_iff.mp h
section
variable {X : Cx} {io : List Nat} {p c : Bool} {e tg : Expr} {es : List Expr} {st : Stmt} {sts : List Stmt} {eo : Option Expr} {fa fb fc : FE} {ra : FA} {ta tb : FT} {i : Nat}
theorem fe_var (h : ME X io p c e (mVar i)) : ME X io p c e (o2 (fVar i)) := h.weak fun δ K q91 => by
  obtain ⟨r, δ', h, k⟩ := q91
  unfold fVar at h; unfold mVar
  split at h
  · rename_i d hd; (try rw [hd]); cases h; exact k
  · cases h
theorem fe_own (h : ME X io p c e (mOwn i)) : ME X io p c e (o2 (fOwn i)) := h.weak fun δ K q92 => by
  obtain ⟨r, δ', h, k⟩ := q92
  unfold fOwn at h; unfold mOwn
  split at h
  · rename_i d hd; (try rw [hd]); cases h; exact k
  · cases h
theorem fe_c {d : PyData} (h : ME X io p c e (mC d)) : ME X io p c e (o2 (fC d)) := h.weak fun δ K ⟨r, δ', h, k⟩ => by cases h; exact k
noncomputable def ByS (g : PyData → PyData → Option PyData) (rp : PyData → PyData → (PyData → Prop) → Prop) : Prop := ∀ d e r k, g d e = some r → k r → rp d e k
noncomputable def ByO (g : PyData → PyData → Option OT) (rp : PyData → PyData → (OT → Prop) → Prop) : Prop := ∀ d e r k, g d e = some r → k r → rp d e k
theorem w_binS {g rp} (G : ByS g rp) {δ : DEnv} {K : OT → DEnv → Prop} (h : o2 (fBinS g fa fb) δ K) : mBinS rp (o2 fa) (o2 fb) δ K := by
  obtain ⟨r, δ', h, k⟩ := h
  obtain ⟨⟨x, δ1⟩, h1, h⟩ := bs h
  obtain ⟨⟨y, δ2⟩, h2, h⟩ := bs h
  obtain ⟨d, h3, h⟩ := bs h
  cases h
  exact ⟨x, δ1, h1, y, δ2, h2, G _ _ _ _ h3 k⟩
theorem fe_binS {g rp} (G : ByS g rp) (h : ME X io p c e (mBinS rp (o2 fa) (o2 fb))) : ME X io p c e (o2 (fBinS g fa fb)) := h.weak fun δ K z => w_binS G z
theorem w_tv {f : FE} {δ : DEnv} {K : Bool → DEnv → Prop} (h : o2 (tV f) δ K) : o2 f δ (kB K) := by
  obtain ⟨b, δ', h, k⟩ := h
  obtain ⟨⟨x, δ1⟩, h1, h⟩ := bs h
  refine ⟨x, δ1, h1, ?_⟩
  unfold kB
  try dsimp only at h ⊢
  split at h
  · cases h; exact k
  · cases h
theorem ft_cmp {g rp} (G : ByS g rp) (h : MT X io p e (fun δ K => mBinS rp (o2 fa) (o2 fb) δ (kB K))) : MT X io p e (o2 (tV (fBinS g fa fb))) := h.weak fun δ K z => w_binS G (w_tv z)
theorem fe_bin {g rp} (G : ByO g rp) (h : ME X io p c e (mBin rp (o2 fa) (o2 fb))) : ME X io p c e (o2 (fBin g fa fb)) := h.weak fun δ K h => by
  obtain ⟨r, δ', h, k⟩ := h
  obtain ⟨⟨x, δ1⟩, h1, h⟩ := bs h
  obtain ⟨⟨y, δ2⟩, h2, h⟩ := bs h
  obtain ⟨d, h3, h⟩ := bs h
  cases h
  exact ⟨x, δ1, h1, y, δ2, h2, G _ _ _ _ h3 k⟩
noncomputable def negD : PyData → Option PyData | .int i => some (.int (-i)) | _ => none
noncomputable def notD : PyData → Option PyData | .bool b => some (.bool (!b)) | _ => none
theorem fe_neg (h : ME X io p c e (mNeg (o2 fa))) : ME X io p c e (o2 (fUn negD fa)) := h.weak fun δ K h => by
  obtain ⟨r, δ', h, k⟩ := h
  obtain ⟨⟨x, δ1⟩, h1, h⟩ := bs h
  obtain ⟨d, h3, h⟩ := bs h
  cases h
  refine ⟨x, δ1, h1, ?_⟩
  dsimp only at h3 ⊢
  cases q : x.data <;> rw [q] at h3 <;> cases h3
  exact k
theorem fe_notV (h : ME X io p c e (mNotV (o2 fa))) : ME X io p c e (o2 (fUn notD fa)) := h.weak fun δ K h => by
  obtain ⟨r, δ', h, k⟩ := h
  obtain ⟨⟨x, δ1⟩, h1, h⟩ := bs h
  obtain ⟨d, h3, h⟩ := bs h
  cases h
  refine ⟨x, δ1, h1, ?_⟩
  dsimp only at h3 ⊢
  cases q : x.data <;> rw [q] at h3 <;> cases h3
  exact k
theorem fe_andV (h : ME X io p c e (mAndV (o2 fa) (o2 fb))) : ME X io p c e (o2 (fAnd fa fb)) := h.weak fun δ K h => by
  obtain ⟨r, δ', h, k⟩ := h
  obtain ⟨⟨x, δ1⟩, h1, h⟩ := bs h
  refine ⟨x, δ1, h1, ?_⟩
  try dsimp only at h ⊢
  split at h
  · rename_i q; (try rw [q]); rw [asB_bl, if_pos rfl]; exact ⟨r, δ', h, k⟩
  · rename_i q; (try rw [q]); cases h; rw [asB_bl, if_neg Bool.false_ne_true]; exact k
  · cases h
theorem ft_not (h : MT X io p e (mNot (o2 ta))) : MT X io p e (o2 (tNo ta)) := h.weak fun δ K h => by
  obtain ⟨r, δ', h, k⟩ := h
  obtain ⟨⟨x, δ1⟩, h1, h⟩ := bs h
  cases h
  exact ⟨x, δ1, h1, k⟩
theorem ft_or (h : MW X io p e (mOr (o2 ta) (o2 tb))) : MW X io p e (o2 (tO ta tb)) := h.weak fun δ K h => by
  obtain ⟨r, δ', h, k⟩ := h
  obtain ⟨⟨x, δ1⟩, h1, h⟩ := bs h
  refine ⟨x, δ1, h1, ?_⟩
  try dsimp only at h ⊢
  split at h
  · rename_i q; rw [if_pos q]; cases h; exact k
  · rename_i q; rw [if_neg q]; exact ⟨r, δ', h, k⟩
theorem ft_tru (h : MT X io p e (mTru (o2 fa))) : MT X io p e (o2 (tD fa)) := h.weak fun δ K h => by
  obtain ⟨r, δ', h, k⟩ := h
  obtain ⟨⟨x, δ1⟩, h1, h⟩ := bs h
  obtain ⟨d, h3, h⟩ := bs h
  cases h
  refine ⟨x, δ1, h1, ?_⟩
  dsimp only at h3 ⊢
  rw [h3]
  exact k
theorem fa_nil (h : MA X io p c es mNil) : MA X io p c es (o2 aNil) := h.weak fun δ K ⟨r, δ', h, k⟩ => by cases h; exact k
theorem fa_cons (h : MA X io p c es (mCons (o2 fa) (o2 ra))) : MA X io p c es (o2 (aCons fa ra)) := h.weak fun δ K h => by
  obtain ⟨r, δ', h, k⟩ := h
  obtain ⟨⟨x, δ1⟩, h1, h⟩ := bs h
  obtain ⟨⟨y, δ2⟩, h2, h⟩ := bs h
  cases h
  exact ⟨x, δ1, h1, y, δ2, h2, k⟩
theorem fe_lst (h : ME X io p c e (mLst (o2 ra))) : ME X io p c e (o2 (fLst ra)) := h.weak fun δ K h => by
  obtain ⟨r, δ', h, k⟩ := h
  obtain ⟨⟨x, δ1⟩, h1, h⟩ := bs h
  refine ⟨x, δ1, h1, ?_⟩
  dsimp only at h
  split at h
  · rename_i q; cases h; exact ⟨q, k⟩
  · cases h
theorem fe_flatT (h : ME X io p c e (mFlatT (o2 fa))) : ME X io p c e (o2 (fFlatT fa)) := h.weak fun δ K h => by
  obtain ⟨r, δ', h, k⟩ := h
  obtain ⟨⟨x, δ1⟩, h1, h⟩ := bs h
  refine ⟨x, δ1, h1, ?_⟩
  dsimp only at h
  split at h
  · rename_i q; cases h; exact ⟨q, k⟩
  · cases h
theorem fe_call {F : FD} (h : ME X io p c e (mCall (sD F) (o2 ra))) : ME X io p c e (o2 (fCall F ra)) := h.weak fun δ K h => by
  obtain ⟨r, δ', h, k⟩ := h
  obtain ⟨⟨x, δ1⟩, h1, h⟩ := bs h
  refine ⟨x, δ1, h1, ?_⟩
  dsimp only at h
  split at h
  · rename_i q; cases h; exact ⟨_, q, k⟩
  · cases h
theorem fe_callI {F : FIO} (h : ME X io p c e (mCallI i (sI F) (o2 ra))) : ME X io p c e (o2 (fCallI i F ra)) := h.weak fun δ K h => by
  obtain ⟨r, δ', h, k⟩ := h
  unfold fCallI at h; unfold mCallI
  split at h
  case h_2 => cases h
  rename_i t0 q0
  (try rw [q0])
  obtain ⟨⟨x, δ1⟩, h1, h⟩ := bs h
  refine ⟨x, δ1, h1, ?_⟩
  try dsimp only at h ⊢
  split at h
  case h_2 => cases h
  rename_i t q
  (try rw [q])
  obtain ⟨⟨y, t'⟩, h2, h⟩ := bs h
  cases h
  exact ⟨_, _, h2, k⟩
theorem fe_blS {g rp} (G : ∀ ds r k, g ds = some r → k r → rp ds k) (h : ME X io p c e (mBlS rp (o2 ra))) : ME X io p c e (o2 (fBlS g ra)) := h.weak fun δ K h => by
  obtain ⟨r, δ', h, k⟩ := h
  obtain ⟨⟨x, δ1⟩, h1, h⟩ := bs h
  obtain ⟨d, h3, h⟩ := bs h
  cases h
  exact ⟨x, δ1, h1, G _ _ _ h3 k⟩
theorem fe_bl {g rp} (G : ∀ ds r k, g ds = some r → k r → rp ds k) (h : ME X io p c e (mBl rp (o2 ra))) : ME X io p c e (o2 (fBl g ra)) := h.weak fun δ K h => by
  obtain ⟨r, δ', h, k⟩ := h
  obtain ⟨⟨x, δ1⟩, h1, h⟩ := bs h
  obtain ⟨d, h3, h⟩ := bs h
  cases h
  exact ⟨x, δ1, h1, G _ _ _ h3 k⟩
theorem fe_isi {T : String} (h : ME X io p c e (mIsi T (o2 fa))) : ME X io p c e (o2 (fIsi T fa)) := h.weak fun δ K h => by
  obtain ⟨r, δ', h, k⟩ := h
  obtain ⟨⟨x, δ1⟩, h1, h⟩ := bs h
  by_cases hf : isFnD x.data = true
  · have h' : (if isFnD x.data = true then none else some (OT.fz (.bool (isTy T x.data)), δ1)) = some (r, δ') := h
    rw [if_pos hf] at h'
    cases h'
  · have h' : (if isFnD x.data = true then none else some (OT.fz (.bool (isTy T x.data)), δ1)) = some (r, δ') := h
    rw [if_neg hf] at h'
    injection h' with h'
    injection h' with e1 e2
    subst e1 e2
    exact ⟨x, _, h1, Bool.eq_false_iff.mpr hf, k⟩
theorem fo_none (h : MO X io p eo mNoPart) : MO X io p eo (o2 oN) := h.weak fun δ K ⟨r, δ', h, k⟩ => by cases h; exact k
theorem fo_some (h : MO X io p eo (mPart (o2 fa))) : MO X io p eo (o2 (oI fa)) := h.weak fun δ K h => by
  obtain ⟨r, δ', h, k⟩ := h
  obtain ⟨⟨x, δ1⟩, h1, h⟩ := bs h
  refine ⟨x, δ1, h1, ?_⟩
  try dsimp only at h ⊢
  split at h
  · rename_i q; (try rw [q]); cases h; exact k
  · cases h
theorem fe_sl {lo hi : FO} (h : ME X io p c e (mSl (o2 fa) (o2 lo) (o2 hi))) : ME X io p c e (o2 (fSl fa lo hi)) := h.weak fun δ K h => by
  obtain ⟨r, δ', h, k⟩ := h
  obtain ⟨⟨x, δ1⟩, h1, h⟩ := bs h
  obtain ⟨⟨y, δ2⟩, h2, h⟩ := bs h
  obtain ⟨⟨z, δ3⟩, h3, h⟩ := bs h
  refine ⟨x, δ1, h1, y, δ2, h2, z, δ3, h3, ?_⟩
  try dsimp only at h ⊢
  split at h
  · rename_i q; (try rw [q]); cases h; exact k
  · cases h
theorem w_chain {f g : Int → Int → Bool} {δ : DEnv} {K : OT → DEnv → Prop} (h : o2 (fChain f g fa fb fc) δ K) : mChain f g (o2 fa) (o2 fb) (o2 fc) δ K := by
  obtain ⟨r, δ', h, k⟩ := h
  obtain ⟨⟨x, δ1⟩, h1, h⟩ := bs h
  obtain ⟨⟨y, δ2⟩, h2, h⟩ := bs h
  refine ⟨x, δ1, h1, y, δ2, h2, ?_⟩
  try dsimp only at h ⊢
  split at h
  case h_2 => cases h
  rename_i i j q1 q2
  (try rw [q1, q2])
  show (if f i j = true then _ else _)
  split at h
  · rename_i hf
    rw [if_pos hf]
    obtain ⟨⟨z, δ3⟩, h3, h⟩ := bs h
    refine ⟨z, δ3, h3, ?_⟩
    try dsimp only at h ⊢
    split at h
    · rename_i q; (try rw [q]); cases h; exact k
    · cases h
  · rename_i hf
    rw [if_neg hf]
    cases h
    exact k
theorem ft_chain {f g : Int → Int → Bool} (h : MT X io p e (fun δ K => mChain f g (o2 fa) (o2 fb) (o2 fc) δ (kB K))) : MT X io p e (o2 (tV (fChain f g fa fb fc))) := h.weak fun δ K z => w_chain (w_tv z)
theorem fi_list (h : MI X io p c tg e (iL (o2 fa))) : MI X io p c tg e (o2 (iLst fa)) := h.weak fun δ K h => by
  obtain ⟨r, δ', h, k⟩ := h
  obtain ⟨⟨x, δ1⟩, h1, h⟩ := bs h
  refine ⟨x, δ1, h1, ?_⟩
  try dsimp only at h ⊢
  split at h
  · rename_i q; (try rw [q]); cases h; exact k
  · cases h
theorem fi_r1 (h : MI X io p c tg e (iR1 (o2 ra))) : MI X io p c tg e (o2 (iRa ra)) := h.weak fun δ K h => by
  obtain ⟨r, δ', h, k⟩ := h
  obtain ⟨⟨x, δ1⟩, h1, h⟩ := bs h
  refine ⟨x, δ1, h1, ?_⟩
  try dsimp only at h ⊢
  split at h
  case h_2 => cases h
  rename_i q
  (try rw [q])
  try dsimp only
  split at h
  · rename_i b; cases h; exact ⟨rOk_iff b, k⟩
  · cases h
theorem fg_name (h : MG X io c tg (dName i)) : MG X io c tg (oG (gNm i)) := h.weak fun d δ K ⟨δ', h, k⟩ => by cases h; exact k
theorem fg_nameS (h : MG X io c tg (dNameS i)) : MG X io c tg (oG (gNmS i)) := h.weak fun d δ K q93 => by
  obtain ⟨δ', h, k⟩ := q93
  unfold gNmS at h
  split at h
  · rename_i q; cases h; exact ⟨q, k⟩
  · cases h
theorem fif_nil (h : MIfs X io p es mTrue) : MIfs X io p es (o2 tYes) := h.weak fun δ K ⟨r, δ', h, k⟩ => by cases h; exact k
theorem comp_of {g : FG} {t : FT} {me : FE} {ds : List PyData} {δ0 : DEnv} {zs : List OT} {δe : DEnv} (h : compLoop g t me ds δ0 = some (zs, δe)) :
    ∃ I : Nat → List OT → DEnv → Prop, I 0 [] δ0 ∧
  (∀ (i : Nat) (d : PyData) (rs : List OT) (δ' : DEnv), ds[i]? = some d → I i rs δ' → oG g d δ' fun δ2 => o2 t δ2 fun b δ3 => if b = true then o2 me δ3 fun r δ4 => I (i + 1) (rs ++ [r]) δ4 else I (i + 1) rs δ3) ∧
  ∀ rs δ', I ds.length rs δ' → rs = zs ∧ δ' = δe := by
  refine ⟨fun i rs δ' => ∃ ys, rs ++ ys = zs ∧ compLoop g t me (ds.drop i) δ' = some (ys, δe), ⟨zs, rfl, by rw [List.drop_zero]; exact h⟩, ?_, ?_⟩
  · rintro i d rs δ' hd ⟨ys, e, hl⟩
    obtain ⟨hi, hdi⟩ := List.getElem?_eq_some_iff.mp hd
    rw [List.drop_eq_getElem_cons hi, hdi] at hl
    unfold compLoop at hl
    obtain ⟨δ1, h1, hl⟩ := bs hl
    obtain ⟨⟨b, δ2⟩, h2, hl⟩ := bs hl
    refine ⟨δ1, h1, b, δ2, h2, ?_⟩
    dsimp only at hl
    split at hl
    · rename_i hb
      rw [if_pos hb]
      obtain ⟨⟨r, δ3⟩, h3, hl⟩ := bs hl
      obtain ⟨⟨ws, δ4⟩, h4, hl⟩ := bs hl
      cases hl
      exact ⟨r, δ3, h3, ws, by rw [List.append_assoc]; exact e, h4⟩
    · rename_i hb
      rw [if_neg hb]
      exact ⟨ys, e, hl⟩
  · rintro rs δ' ⟨ys, e, hl⟩
    rw [List.drop_length] at hl
    unfold compLoop at hl
    cases hl
    exact ⟨by rw [← e, List.append_nil], rfl⟩
theorem w_comp {n : Nat} {caps : List Nat} {it : FI} {g : FG} {t : FT} {me : FE} {δ : DEnv} {K : OT → DEnv → Prop} (h : o2 (fComp n caps it g t me) δ K) : mComp n caps (o2 it) (oG g) (o2 t) (o2 me) δ K := by
  obtain ⟨r, δ', h, k⟩ := h
  obtain ⟨⟨ds, δ1⟩, h1, h⟩ := bs h
  refine ⟨ds, δ1, h1, ?_⟩
  dsimp only at h
  split at h
  case isFalse => cases h
  rename_i hz
  obtain ⟨⟨zs, δe⟩, h2, h⟩ := bs h
  cases h
  obtain ⟨I, i0, st, en⟩ := comp_of h2
  refine ⟨hz, I, i0, st, fun rs δ'' q => ?_⟩
  obtain ⟨rfl, rfl⟩ := en rs δ'' q
  exact k
theorem fe_comp {n : Nat} {caps : List Nat} {it : FI} {g : FG} {t : FT} {me : FE} (h : ME X io p c e (mComp n caps (o2 it) (oG g) (o2 t) (o2 me))) : ME X io p c e (o2 (fComp n caps it g t me)) := h.weak fun δ K z => w_comp z
theorem w_compI {n : Nat} {caps : List Nat} {o q : Nat} {it : FI} {g : FG} {t : FT} {me : FE} {δ : DEnv} {K : OT → DEnv → Prop} (h : o2 (fCompI n caps o q it g t me) δ K) : mCompI n caps o q (o2 it) (oG g) (o2 t) (o2 me) δ K := by
  obtain ⟨r, δ', h, k⟩ := h
  obtain ⟨⟨ds, δ1⟩, h1, h⟩ := bs h
  refine ⟨ds, δ1, h1, ?_⟩
  dsimp only at h
  split at h
  case isFalse => cases h
  rename_i hz
  obtain ⟨⟨zs, δe⟩, h2, h⟩ := bs h
  obtain ⟨I, i0, st, en⟩ := comp_of h2
  refine ⟨hz.1, hz.2, I, i0, st, fun rs δ'' qq => ?_⟩
  obtain ⟨rfl, rfl⟩ := en rs δ'' qq
  dsimp only at h
  split at h
  · rename_i q1 q2
    (try rw [q1, q2])
    cases h
    exact k
  · cases h
theorem fe_compI {n : Nat} {caps : List Nat} {o q : Nat} {it : FI} {g : FG} {t : FT} {me : FE} (h : ME X io p c e (mCompI n caps o q (o2 it) (oG g) (o2 t) (o2 me))) : ME X io p c e (o2 (fCompI n caps o q it g t me)) := h.weak fun δ K z => w_compI z
end
end L2
namespace L2
open PySem PySem.Spec PyProof.Rows
section
variable {X : Cx} {io : List Nat} {p c : Bool} {e tg iter : Expr} {es : List Expr} {st : Stmt} {sts : List Stmt} {fa fb fc : FE} {ra : FA} {ta tb : FT} {i : Nat} {f g u w : FS}
theorem fs_seq (h : MSs X io sts (mSeq (oS f) (oS g))) : MSs X io sts (oS (fSeq f g)) := h.weak fun D δ h => by
  unfold oS fSeq at h; unfold mSeq oS
  cases q : f δ <;> rw [q] at h <;> exact h
theorem fss_nil (h : MSs X io sts mNext) : MSs X io sts (oS fNx) := h.weak fun D δ h => h
theorem w_wE {k : OT → DEnv → RS} {D : EndsM} {δ : DEnv} (h : oS (wE fa k) D δ) : o2 fa δ fun r δ' => (k r δ').fits D := by
  unfold oS wE at h
  split at h
  · rename_i q; exact ⟨_, _, q, h⟩
  · exact h.elim
theorem o2.imp {α : Type} {f : DEnv → Option (α × DEnv)} {δ : DEnv} {K K' : α → DEnv → Prop} (h : o2 f δ K) (k : ∀ r δ', K r δ' → K' r δ') : o2 f δ K' := let ⟨r, δ', e, q⟩ := h; ⟨r, δ', e, k r δ' q⟩
theorem ite_fits {P : Prop} [Decidable P] {a : RS} {D : EndsM} (h : (if P then a else .bad : RS).fits D) : P ∧ a.fits D := by
  split at h
  · exact ⟨‹_›, h⟩
  · exact h.elim
theorem fs_drop (h : MS X io st (mDrop (o2 fa))) : MS X io st (oS (wE fa kDrop)) := h.weak fun D δ h => w_wE h
theorem fs_ret (h : MS X io st (mRet (o2 fa))) : MS X io st (oS (wE fa kRet)) := h.weak fun D δ h => w_wE h
theorem fs_retO (h : MS X io st (mRetO i)) : MS X io st (oS (fRetO i)) := h.weak fun D δ h => by
  unfold oS fRetO at h; unfold mRetO
  split at h
  · rename_i q; (try rw [q]); exact h
  · exact h.elim
theorem fs_if (h : MS X io st (mIfS (o2 ta) (oS u) (oS w))) : MS X io st (oS (fIfS ta u w)) := h.weak fun D δ h => by
  unfold oS fIfS at h
  split at h
  · rename_i b δ' q
    refine ⟨b, δ', q, ?_⟩
    split at h
    · rename_i hb; rw [if_pos hb]; exact h
    · rename_i hb; rw [if_neg hb]; exact h
  · exact h.elim
theorem fs_set (h : MS X io st (mSet i (o2 fa))) : MS X io st (oS (wE fa (kSet i))) := h.weak fun D δ h => w_wE h
theorem fs_setS (h : MS X io st (mSetS i (o2 fa))) : MS X io st (oS (wE fa (kSetS i))) := h.weak fun D δ h => (w_wE h).imp fun r δ' q => ite_fits q
theorem fs_setO (h : MS X io st (mSetO i (o2 fa))) : MS X io st (oS (wE fa (kSetO i))) := h.weak fun D δ h => w_wE h
section
variable {n : Nat} {caps : List Nat} {o q : Nat} {it : FI} {gg : FG} {t : FT} {me : FE}
theorem fs_setcO (h : MS X io st (if true = true then mSetO i (mComp n caps (o2 it) (oG gg) (o2 t) (o2 me)) else mSet i (mComp n caps (o2 it) (oG gg) (o2 t) (o2 me)))) : MS X io st (oS (wE (fComp n caps it gg t me) (kSetO i))) :=
  h.weak fun D δ h => by rw [if_pos rfl]; exact w_comp (w_wE h)
theorem fs_setc (h : MS X io st (if false = true then mSetO i (mComp n caps (o2 it) (oG gg) (o2 t) (o2 me)) else mSet i (mComp n caps (o2 it) (oG gg) (o2 t) (o2 me)))) : MS X io st (oS (wE (fComp n caps it gg t me) (kSet i))) :=
  h.weak fun D δ h => by rw [if_neg Bool.false_ne_true]; exact w_comp (w_wE h)
end
theorem fs_append (h : MS X io st (mAppend i (o2 fa))) : MS X io st (oS (fAppend i fa)) := h.weak fun D δ h => by
  unfold oS fAppend at h; unfold mAppend
  split at h
  case h_2 => exact h.elim
  rename_i q; (try rw [q])
  refine (w_wE h).imp fun r δ' z => ?_
  split at z
  · rename_i q2; (try rw [q2]); exact ite_fits z
  · exact z.elim
theorem fs_put (h : MS X io st (mPut i (o2 fa) (o2 fb))) : MS X io st (oS (fPut i fa fb)) := h.weak fun D δ h => by
  refine (w_wE h).imp fun r δ' z => ?_
  split at z
  case h_2 => exact z.elim
  rename_i q; (try rw [q])
  refine (w_wE z).imp fun n δ2 z => ?_
  split at z
  case h_2 => exact z.elim
  rename_i k q2; (try rw [q2])
  show match ixN _ k with | some j => _ | none => _
  split at z
  · rename_i q3; (try rw [q3]); exact z
  · exact z.elim
theorem fs_freeze (h : MS X io st (mFreeze i (oS u))) : MS X io st (oS (fFreeze i u)) := h.weak fun D δ h => by
  unfold oS fFreeze at h; unfold mFreeze
  split at h
  · rename_i q; (try rw [q]); exact h
  · exact h.elim
theorem forLoop_cons {gg : FG} {d : PyData} {ds : List PyData} {δ : DEnv} : forLoop gg u (d :: ds) δ = match gg d δ with
    | none => .bad
    | some δ1 => match u δ1 with
      | .nx δ2 => forLoop gg u ds δ2
      | .ct δ2 => forLoop gg u ds δ2
      | .bk δ2 => .nx δ2
      | r => r := rfl
theorem fs_for {it : FI} {gg : FG} (h : MS X io st (mFor (o2 it) (oG gg) (oS u))) : MS X io st (oS (fFor it gg u)) := h.weak fun D δ h => by
  unfold oS fFor at h
  split at h
  case h_2 => exact h.elim
  rename_i ds δ1 q
  refine ⟨ds, δ1, q, fun i δ' => (forLoop gg u (ds.drop i) δ').fits D, by show RS.fits D (forLoop gg u (ds.drop 0) δ1); rw [List.drop_zero]; exact h, fun i d δ' hd z => ?_, fun δ' z => ?_⟩
  · obtain ⟨hi, hdi⟩ := List.getElem?_eq_some_iff.mp hd
    replace z : RS.fits D (forLoop gg u (ds.drop i) δ') := z
    rw [List.drop_eq_getElem_cons hi, hdi, forLoop_cons] at z
    split at z
    case h_1 => exact z.elim
    rename_i δ2 q2
    refine ⟨δ2, q2, ?_⟩
    unfold oS
    cases q3 : u δ2 <;> rw [q3] at z <;> (try rw [q3]) <;> exact z
  · replace z : RS.fits D (forLoop gg u (ds.drop ds.length) δ') := z
    rw [List.drop_length] at z; exact z
theorem fs_raise {cn : Str} : MS X io st (oS (fRaise cn)) := ms_never.weak fun D δ h => h
theorem fs_x {F : FD} {k : OT → DEnv → RS} (h : MS X io st (oS (wE (fCall F ra) k))) : MS X io st (oS (wX F ra k)) := h.weak fun D δ h => by
  unfold oS wX at h; unfold oS wE fCall
  split at h
  case h_2 => exact h.elim
  rename_i rs δ1 q
  (try rw [q])
  dsimp only [Option.bind]
  split at h
  · rename_i q2; (try rw [q2]); exact h
  · exact h.elim
  · exact h.elim
theorem fs_try {xs : List Str} {D : Str} {Dc : Addr} {h0 : FS} (hk : ∀ cn ∈ xs, subX cn D = true → ∃ C, ClsAt X.K cn C ∧ ExCls X.K C ∧ PySem.W.subIn X.K (.ref C) (.ref Dc) = some true) (h : MS X io st (mTry X.K Dc i (oS u) (xS X.K u) (oS h0))) : MS X io st (oS (fTry xs u D i h0)) := h.weak fun DD δ h => by
  unfold oS fTry at h
  split at h
  · rename_i cn δ' q
    refine .inr ?_
    obtain ⟨hc, h⟩ := ite_fits h
    rw [Bool.and_eq_true] at hc
    obtain ⟨C, k1, k2, k3⟩ := hk cn (by simpa using hc.1) hc.2
    refine ⟨cn, C, δ', q, k1, cn, k1, ⟨k2, k3⟩, ?_⟩
    unfold oS
    split at h
    · rename_i q2; (try rw [q2]); exact h
    · exact h.elim
  · exact .inl h
theorem XS.weak {m m' : MXt} (h : XS X io st m) (w : ∀ δ k, m' δ k → m δ k) : XS X io st m' := fun C pins s σ H δ fp ex k I R hm => h C pins s σ H δ fp ex k I R (w δ k hm)
theorem XSs.weak {m m' : MXt} (h : XSs X io sts m) (w : ∀ δ k, m' δ k → m δ k) : XSs X io sts m' := fun C pins s σ H δ fp ex k I R hm => h C pins s σ H δ fp ex k I R (w δ k hm)
theorem XE.weak {m m' : MXt} (h : XE X io e m) (w : ∀ δ k, m' δ k → m δ k) : XE X io e m' := fun C pins s σ H δ fp ex k I R hm => h C pins s σ H δ fp ex k I R (w δ k hm)
class NoEx (f : FS) : Prop where
  no : ∀ δ cn δ', f δ ≠ .ex cn δ'
class NoExK (k : OT → DEnv → RS) : Prop where
  no : ∀ r δ cn δ', k r δ ≠ .ex cn δ'
theorem fx_no (f : FS) [NoEx f] : XS X io st (xS X.K f) := xs_never.weak fun δ k ⟨cn, _, δ', h, _⟩ => (NoEx.no δ cn δ' h).elim
theorem fxs_no (f : FS) [NoEx f] : XSs X io sts (xS X.K f) := xss_never.weak fun δ k ⟨cn, _, δ', h, _⟩ => (NoEx.no δ cn δ' h).elim
instance nx_kDrop_k : NoExK kDrop := ⟨fun _ _ _ _ h => by cases h⟩
instance nx_kRet_k : NoExK kRet := ⟨fun _ _ _ _ h => by cases h⟩
instance nx_kSetO_k : NoExK (kSetO i) := ⟨fun _ _ _ _ h => by cases h⟩
instance nx_wE {k : OT → DEnv → RS} [NoExK k] : NoEx (wE fa k) := ⟨fun δ cn δ' h => by
  unfold wE at h
  split at h
  · exact NoExK.no _ _ _ _ h
  · cases h⟩
instance nx_fSeq [NoEx f] [NoEx g] : NoEx (fSeq f g) := ⟨fun δ cn δ' h => by
  unfold fSeq at h
  split at h
  · exact NoEx.no _ _ _ h
  · exact NoEx.no _ _ _ h⟩
instance nx_fNx : NoEx fNx := ⟨fun _ _ _ h => by cases h⟩
instance nx_fRetO : NoEx (fRetO i) := ⟨fun _ _ _ h => by unfold fRetO at h; split at h <;> cases h⟩
instance nx_fIfS [NoEx u] [NoEx w] : NoEx (fIfS ta u w) := ⟨fun δ cn δ' h => by
  unfold fIfS at h
  split at h
  · split at h
    · exact NoEx.no _ _ _ h
    · exact NoEx.no _ _ _ h
  · cases h⟩
theorem fx_raise {cn : Str} {C : Addr} (hc : ClsAt X.K cn C) (h : XS X io st (mxRaise C)) : XS X io st (xS X.K (fRaise cn)) := h.weak fun δ k z => by
  obtain ⟨c', C', δ', h, k1, k2⟩ := z
  cases h
  have := k1.symm.trans hc
  injection this with this; injection this with this; injection this with this
  subst this
  exact k2
theorem fx_call {F : FD} {k : OT → DEnv → RS} [NoExK k] (h : XE X io e (mxCall (sX X.K F) (o2 ra))) : XE X io e (xS X.K (wX F ra k)) := h.weak fun δ kk z => by
  obtain ⟨c', C', δ', h, k1, k2⟩ := z
  unfold wX at h
  split at h
  case h_2 => cases h
  rename_i rs δ1 q
  refine ⟨rs, δ1, q, ?_⟩
  split at h
  · exact (NoExK.no _ _ _ _ h).elim
  · rename_i q2
    cases h
    exact ⟨C', ⟨_, q2, k1⟩, k2⟩
  · cases h
theorem fx_seq (h1 : XS X io st (xS X.K f)) (m1 : MS X io st (oS f)) (h2 : XSs X io sts (xS X.K g)) (hx : X.xe = fun _ _ => False := by rfl) : XSs X io (st :: sts) (xS X.K (fSeq f g)) := by
  intro C pins s σ H δ fp ex k I R hm
  obtain ⟨cn, C', δ', h, k1, k2⟩ := hm
  unfold fSeq at h
  split at h
  · rename_i δ1 q
    exact xss_cons m1 h2 hx C pins s σ H δ fp ex k I R (by
      show (f δ).fits _
      (try rw [q])
      exact ⟨cn, C', δ', h, k1, k2⟩)
  · exact xss_here h1 C pins s σ H δ fp ex k I R ⟨cn, C', δ', h, k1, k2⟩
theorem fxs_one (h1 : XS X io st (xS X.K f)) : XSs X io [st] (xS X.K f) := xss_here h1
theorem fx_if {a b : List Stmt} {pos : Pos} (h : XS X io (.If e a b pos) (mxIf (o2 ta) (xS X.K u) (xS X.K w))) : XS X io (.If e a b pos) (xS X.K (fIfS ta u w)) := h.weak fun δ k z => by
  obtain ⟨cn, C', δ', h, k1, k2⟩ := z
  unfold fIfS at h
  split at h
  case h_2 => cases h
  rename_i b δ1 q
  refine ⟨b, δ1, q, ?_⟩
  split at h
  · rename_i hb; rw [if_pos hb]; exact ⟨cn, C', δ', h, k1, k2⟩
  · rename_i hb; rw [if_neg hb]; exact ⟨cn, C', δ', h, k1, k2⟩
theorem forLoop_ex {gg : FG} {cn : Str} {δ' : DEnv} : ∀ (ds : List PyData) (δ : DEnv), forLoop gg u ds δ = .ex cn δ' → ∃ (S : Nat → DEnv) (r : Nat), r < ds.length ∧ S 0 = δ ∧
    (∀ i d, i < r → ds[i]? = some d → ∃ δ1, gg d (S i) = some δ1 ∧ (u δ1 = .nx (S (i + 1)) ∨ u δ1 = .ct (S (i + 1)))) ∧ ∀ d, ds[r]? = some d → ∃ δ1, gg d (S r) = some δ1 ∧ u δ1 = .ex cn δ'
  | [], δ, h => by cases h
  | d :: ds, δ, h => by
    rw [forLoop_cons] at h
    split at h
    · cases h
    rename_i δ1 q
    have go : ∀ δ2, (u δ1 = .nx δ2 ∨ u δ1 = .ct δ2) → forLoop gg u ds δ2 = .ex cn δ' → ∃ (S : Nat → DEnv) (r : Nat), r < (d :: ds).length ∧ S 0 = δ ∧
        (∀ i d', i < r → (d :: ds)[i]? = some d' → ∃ δ1, gg d' (S i) = some δ1 ∧ (u δ1 = .nx (S (i + 1)) ∨ u δ1 = .ct (S (i + 1)))) ∧ ∀ d', (d :: ds)[r]? = some d' → ∃ δ1, gg d' (S r) = some δ1 ∧ u δ1 = .ex cn δ' := fun δ2 hu hl => by
      obtain ⟨S, r, h1, h2, h3, h4⟩ := forLoop_ex ds δ2 hl
      refine ⟨fun i => match i with | 0 => δ | i + 1 => S i, r + 1, by simpa using h1, rfl, fun i d' hi hd => ?_, fun d' hd => h4 d' (by simpa using hd)⟩
      cases i with
      | zero =>
        have : d = d' := by simpa using hd
        subst this
        exact ⟨δ1, q, by show _ = RS.nx (S 0) ∨ _ = RS.ct (S 0); rw [h2]; exact hu⟩
      | succ i => exact h3 i d' (by omega) (by simpa using hd)
    split at h
    · rename_i q2; exact go _ (.inl q2) h
    · rename_i q2; exact go _ (.inr q2) h
    · cases h
    · rename_i q2 _ _ _
      exact ⟨fun _ => δ, 0, by simp, rfl, fun i d' hi => absurd hi (Nat.not_lt_zero i), fun d' hd => by
        have : d = d' := by simpa using hd
        subst this
        exact ⟨δ1, q, h⟩⟩
theorem fx_for {it : FI} {gg : FG} (h : XS X io st (mxFor (o2 it) (oG gg) (oS u) (xS X.K u))) : XS X io st (xS X.K (fFor it gg u)) := h.weak fun δ k z => by
  obtain ⟨cn, C', δ', h, k1, k2⟩ := z
  unfold fFor at h
  split at h
  case h_2 => cases h
  rename_i ds δ1 q
  refine ⟨ds, δ1, q, ?_⟩
  obtain ⟨S, r, h1, h2, h3, h4⟩ := forLoop_ex ds δ1 h
  refine ⟨fun i δ => δ = S i, r, h1, h2.symm, fun i d δ2 hi hd e => ?_, fun d δ2 hd e => ?_⟩
  · subst e
    obtain ⟨δ3, a, b⟩ := h3 i d hi hd
    refine ⟨δ3, a, ?_⟩
    unfold oS
    rcases b with b | b <;> rw [b] <;> rfl
  · subst e
    obtain ⟨δ3, a, b⟩ := h4 d hd
    exact ⟨δ3, a, cn, C', δ', b, k1, k2⟩
end
section
variable {P : Program} {w : World} {K : PySem.W.Frag} {mg : Str → Option Value} {base : Heap} {x qual : Str} {st : Stmt} {f : Addr} {fd : FuncData} {N ps : List Str} {n np nn : Nat} {S : FS}
theorem RS.told_fits {r : RS} {o : OT} {k : OT → Prop} (h : r.told = .ok o) (hk : k o) : r.fits (endsD k) := by
  cases r <;> unfold RS.told at h <;> first | (cases h; exact hk) | cases h
theorem fn_okD (F : Fun K x qual st f fd) (Sc : FnScope N ps (defScope st)) (hN : N.length = nn) (hp : np = ps.length)
    (hb : ∀ (cdv : Value) (A : Around) (outer : List Env) (s : Shared) (H : Hp) (E : XK), Room n (A.deeper (envOfC qual (defScope st) s.heap.objs.size f cdv)) → MSs (cxOf CX0 P w K mg base N qual (defScope st) f cdv A outer s H E).nox [] (defBody st) (oS S)) :
    FnOk P w K mg base CX0 (n + 1) f fd ps (spD K (sD (runD np nn S))) := by
  subst hN hp
  refine F.okD Sc (fun ds k h => ?_) fun cdv A outer s H E hr => ⟨_, hb cdv A outer s H E hr, fun ds k h => ?_⟩
  · obtain ⟨r, h, _⟩ := h
    unfold runD at h
    split at h
    · assumption
    · cases h
  · obtain ⟨r, h, hk⟩ := h
    unfold runD at h
    split at h
    · exact RS.told_fits h hk
    · cases h
theorem fn_okX (F : Fun K x qual st f fd) (Sc : FnScope N ps (defScope st)) (hN : N.length = nn) (hp : np = ps.length)
    (hb : ∀ (cdv : Value) (A : Around) (outer : List Env) (s : Shared) (H : Hp) (E : XK), Room n (A.deeper (envOfC qual (defScope st) s.heap.objs.size f cdv)) → XSs (cxOf (CX1 P w) P w K mg base N qual (defScope st) f cdv A outer s H E).nox [] (defBody st) (xS K S)) :
    FnOk P w K mg base (CX1 P w) (n + 1) f fd ps (spX K (sX K (runD np nn S))) := by
  subst hN hp
  refine F.okX Sc (fun ds cl h => ?_) fun cdv A outer s H E hr => ⟨_, hb cdv A outer s H E hr, fun ds cl h => ?_⟩
  · obtain ⟨r, h, _⟩ := h
    unfold runD at h
    split at h
    · assumption
    · cases h
  · obtain ⟨c, h, hc⟩ := h
    unfold runD at h
    split at h
    case isFalse => cases h
    have e : startN N.length ds = startD N ds := rfl
    rw [e] at h
    cases q : S (startD N ds) <;> rw [q] at h <;> unfold RS.told at h <;> cases h
    exact ⟨_, cl, _, q, hc, rfl⟩
theorem fn_okI (F : Fun K x qual st f fd) (Sc : FnScope N ps (defScope st)) (hN : N.length = nn) (hp : np = ps.length)
    (hb : ∀ (cdv : Value) (A : Around) (outer : List Env) (s : Shared) (H : Hp) (E : XK), Room n (A.deeper (envOfC qual (defScope st) s.heap.objs.size f cdv)) → MSs (cxOf CX0 P w K mg base N qual (defScope st) f cdv A outer s H E).nox [0] (defBody st) (oS S)) :
    FnOk P w K mg base CX0 (n + 1) f fd ps (spI K (sI (runI np nn S))) := by
  subst hN hp
  refine F.okI Sc (fun t ds k h => ?_) fun cdv A outer s H E hr => ⟨_, hb cdv A outer s H E hr, fun t ds k h => ?_⟩
  · obtain ⟨r, t', h, _⟩ := h
    unfold runI at h
    split at h
    · assumption
    · cases h
  · obtain ⟨r, t', h, hk⟩ := h
    unfold runI at h
    split at h
    case isFalse => cases h
    have e : startIN N.length t ds = startI N t ds := rfl
    rw [e] at h
    show (S (startI N t ds)).fits (endsI k)
    cases q : S (startI N t ds) <;> rw [q] at h <;> unfold RS.toldI at h <;> first | cases h | skip
    · rename_i δ
      show match δ[0]? with | some (some t) => k (.fz .none) t | _ => False
      dsimp only at h
      split at h
      · rename_i z; (try rw [z]); cases h; exact hk
      · cases h
    · rename_i r' δ
      show match δ[0]? with | some (some t) => k r' t | _ => False
      dsimp only at h
      split at h
      · rename_i z; (try rw [z]); cases h; exact hk
      · cases h
end
end L2
namespace L2
open PySem PySem.Spec PyProof.Rows
noncomputable def i2 (g : Int → Int → PyData) : PyData → PyData → Option PyData := fun d e => match d, e with | .int i, .int j => some (g i j) | _, _ => none
noncomputable def i2c (c : Int → Int → Bool) (g : Int → Int → PyData) : PyData → PyData → Option PyData := fun d e => match d, e with | .int i, .int j => if c i j = true then some (g i j) else none | _, _ => none
theorem by_i2 {g : Int → Int → PyData} : ByS (i2 g) (d2I0 g) := fun d e r k h hk => by
  unfold i2 at h
  split at h
  · cases h; exact hk
  · cases h
theorem by_i2c {c : Int → Int → Bool} {C : Int → Int → Prop} {g : Int → Int → PyData} (hc : ∀ i j, c i j = true → C i j) : ByS (i2c c g) (d2I C g) := fun d e r k h hk => by
  unfold i2c at h
  split at h
  · split at h
    · cases h; exact ⟨hc _ _ ‹_›, hk⟩
    · cases h
  · cases h
noncomputable def mulB (a b : Int) : Bool := !(decide (Builtin.Int.intBits a > shortFactorBits) && decide (Builtin.Int.intBits b > shortFactorBits) && Builtin.Int.intTooBig (Builtin.Int.intBits a + Builtin.Int.intBits b))
noncomputable def divB (_ j : Int) : Bool := decide (j ≠ 0) && decide (j.natAbs.log2 < 9000)
noncomputable def modB (_ j : Int) : Bool := decide (j ≠ 0)
noncomputable def powB (i j : Int) : Bool := decide (0 ≤ j ∧ j ≤ 1000000 ∧ i.natAbs < 2 ^ 64)
theorem mulB_iff {a b : Int} : mulB a b = true ↔ IntMulOk a b := by
  unfold mulB IntMulOk
  rw [Bool.not_eq_true', Bool.not_eq_true]
noncomputable def gAdd := i2 fun i j => .int (i + j)
noncomputable def gSb := i2 fun i j => .int (i - j)
noncomputable def gMul := i2c mulB fun i j => .int (i * j)
noncomputable def gFdiv := i2c divB fun i j => .int (i.fdiv j)
noncomputable def gMod := i2c modB fun i j => .int (i.fmod j)
noncomputable def gPow := i2c powB fun i j => .int (i ^ j.toNat)
noncomputable def gLt := i2 fun i j => .bool (decide (i < j))
noncomputable def gLe := i2 fun i j => .bool (decide (i ≤ j))
noncomputable def gGt := i2 fun i j => .bool (decide (j < i))
noncomputable def gGe := i2 fun i j => .bool (decide (j ≤ i))
theorem b_add : ByS gAdd (d2I0 fun i j => .int (i + j)) := by_i2
theorem b_sub : ByS gSb (d2I0 fun i j => .int (i - j)) := by_i2
theorem b_mul : ByS gMul (d2I MulOk fun i j => .int (i * j)) := by_i2c fun i j h => ⟨mulB_iff.mp h⟩
theorem b_fdiv : ByS gFdiv (d2I DvOk fun i j => .int (i.fdiv j)) := by_i2c fun i j h => ⟨by
  unfold divB at h
  rw [Bool.and_eq_true] at h
  exact ⟨of_decide_eq_true h.1, of_decide_eq_true h.2⟩⟩
theorem b_mod : ByS gMod (d2I (fun _ j => j ≠ 0) fun i j => .int (i.fmod j)) := by_i2c fun i j h => of_decide_eq_true h
theorem b_pow : ByS gPow (d2I PwOk fun i j => .int (i ^ j.toNat)) := by_i2c fun i j h => ⟨(of_decide_eq_true h : 0 ≤ j ∧ j ≤ 1000000 ∧ i.natAbs < 2 ^ 64)⟩
theorem b_lt : ByS gLt (d2I0 fun i j => .bool (decide (i < j))) := by_i2
theorem b_gt : ByS gGt (d2I0 fun i j => .bool (decide (j < i))) := by_i2
theorem b_ge : ByS gGe (d2I0 fun i j => .bool (decide (j ≤ i))) := by_i2
noncomputable def gEq : PyData → PyData → Option PyData := fun d e => if (SeqAt.shaped d && SeqAt.shaped e) = true then some (.bool (PyData.eqv d e)) else none
noncomputable def gNe : PyData → PyData → Option PyData := fun d e => if (SeqAt.shaped d && SeqAt.shaped e) = true then some (.bool (!PyData.eqv d e)) else none
theorem b_eq : ByS gEq dEq := fun d e r k h hk => by
  unfold gEq at h
  split at h
  · rename_i q
    rw [Bool.and_eq_true] at q
    cases h
    exact ⟨⟨q.1⟩, ⟨q.2⟩, hk⟩
  · cases h
theorem b_ne : ByS gNe dNe := fun d e r k h hk => by
  unfold gNe at h
  split at h
  · rename_i q
    rw [Bool.and_eq_true] at q
    cases h
    exact ⟨⟨q.1⟩, ⟨q.2⟩, hk⟩
  · cases h
noncomputable def gIs : PyData → PyData → Option PyData := fun d e => match e with | .none => some (.bool (isNoneD d)) | _ => none
noncomputable def gIsNot : PyData → PyData → Option PyData := fun d e => match e with | .none => some (.bool (!isNoneD d)) | _ => none
theorem b_is : ByS gIs dIsN := fun d e r k h hk => by
  unfold gIs at h
  split at h
  · cases h; exact ⟨rfl, hk⟩
  · cases h
theorem b_isnot : ByS gIsNot dNotN := fun d e r k h hk => by
  unfold gIsNot at h
  split at h
  · cases h; exact ⟨rfl, hk⟩
  · cases h
noncomputable def gMem (neg : Bool) : PyData → PyData → Option PyData := fun d e => match itemsD e with
  | some ds => if (scD d && ds.all scD) = true then some (.bool (if neg then !memS d ds else memS d ds)) else none
  | none => none
theorem b_mem {neg : Bool} : ByS (gMem neg) (dIn neg) := fun d e r k h hk => by
  unfold gMem at h
  split at h
  case h_2 => cases h
  rename_i ds q
  split at h
  case isFalse => cases h
  rename_i q2
  rw [Bool.and_eq_true] at q2
  cases h
  refine ⟨q2.1, ?_⟩
  cases e <;> cases q
  · exact ⟨q2.2, hk⟩
  · exact ⟨q2.2, hk⟩
noncomputable def gIx : PyData → PyData → Option OT := fun d e => (ixD d e).bind fun x => some (.fz x)
theorem b_ix : ByO gIx dIx := fun d e r k h hk => by
  obtain ⟨x, h1, h2⟩ := bs h
  cases h2
  unfold dIx
  rw [h1]
  exact hk
noncomputable def gCat : PyData → PyData → Option OT := fun d e => match d, e with | .list ds, .list es => if ds.length + es.length ≤ sizeLine then some (.nd ((ds ++ es).map OT.fz)) else none | _, _ => none
theorem b_cat : ByO gCat dCat := fun d e r k h hk => by
  unfold gCat at h
  split at h
  · split at h
    · cases h; exact ⟨‹_›, hk⟩
    · cases h
  · cases h
noncomputable def gLen : List PyData → Option PyData := fun ds => match ds with | [d] => (lenD d).bind fun n => some (.int n) | _ => none
theorem b_len : ∀ ds r k, gLen ds = some r → k r → dLen ds k := fun ds r k h hk => by
  unfold gLen at h
  split at h
  · obtain ⟨n, h1, h2⟩ := bs h
    cases h2
    show match lenD _ with | some n => _ | none => _
    rw [h1]
    exact hk
  · cases h
noncomputable def gAbs : List PyData → Option PyData := fun ds => match ds with | [.int i] => some (.int (if i < 0 then -i else i)) | _ => none
noncomputable def gMax : List PyData → Option PyData := fun ds => match ds with | [.int i, .int j] => some (.int (if j > i then j else i)) | _ => none
theorem b_max : ∀ ds r k, gMax ds = some r → k r → dMax ds k := fun ds r k h hk => by
  unfold gMax at h
  split at h
  · cases h; exact hk
  · cases h
noncomputable def gMin : List PyData → Option PyData := fun ds => match ds with | [.int i, .int j] => some (.int (if j < i then j else i)) | _ => none
theorem b_min : ∀ ds r k, gMin ds = some r → k r → dMin ds k := fun ds r k h hk => by
  unfold gMin at h
  split at h
  · cases h; exact hk
  · cases h
noncomputable def gInt : List PyData → Option PyData := fun ds => match ds with | [.int i] => some (.int i) | [.bool b] => some (.int (if b then 1 else 0)) | _ => none
theorem b_int : ∀ ds r k, gInt ds = some r → k r → dInt ds k := fun ds r k h hk => by
  unfold gInt at h
  split at h
  · cases h; exact hk
  · cases h; exact hk
  · cases h
noncomputable def gList : List PyData → Option OT := fun ds => match ds with | [d] => (itemsD d).bind fun es => some (.nd (es.map OT.fz)) | _ => none
theorem b_list : ∀ ds r k, gList ds = some r → k r → dList ds k := fun ds r k h hk => by
  unfold gList at h
  split at h
  · obtain ⟨n, h1, h2⟩ := bs h
    cases h2
    show match itemsD _ with | some n => _ | none => _
    rw [h1]
    exact hk
  · cases h
noncomputable def intsD : List PyData → Option (List Int)
  | [] => some []
  | .int i :: r => (intsD r).bind fun l => some (i :: l)
  | _ :: _ => none
theorem intsD_eq : ∀ {ds : List PyData} {ns : List Int}, intsD ds = some ns → ds = ns.map PyData.int
  | [], _, h => by cases h; rfl
  | .int i :: r, _, h => by
    obtain ⟨l, h1, h2⟩ := bs h
    cases h2
    rw [intsD_eq h1]; rfl
  | .none :: _, _, h => by cases h
  | .bool _ :: _, _, h => by cases h
  | .str _ :: _, _, h => by cases h
  | .list _ :: _, _, h => by cases h
  | .tuple _ :: _, _, h => by cases h
  | .dict _ :: _, _, h => by cases h
@[simp] theorem intsD_map : ∀ ns : List Int, intsD (ns.map PyData.int) = some ns
  | [] => rfl
  | n :: ns => by rw [List.map_cons, intsD, intsD_map ns]; rfl
section
variable {X : Cx} {io : List Nat} {p c : Bool} {e tg : Expr} {es : List Expr} {st : Stmt} {fa fb fc : FE} {ra : FA} {i : Nat}
noncomputable def fLR1 (a : FA) : FE := fun δ => (a δ).bind fun p => match OT.datas p.1 with | [.int j] => if rOk j = true ∧ j.toNat ≤ sizeLine then some (.nd ((rngD 0 j.toNat).map OT.fz), p.2) else none | _ => none
theorem fe_lr1 (h : ME X io p c e (mLR1 (o2 ra))) : ME X io p c e (o2 (fLR1 ra)) := h.weak fun δ K h => by
  obtain ⟨r, δ', h, k⟩ := h
  obtain ⟨⟨x, δ1⟩, h1, h⟩ := bs h
  refine ⟨x, δ1, h1, ?_⟩
  dsimp only at h
  split at h
  case h_2 => cases h
  rename_i q
  split at h
  case isFalse => cases h
  rename_i b
  cases h
  (try rw [q])
  exact ⟨⟨(rOk_iff b.1).1, (rOk_iff b.1).2, b.2⟩, k⟩
noncomputable def fRep (a b : FE) : FE := fun δ => (a δ).bind fun p => (b p.2).bind fun q => match q.1.data with | .int k => if rOk k = true ∧ k.toNat ≤ sizeLine then some (.nd (List.replicate k.toNat (.fz p.1.data)), p.2) else none | _ => none
noncomputable def exName : PyData → Option Str | .dict [(.str x, .none)] => some x | _ => none
theorem exName_eq {d : PyData} {x : Str} (h : exName d = some x) : d = exD x := by
  unfold exName at h
  split at h
  · cases h; rfl
  · cases h
noncomputable def fIsiX (xs : List Str) (D : Str) (a : FE) : FE := fun δ => (a δ).bind fun p => (exName p.1.data).bind fun x => if xs.contains x = true then some (.fz (.bool (subX x D)), p.2) else none
noncomputable def fIsiXT (xs Ds : List Str) (a : FE) : FE := fun δ => (a δ).bind fun p => (exName p.1.data).bind fun x => if xs.contains x = true then some (.fz (.bool (Ds.any (subX x))), p.2) else none
theorem fe_isiX {xs : List Str} {D : Str} {cv : Value} (hk : ∀ x ∈ xs, ∃ C, ClsAt X.K x C ∧ PySem.W.kitOne X.K (.ref C) cv = some (subX x D)) (h : ME X io p c e (mIsiX X.K cv (o2 fa))) : ME X io p c e (o2 (fIsiX xs D fa)) := h.weak fun δ K h => by
  obtain ⟨r, δ', h, k⟩ := h
  obtain ⟨⟨x, δ1⟩, h1, h⟩ := bs h
  obtain ⟨n, h2, h⟩ := bs h
  split at h
  case isFalse => cases h
  rename_i q
  cases h
  obtain ⟨C, k1, k2⟩ := hk n (by simpa using q)
  exact ⟨x, δ1, h1, n, C, _, exName_eq h2, k1, k2, k⟩
theorem fe_isiXT {xs Ds : List Str} {cs : List Value} (hk : ∀ x ∈ xs, ∃ C, ClsAt X.K x C ∧ PySem.W.kitAny X.K (.ref C) cs = some (Ds.any (subX x))) (h : ME X io p c e (mIsiXT X.K cs (o2 fa))) : ME X io p c e (o2 (fIsiXT xs Ds fa)) := h.weak fun δ K h => by
  obtain ⟨r, δ', h, k⟩ := h
  obtain ⟨⟨x, δ1⟩, h1, h⟩ := bs h
  obtain ⟨n, h2, h⟩ := bs h
  split at h
  case isFalse => cases h
  rename_i q
  cases h
  obtain ⟨C, k1, k2⟩ := hk n (by simpa using q)
  exact ⟨x, δ1, h1, n, C, _, exName_eq h2, k1, k2, k⟩
end
end L2
namespace L2
open PySem PySem.Spec PyProof.Rows
variable {G : PySem.W.Frag}
section
variable {X : Cx} {io : List Nat} {p c : Bool} {e a b : Expr} {es : List Expr} {m ma mb : MEt} {mr : MAt} {pos apos cpos px py pt sp kp : Pos} {i j : Nat} {x y : Str} {fa fb : FE} {ra : FA} {st : Stmt}
noncomputable def fTupO (a : FA) : FE := fun δ => (a δ).bind fun p => if p.1.length ≤ sizeLine then some (.tp p.1, p.2) else none
noncomputable def fAppAt (i c : Nat) (e : FE) : FS := fun δ => match δ[i]? with
  | some (some (.tp ts)) => match ts[c]? with
    | some (.nd us) => wE e (fun r _ => if us.length < sizeLine then .nx (δ.set i (some (.tp (ts.set c (.nd (us ++ [.fz r.data])))))) else .bad) δ
    | _ => .bad
  | _ => .bad
noncomputable def fPar (i j : Nat) (a : FA) : FS := fun δ => match a δ with
  | some (rs, δ1) => match OT.datas rs with
    | [d, e] => .nx ((δ1.set i (some (.fz d))).set j (some (.fz e)))
    | _ => .bad
  | none => .bad
end
class NoStar (e : Expr) : Prop where
  h : ∀ es env, starEach (e :: es) env = (false, eval e env) :: starEach es env
instance nx_Name {x : Str} {p : Pos} : NoStar (.Name x p) := ⟨fun _ _ => rfl⟩
instance nx_Constant {x k} {p : Pos} : NoStar (.Constant x k p) := ⟨fun _ _ => rfl⟩
instance nx_BinOp {a o b} {p : Pos} : NoStar (.BinOp a o b p) := ⟨fun _ _ => rfl⟩
instance nx_Compare {a o b} {p : Pos} : NoStar (.Compare a o b p) := ⟨fun _ _ => rfl⟩
instance nx_Call {f a k} {p : Pos} : NoStar (.Call f a k p) := ⟨fun _ _ => rfl⟩
instance nx_List {a} {p : Pos} : NoStar (.List a p) := ⟨fun _ _ => rfl⟩
theorem fa_cons2 {X : Cx} {io : List Nat} {p p' c c' p2 c2 : Bool} {e : Expr} {es : List Expr} {fa : FE} {ra : FA} [NoStar e] (ha : ME X io p c e (o2 fa)) (hr : MA X io p' c' es (o2 ra)) (hc : p' = true ∨ c = true := by first | exact Or.inl rfl | exact Or.inr rfl) (h2 : (p && p') = p2 := by rfl) (h3 : (c && c') = c2 := by rfl) : MA X io p2 c2 (e :: es) (o2 (aCons fa ra)) :=
  h2 ▸ h3 ▸ fa_cons (ma_cons ha hr hc (NoStar.h es X.env))
theorem fe_as {X : Cx} {io : List Nat} {p p' c c' : Bool} {e : Expr} {m : MEt} (h : ME X io p c e m) (h2 : p = p' := by rfl) (h3 : c = c' := by rfl) : ME X io p' c' e m := h2 ▸ h3 ▸ h
end L2
namespace L2
open PySem PySem.Spec PyProof.Rows
variable {G : PySem.W.Frag}
section
variable {X : Cx} {io : List Nat} {p c : Bool} {e a b : Expr} {es : List Expr} {m ma mb : MEt} {mr : MAt} {pos apos cpos px py pt sp kp : Pos} {i j : Nat} {x y : Str} {fa fb : FE} {ra : FA} {st : Stmt} {u : FS}
noncomputable def insI (x : Int) : List Int → List Int
  | [] => [x]
  | y :: ys => if x ≤ y then x :: y :: ys else y :: insI x ys
noncomputable def isort : List Int → List Int
  | [] => []
  | x :: xs => insI x (isort xs)
theorem insI_perm (x : Int) : ∀ l, (insI x l).Perm (x :: l)
  | [] => .refl _
  | y :: ys => by
    unfold insI
    split
    · exact .refl _
    · exact ((insI_perm x ys).cons y).trans (.swap x y ys)
theorem isort_perm : ∀ l, (isort l).Perm l
  | [] => .refl _
  | x :: xs => (insI_perm x _).trans ((isort_perm xs).cons x)
theorem insI_sorted (x : Int) : ∀ {l}, l.Pairwise (· ≤ ·) → (insI x l).Pairwise (· ≤ ·)
  | [], _ => .cons (fun _ m => nomatch m) .nil
  | y :: ys, h => by
    unfold insI
    cases h with
    | cons h1 h2 =>
      split
      · rename_i c
        refine .cons (fun z m => ?_) (.cons h1 h2)
        rcases List.mem_cons.mp m with rfl | m
        · exact c
        · exact Int.le_trans c (h1 z m)
      · rename_i c
        refine .cons (fun z m => ?_) (insI_sorted x h2)
        rcases List.mem_cons.mp ((insI_perm x ys).mem_iff.mp m) with rfl | m
        · omega
        · exact h1 z m
theorem isort_sorted : ∀ l, (isort l).Pairwise (· ≤ ·)
  | [] => .nil
  | x :: xs => insI_sorted x (isort_sorted xs)
theorem sorted_unique : ∀ {l₁ l₂ : List Int}, l₁.Perm l₂ → l₁.Pairwise (· ≤ ·) → l₂.Pairwise (· ≤ ·) → l₁ = l₂
  | [], l₂, h, _, _ => h.nil_eq
  | a :: l₁, [], h, _, _ => h.eq_nil
  | a :: l₁, b :: l₂, h, h1, h2 => by
    cases h1 with
    | cons p1 q1 =>
      cases h2 with
      | cons p2 q2 =>
        have e : a = b := by
          have m1 : a ∈ b :: l₂ := h.mem_iff.mp (.head _)
          have m2 : b ∈ a :: l₁ := h.mem_iff.mpr (.head _)
          rcases List.mem_cons.mp m1 with e | m1
          · exact e
          · rcases List.mem_cons.mp m2 with e | m2
            · exact e.symm
            · have := p2 a m1
              have := p1 b m2
              omega
        subst e
        rw [sorted_unique h.cons_inv q1 q2]
theorem valsI : ∀ {its : List Value} {ns : List Int}, IntsAre its ns → Vals (ns.map V.int) its
  | [], _, h => by cases h; exact .nil
  | v :: its, _, h => by
    cases h with
    | cons n t h => exact .cons ⟨_, rfl⟩ (valsI h)
end
end L2
namespace L2
open PySem PySem.Spec PyProof.Rows
structure Gives (P : Program) (w : World) (it : Addr) (f : List Addr) (St : Heap → Prop) (x : Value) (St' : Heap → Prop) : Prop where
  mem : it ∈ f
  run : ∀ {A : Around} {E : Value → Shared → Prop} {s : Shared} {Q : Value → Shared → Prop}, St s.heap → (∀ h', St' h' → Heap.SameBut it s.heap h' → Q x { s with heap := h' }) → wpAny (model P w) A (Builtin.SmallTypes.nextOf (.ref it)) Q E s
  keep : ∀ h h', (∀ c ∈ f, ∀ o, h.get? c = some o → h'.get? c = some o) → St h → St h'
  keep' : ∀ h h', (∀ c ∈ f, ∀ o, h.get? c = some o → h'.get? c = some o) → St' h → St' h'
structure NoMore (P : Program) (w : World) (it : Addr) (f : List Addr) (St : Heap → Prop) : Prop where
  mem : it ∈ f
  run : ∀ {A : Around} {E : Value → Shared → Prop} {s : Shared} {Q : Value → Shared → Prop}, A.handled = none → St s.heap → (∀ h' e, Heap.ExtBut it s.heap h' → (∃ o, h'.get? e = some o ∧ o.cls = .type "StopIteration") → E (.ref e) { s with heap := h' }) → wpAny (model P w) A (Builtin.SmallTypes.nextOf (.ref it)) Q E s
  keep : ∀ h h', (∀ c ∈ f, ∀ o, h.get? c = some o → h'.get? c = some o) → St h → St h'
structure ZA (z TI TO i1 i2 : Addr) (f1 f2 : List Addr) : Prop where
  TIz : TI ≠ z
  TOz : TO ≠ z
  a1 : ∀ c ∈ f1, c ≠ z ∧ c ≠ TO ∧ c ≠ i2
  a2 : ∀ c ∈ f2, c ≠ z ∧ c ≠ TO ∧ c ≠ i1
section
variable {P : Program} {w : World} {A : Around} {E : Value → Shared → Prop} {s : Shared}
end
noncomputable abbrev zT1 (h : Heap) (a : Addr) : Heap := h.push { cls := .type "tuple_iterator", data := .fields #[.ref a, .int 0 0] }
noncomputable abbrev zT2 (h : Heap) (a b : Addr) : Heap := (zT1 h a).push { cls := .type "tuple_iterator", data := .fields #[.ref b, .int 0 0] }
noncomputable abbrev zT3 (h : Heap) (a b : Addr) : Heap := (zT2 h a b).push { cls := .type "tuple", data := .seq #[.ref h.objs.size, .ref (zT1 h a).objs.size] }
noncomputable abbrev zT4 (h : Heap) (a b : Addr) : Heap := (zT3 h a b).push { cls := .type "tuple", data := .seq #[.none, .none] }
noncomputable abbrev zT5 (h : Heap) (a b : Addr) : Heap := (zT4 h a b).push { cls := .type "zip", data := .fields #[.none, .bool false, .bool false, .ref (zT2 h a b).objs.size, .ref (zT3 h a b).objs.size] }
section
variable {P : Program} {w : World} {A : Around} {E : Value → Shared → Prop} {s : Shared}
end
section
variable {X : Cx} {io : List Nat} {p c : Bool} {a b : Expr} {mr : MAt}
end
end L2
namespace L2
open PySem PySem.Spec PyProof.Rows
noncomputable def pickG {α : Type} (xs : List α) (lo hi st : Option Int) : List α :=
  (sliceRange (sliceBounds lo hi st xs.length).1 (sliceBounds lo hi st xs.length).2.1 (sliceBounds lo hi st xs.length).2.2).filterMap (xs[·]?)
theorem Vals.places : ∀ {xs : List V} {its : List Value}, Vals xs its → ∀ js : List Nat, Vals (js.filterMap (xs[·]?)) (js.filterMap (its[·]?))
  | _, _, _, [] => .nil
  | xs, its, h, j :: js => by
    have ih := Vals.places h js
    cases hn : xs[j]? with
    | some x =>
      obtain ⟨u, hu, ru⟩ := h.get hn
      simp only [List.filterMap_cons, hn, hu]
      exact .cons ru ih
    | none =>
      have hv : its[j]? = none := by
        rw [List.getElem?_eq_none_iff] at hn ⊢
        rw [← h.length]; exact hn
      simp only [List.filterMap_cons, hn, hv]
      exact ih
theorem Das.places {G : PySem.W.Frag} {H : Hp} {L : Addr → Prop} {xs : List V} {ds : List PyData} (h : Das G H L xs ds) : ∀ js : List Nat, Das G H L (js.filterMap (xs[·]?)) (js.filterMap (ds[·]?))
  | [] => .nil
  | j :: js => by
    have ih := Das.places h js
    cases hn : ds[j]? with
    | some x =>
      obtain ⟨u, hu, ru⟩ := h.get hn
      simp only [List.filterMap_cons, hn, hu]
      exact .cons ru ih
    | none =>
      have hv : xs[j]? = none := by
        rw [List.getElem?_eq_none_iff] at hn ⊢
        rw [h.length]; exact hn
      simp only [List.filterMap_cons, hn, hv]
      exact ih
theorem Das.pick {G : PySem.W.Frag} {H : Hp} {L : Addr → Prop} {xs : List V} {ds : List PyData} (h : Das G H L xs ds) (lo hi st : Option Int) : Das G H L (pickG xs lo hi st) (pickG ds lo hi st) := by
  unfold pickG
  rw [h.length]
  exact h.places _
theorem Vals.pick {xs : List V} {its : List Value} (h : Vals xs its) (lo hi st : Option Int) : Vals (pickG xs lo hi st) (slicePick its.toArray lo hi st).toList := by
  have e : (slicePick its.toArray lo hi st).toList = (sliceRange (sliceBounds lo hi st xs.length).1 (sliceBounds lo hi st xs.length).2.1 (sliceBounds lo hi st xs.length).2.2).filterMap (its[·]?) := by
    simp [slicePick, h.length]
  rw [e]
  exact h.places _
theorem pickG_length_le {xs : List V} {its : List Value} (h : Vals xs its) (lo hi st : Option Int) : (pickG xs lo hi st).length ≤ xs.length := by
  have e := (h.pick lo hi st).length
  have s := slicePick_size_le its.toArray lo hi st
  have l := h.length
  simp only [Array.length_toList, List.size_toArray] at e s
  omega
section
variable {X : Cx} {e : Expr} {te : TE} {lo hi : Option Expr} {se : Expr} {tl th ts : TO} {pos p2 : Pos}
noncomputable def tSt (K : PySem.W.Frag) (te : TE) (tl th ts : TO) : TE := fun σ H Q => te σ H fun x H1 => tl σ H1 fun l H2 => th σ H2 fun u H3 => ts σ H3 fun k H4 => ∃ a xs, x = .ref a ∧ SqL K H4 a xs ∧ k ≠ some 0 ∧ ∀ p, H4 p = none → Q (.ref p) (upd H4 p (.lst (pickG xs l u k)))
theorem pe_step (he : PE X e te) (hl : PO X lo tl) (hu : PO X hi th) (hst : PO X (some se) ts) : PE X (.Subscript e (.Slice lo hi (some se) p2) pos) (tSt X.K te tl th ts) := by
  intro pins s σ H Q I h
  refine Subscript_ (thn (he pins s σ H _ I h) fun v s1 qz9 => ?_)
  obtain ⟨x, H1, I1, r1, q1⟩ := qz9
  refine wpAny_Slice (thn (hl pins s1 σ H1 _ I1 q1) fun vl s2 qz9 => ?_)
  obtain ⟨l, H2, I2, pl, q2⟩ := qz9
  refine thn (hu pins s2 σ H2 _ I2 q2) fun vu s3 qz9 => ?_
  obtain ⟨u, H3, I3, pu, q3⟩ := qz9
  refine thn (hst pins s3 σ H3 _ I3 q3) fun vs s4 qz9 => ?_
  obtain ⟨k, H4, I4, ps, q4⟩ := qz9
  obtain ⟨a, xs, rfl, hx, hk, q⟩ := q4
  cases r1
  have I5 : Inv X pins σ H4 { s4 with heap := s4.heap.push { cls := .type "slice", data := .fields #[vl, vu, vs] } } := I4.kept (t' := s4.toks) fun b ob q => Heap.get?_push_of_some _ q
  obtain ⟨its, r, ht, hz⟩ := I5.list hx
  have hlen := r.length
  show wpAny (model X.prog X.w) X.A (subscriptTail e (.Slice lo hi (some se) p2) (.ref a) (.ref s4.heap.objs.size)) (EP X pins σ Q) X.xe { s4 with heap := s4.heap.push { cls := .type "slice", data := .fields #[vl, vu, vs] } }
  refine tail_any (ops := [.ref a, .ref s4.heap.objs.size]) ht.isList.typeIs slot_list_getitem.lookup ?_ (by with_unfolding_all rfl)
  refine wpAny_getItem_list_slice ht.isList (Heap.IsSliceOf.new ..) pl pu ps hk ?_ (by rw [List.size_toArray] <;> omega)
  refine ⟨.ref _, _, I5.laid (t' := s4.toks) (o := .lst (pickG xs l u k)) (fun b ob q => Heap.get?_push_of_some _ q) (Nat.le_refl _) ?_, rfl, q _ (I5.hok.fresh (Nat.le_refl _))⟩
  exact ⟨Nat.le_trans (pickG_length_le r l u k) hz, _, 0, r.pick l u k, Heap.get?_push_size _ rfl⟩
end
section
variable {X : Cx} {io : List Nat} {p c : Bool} {a e : Expr} {ma : MEt} {lo hi : Option Expr} {se : Expr} {ml mh ms : MOt} {pos p2 : Pos} {fa : FE}
noncomputable def mStep (m : MEt) (ml mh ms : MOt) : MEt := fun δ K => m δ fun r δ1 => ml δ1 fun lo δ2 => mh δ2 fun hi δ3 => ms δ3 fun st δ4 => st ≠ some 0 ∧ asL r.data fun ds => K (.nd ((pickG ds lo hi st).map OT.fz)) δ4
theorem m_step (ha : ME X io true c a ma) (hl : MO X io true lo ml) (hh : MO X io true hi mh) (hs : MO X io true (some se) ms) : ME X io true c (.Subscript a (.Slice lo hi (some se) p2) pos) (mStep ma ml mh ms) := by
  obtain ⟨_, A, s⟩ := ha
  obtain ⟨_, B, sl⟩ := hl
  obtain ⟨_, D, sh⟩ := hh
  obtain ⟨_, F, ss⟩ := hs
  refine ⟨_, pe_step A B D F, ?_⟩
  intro C H σ δ fp ex K' Q R h k
  refine s C H σ δ fp ex _ _ R h fun H1 v r δ1 fp1 new r1 h1 => ?_
  refine sl C H1 σ δ1 fp1 ex _ _ r1.base h1 fun H2 l δ2 fp2 R2 S2 h2 => ?_
  refine sh C H2 σ δ2 fp2 ex _ _ R2 h2 fun H3 u δ3 fp3 R3 S3 h3 => ?_
  refine ss C H3 σ δ3 fp3 ex _ _ R3 h3 fun H4 w δ4 fp4 R4 S4 h4 => ?_
  obtain ⟨hw, h4⟩ := h4
  have s2 : Same H1 H2 := fun b o e => S2.keep b o e (.inl rfl)
  have s3 : Same H2 H3 := fun b o e => S3.keep b o e (.inl rfl)
  have s4 : Same H3 H4 := fun b o e => S4.keep b o e (.inl rfl)
  obtain ⟨e3, e4⟩ := S2.env rfl
  obtain ⟨e5, e6⟩ := S3.env rfl
  obtain ⟨e7, e8⟩ := S4.env rfl
  have q := (((r1.da R).same s2).same s3).same s4
  obtain ⟨a', xs, ds, rfl, e, qs, h4⟩ := q.lstInv h4
  refine ⟨a', xs, rfl, e, hw, fun p hp => ?_⟩
  have S := ((r1.stp.trans S2).trans S3).trans S4
  refine k _ _ _ δ4 fp4 [p] (RE.tree R R4 S (same_new hp _) (one_new hp) (one_nd p) (Own.list hp ((qs.pick l u w).wide fun a l _ => ?_))) h4
  rw [e8, e6, e4]
  exact l
noncomputable def stepOf (d : PyData) (lo hi st : Option Int) : Option OT := match d with | .list ds => if st = some 0 then none else some (.nd ((pickG ds lo hi st).map OT.fz)) | _ => none
noncomputable def fStep (e : FE) (lo hi st : FO) : FE := fun δ => (e δ).bind fun p => (lo p.2).bind fun q => (hi q.2).bind fun r => (st r.2).bind fun t => (stepOf p.1.data q.1 r.1 t.1).bind fun o => some (o, t.2)
theorem fe_step {lo hi st : FO} (h : ME X io p c e (mStep (o2 fa) (o2 lo) (o2 hi) (o2 st))) : ME X io p c e (o2 (fStep fa lo hi st)) := h.weak fun δ K h => by
  obtain ⟨r, δ', h, k⟩ := h
  obtain ⟨⟨x, δ1⟩, h1, h⟩ := bs h
  obtain ⟨⟨y, δ2⟩, h2, h⟩ := bs h
  obtain ⟨⟨z, δ3⟩, h3, h⟩ := bs h
  obtain ⟨⟨t, δ4⟩, h4, h⟩ := bs h
  obtain ⟨o, h5, h⟩ := bs h
  cases h
  refine ⟨x, δ1, h1, y, δ2, h2, z, δ3, h3, t, δ4, h4, ?_⟩
  unfold stepOf at h5
  dsimp only at h5 ⊢
  split at h5
  · rename_i q
    split at h5
    · cases h5
    · rename_i n
      cases h5
      refine ⟨n, ?_⟩
      rw [show x.data = _ from q]
      exact k
  · cases h5
end
theorem fm_congr {α β : Type} {f g : α → Option β} : ∀ {l : List α}, (∀ k ∈ l, f k = g k) → l.filterMap f = l.filterMap g
  | [], _ => rfl
  | a :: l, h => by
    rw [List.filterMap_cons, List.filterMap_cons, h a (by simp), fm_congr fun k hk => h k (by simp [hk])]
theorem pickG_rev {α : Type} (xs : List α) : pickG xs none none (some (-1)) = xs.reverse := by
  unfold pickG sliceRange sliceBounds
  simp only [Option.getD_some]
  have d0 : ¬ ((-1 : Int) > 0) := by decide
  simp only [if_neg d0]
  have hc : (if (xs.length : Int) - 1 > -1 then ((xs.length : Int) - 1 - -1 - -1 - 1) / (- -1) else 0) = (xs.length : Int) := by
    split
    · simp
    · omega
  rw [hc, List.filterMap_map, Int.toNat_natCast]
  apply List.ext_getElem?
  intro i
  have hf : List.filterMap ((fun x => xs[x]?) ∘ fun k : Nat => ((xs.length : Int) - 1 + -1 * (k : Int)).toNat) (List.range xs.length) = xs.reverse := by
    have : ∀ k ∈ List.range xs.length, ((fun x => xs[x]?) ∘ fun k : Nat => ((xs.length : Int) - 1 + -1 * (k : Int)).toNat) k = xs.reverse[k]? := fun k hk => by
      have hk := List.mem_range.mp hk
      show xs[((xs.length : Int) - 1 + -1 * (k : Int)).toNat]? = _
      rw [List.getElem?_reverse hk]
      congr 1
      omega
    rw [fm_congr this]
    have gen : ∀ (ys : List α) (m : Nat), m = ys.length → List.filterMap (fun k => ys[k]?) (List.range m) = ys := by
      intro ys
      induction ys with
      | nil => intro m hm; subst hm; rfl
      | cons y ys ih =>
        intro m hm
        subst hm
        rw [List.length_cons, List.range_succ_eq_map, List.filterMap_cons]
        simp only [List.getElem?_cons_zero, List.filterMap_map]
        exact congrArg _ (ih _ rfl)
    exact gen _ _ (by simp)
  rw [hf]
end L2
namespace L2
open PySem PySem.Spec PyProof.Rows
section
variable {X : Cx} {io : List Nat} {c1 c2 c3 c4 p : Bool} {a b e d : Expr} {ma mb mc md : MEt} {pos : Pos} {f g h : Int → Int → Bool} {ta tb tc td : TE} {fa fb fc fd : FE} {G : PySem.W.Frag}
end
end L2
namespace L2
open PySem PySem.Spec PyProof.Rows
variable {G : PySem.W.Frag}
section
variable {X : Cx} {io : List Nat} {p c : Bool} {a b e : Expr} {mr : MAt} {ra : FA} {i : Nat}
noncomputable def isFn (y : Str) (d : PyData) : Bool := match d with | .dict [(.str x, .bool true)] => decide (x = y) | _ => false
end
section
variable {X : Cx} {io : List Nat} {p c : Bool} {a : Expr} {mr : MAt} {ra : FA}
end
end L2
namespace L2
open PySem PySem.Spec PyProof.Rows
variable {G : PySem.W.Frag}
noncomputable def ItB (t : Bool) (h : Heap) (it a : Addr) (i : Nat) : Prop := match t with | true => IsTupIter h it a i | false => h.IsListIter it a i
theorem ItB.at {t : Bool} {h h' : Heap} {it a : Addr} {i : Nat} (x : ItB t h it a i) (k : ∀ o, h.get? it = some o → h'.get? it = some o) : ItB t h' it a i := by
  cases t with
  | false => exact Heap.IsListIter.at x k
  | true =>
    obtain ⟨o, ho, r⟩ := x
    exact ⟨o, k o ho, r⟩
section
variable {P : Program} {w : World}
end
section
variable {X : Cx} {io : List Nat} {p c : Bool} {a b : Expr} {mr : MAt} {ra : FA}
end
end L2
namespace L2
open PySem PySem.Spec PyProof.Rows PySem.W
noncomputable def kGood {α : Type} (n : Nat) (P : α → Prop) : KasT α → Prop
  | .ret a => P a
  | .ask i j k => i < n ∧ j < n ∧ ∀ b, kGood n P (k b)
theorem kGood.bind {α β : Type} {n : Nat} {P : α → Prop} {R : β → Prop} {f : α → KasT β} (hf : ∀ a, P a → kGood n R (f a)) {t : KasT α} (h : kGood n P t) : kGood n R (t.bind f) := by
  induction t with
  | ret a => exact hf a h
  | ask i j k ih => exact ⟨h.1, h.2.1, fun b => ih b (h.2.2 b)⟩
noncomputable def kP (n : Nat) (p : Array Nat) : Prop := p.toList.Perm (List.range n)
theorem kP.at {n : Nat} {p : Array Nat} (h : kP n p) (h0 : 0 < n) (i : Nat) : p.getD i 0 < n := by
  by_cases c : i < p.size
  · have e : p.getD i 0 = p[i] := by simp [Array.getD, c]
    rw [e]
    exact List.mem_range.mp (h.mem_iff.mp (Array.getElem_mem_toList c))
  · have e : p.getD i 0 = 0 := by simp [Array.getD, c]
    rw [e]; exact h0
end L2
namespace L2
open PySem PySem.Spec PyProof.Rows PySem.W PySem.SeqAt
open AutoSeq1 (wpAny_loadPart')
open MeetsSeq MeetsSeq2 MeetsSeq3 SeqRoads2
section
variable {prog : Program} {w : World} {A : Around} {E : Value → Shared → Prop} {s : Shared}
end
section
variable {prog : Program} {w : World} {A : Around} {E : Value → Shared → Prop} {s : Shared}
end
end L2
namespace L2
open PySem PySem.Spec PyProof.Rows PySem.W
section
variable {prog : Program} {w : World} {A : Around} {E : Value → Shared → Prop} {s : Shared}
end
end L2
namespace L2
open PySem PySem.Spec PyProof.Rows PySem.W
variable {G : PySem.W.Frag}
structure SKey {α : Type} (kd : PyData → Option α) (lt : α → α → Bool) : Prop where
  lay : ∀ d k, kd d = some k → d.canLay0 = true
  run : ∃ κ : SortKind, (∀ (prog : Program) (w : World) (A : Around) (E : Value → Shared → Prop) (s : Shared) (vs : List Value) (ds : List PyData) (as : List Addr) (Q : SortKind → Shared → Prop), 2 ≤ vs.length → ReadsAll s.heap vs ds as → (∀ d ∈ ds, ∃ k, kd d = some k) → Q κ s → wpAny (model prog w) A (keyKind' vs.toArray) Q E s) ∧
    ∀ (prog : Program) (w : World) (A : Around) (E : Value → Shared → Prop) (s : Shared) (u v : Value) (d e : PyData) (as bs : List Addr) (k m : α) (C : Bool → Shared → Prop), A.units + 32 < cLine → Reads s.heap u d as → Reads s.heap v e bs → kd d = some k → kd e = some m → C (lt k m) s → wpAny (model prog w) A (keyLt' κ u v) C E s
theorem lay_ints (ns : List Int) : Sh 1 (.list (ns.map PyData.int)) := sh_list fun d m => by
  obtain ⟨x, _, rfl⟩ := List.mem_map.mp m
  exact sh_int x
theorem eqv_intsL (a b : List Int) : PyData.eqv (.list (a.map PyData.int)) (.list (b.map PyData.int)) = decide (a = b) := by
  have p : ∀ l : List Int, plainD (.list (l.map PyData.int)) = true := fun l => by rw [plainD]; induction l with | nil => rfl | cons x l ih => exact ih
  have inj : ∀ {l m : List Int}, PyData.list (l.map PyData.int) = .list (m.map PyData.int) → l = m := fun h => by
    injection h with h
    exact (List.map_inj_right fun x y z => by injection z).mp h
  by_cases c : a = b
  · rw [eqv_eq (p a) (p b) (by rw [c]), decide_eq_true c]
  · rw [eqv_ne (p a) (p b) fun z => c (inj z), decide_eq_false c]
end L2
namespace L2
open PySem PySem.Spec PyProof.Rows PySem.W
variable {G : PySem.W.Frag}
noncomputable def lk {α : Type} (kd : PyData → Option α) (lt : α → α → Bool) (es : List PyData) : Nat → Nat → Bool := fun i j => ((kd (es.getD i .none)).bind fun a => (kd (es.getD j .none)).map fun b => lt a b).getD false
section
variable {X : Cx} {α : Type} {kd : PyData → Option α} {lt : α → α → Bool}
end
end L2
namespace L2
open PySem PySem.Spec PyProof.Rows
variable {G : PySem.W.Frag}
end L2
namespace L2
open PySem PySem.Spec PyProof.Rows
section
variable {X : Cx} {tg : Expr} {io : List Nat} {p c : Bool} {a b d e : Expr} {mr : MAt} {ra : FA}
end
end L2
namespace L2
open PySem PySem.Spec PyProof.Rows
section
variable {prog : Program} {w : World} {A : Around} {R : Result → Shared → Prop} {I : Addr} {fp wr : List Addr} {n : Nat} {P : Nat → Value → Prop} {St : Nat → Heap → Prop}
end
section
variable {prog : Program} {w : World} {A : Around} {E : Value → Shared → Prop} {s : Shared}
end
section
variable {X : Cx} {p c : Bool} {io : List Nat} {e kw : Expr} {pp pos kp : Pos} {t : TA} {mr : MAt}
end
end L2
namespace L2
open PySem PySem.Spec PyProof.Rows
noncomputable def tbl (P : List Nat) (led : Bool) : SetTable := { mask := 7, place := P.toArray, dummies := #[], finger := 0, led, moves := 0, plain := true }
noncomputable def hT (k : List Int) : Int := reduceHash (Builtin.Tuple.tupleHashOf (k.map hashInt))
noncomputable def hAt (ks : List (List Int)) (i : Nat) : Int := (ks[i]?.map hT).getD 0
noncomputable def putT (P : List Nat) (j : Nat) : List Nat := ((tbl P false).put j).1.place.toList
noncomputable def putI (P : List Nat) (j : Nat) : Nat := ((tbl P false).put j).2
noncomputable def insL (ks : List (List Int)) (p : Nat) (k : List Int) : List (List Int) := ks.take p ++ k :: ks.drop p
noncomputable def addT (P : List Nat) (ks : List (List Int)) (k : List Int) : Option (List Nat × List (List Int)) :=
  match (tbl P false).probe (hAt ks) (hT k) ((tbl P false).probeStart (hT k)) with
  | some (.empty j none) => if (tbl (putT P j) false).tooFull = false ∧ (putT P j).length = ks.length + 1 ∧ ks.length ≤ 6 ∧ putI P j ≤ ks.length then some (putT P j, insL ks (putI P j) k) else none
  | some (.candidate _ i _) => if ks[i]? = some k then some (P, ks) else none
  | _ => none
noncomputable def grow (K : List (List Int)) : Nat → List (List Nat × List (List Int)) → List (List Nat × List (List Int))
  | 0, S => S
  | n + 1, S => grow K n (S ++ (S.flatMap fun s => K.filterMap fun k => addT s.1 s.2 k).filter fun s => !S.contains s)
noncomputable def K2 : List (List Int) := [[0, 0], [0, 1], [1, 0], [1, 1]]
noncomputable def S2 : List (List Nat × List (List Int)) := (grow K2 4 [([], [])]).eraseDups
section
variable {prog : Program} {w : World} {A : Around} {E : Value → Shared → Prop} {s : Shared}
inductive KeysIn (U : Addr → List Int → Prop) : List (List Int) → List (Int × Value) → Prop
  | nil : KeysIn U [] []
  | cons {k : List Int} {a : Addr} {ks : List (List Int)} {l : List (Int × Value)} (h : U a k) (t : KeysIn U ks l) : KeysIn U (k :: ks) ((hT k, .ref a) :: l)
theorem KeysIn.hash {U : Addr → List Int → Prop} {ks : List (List Int)} {l : List (Int × Value)} (h : KeysIn U ks l) : l.map (·.1) = ks.map hT := by
  induction h with
  | nil => rfl
  | cons _ _ ih => rw [List.map_cons, List.map_cons, ih]
noncomputable abbrev IK (prog : Program) (w : World) (h : Heap) (k : List Int) (a : Addr) : Prop := IsTupleKey (intKind prog w) h k a
theorem items_int {ks : List Int} {vs : List Value} (h : ItemsAre (intKind prog w) ks vs) : ∀ v ∈ vs, ∃ i t, v = .int i t := by
  induction h with
  | nil => exact fun _ m => nomatch m
  | cons h _ ih =>
    intro v hv
    rcases List.mem_cons.mp hv with rfl | hv
    · obtain ⟨t, e⟩ := Value.isInt_shape h
      exact ⟨_, t, e⟩
    · exact ih v hv
theorem KeysIn.at {U : Addr → List Int → Prop} {ks : List (List Int)} {es : Array (Int × Value)} (h : KeysIn U ks es.toList) (i : Nat) : (es[i]?.map (·.1)).getD 0 = hAt ks i := by
  unfold hAt
  rw [← List.getElem?_map, ← h.hash, List.getElem?_map, Array.getElem?_toList]
end
section
variable {prog : Program} {w : World} {A : Around} {R : Result → Shared → Prop} {I : Addr} {fp wr : List Addr} {n : Nat} {Pv : Nat → Value → Prop} {St : Nat → Heap → Prop}
end
end L2
namespace L2
open PySem PySem.Spec PyProof.Rows
section
variable {prog : Program} {w : World} {A : Around} {E : Value → Shared → Prop} {s : Shared}
end
end L2
namespace L2
open PySem PySem.Spec PyProof.Rows
inductive Tups (H : Hp) : List V → List (List Int) → Prop
  | nil : Tups H [] []
  | cons {a : Addr} {k : List Int} {xs : List V} {ks : List (List Int)} (h : H a = some (.tup (k.map V.int))) (t : Tups H xs ks) : Tups H (.ref a :: xs) (k :: ks)
section
variable {X : Cx} {p c : Bool} {io : List Nat} {a e : Expr} {pos pos' pl pr : Pos} {t : TA} {mr : MAt} {ra : FA}
end
end L2
namespace L2
open PySem PySem.Spec PyProof.Rows
section
variable {G : PySem.W.Frag} {io : List Nat} {p pt pe : Bool} {own : List Str} {caps : List Nat} {g : MGt} {mt : MTt} {me : MEt} {i : Nat}
end
section
variable {X : Cx} {io : List Nat} {p pt pe : Bool} {own : List Str} {caps : List Nat} {N' : List Str} {sc : Scope} {i : Nat} {x : Str} {px : Pos} {tg elt : Expr} {ifs : List Expr} {g : MGt} {mt : MTt} {me : MEt} {pos : Pos}
end
end L2
namespace L2
open PySem PySem.Spec PyProof.Rows
section
variable {X : Cx} {G : PySem.W.Frag}
end
end L2
namespace L2
open PySem PySem.Spec PyProof.Rows
noncomputable abbrev IsTri (h : Heap) (T : Addr) (a b c : Value) : Prop := h.get? T = some { cls := .type "tuple", data := .seq #[a, b, c] }
structure Z3A (z TI TO i1 i2 i3 : Addr) (f1 f2 f3 : List Addr) : Prop where
  TIz : TI ≠ z
  TOz : TO ≠ z
  a1 : ∀ c ∈ f1, c ≠ z ∧ c ≠ TO ∧ c ≠ i2 ∧ c ≠ i3
  a2 : ∀ c ∈ f2, c ≠ z ∧ c ≠ TO ∧ c ≠ i1 ∧ c ≠ i3
  a3 : ∀ c ∈ f3, c ≠ z ∧ c ≠ TO ∧ c ≠ i1 ∧ c ≠ i2
section
variable {P : Program} {w : World} {A : Around} {E : Value → Shared → Prop} {s : Shared}
end
noncomputable abbrev z3A (h : Heap) (a : Addr) : Heap := h.push { cls := .type "list_iterator", data := .fields #[.ref a, .int 0 0] }
noncomputable abbrev z3B (h : Heap) (a b : Addr) : Heap := z3A (z3A h a) b
noncomputable abbrev z3C (h : Heap) (a b c : Addr) : Heap := z3A (z3B h a b) c
noncomputable abbrev z3D (h : Heap) (a b c : Addr) : Heap := (z3C h a b c).push { cls := .type "tuple", data := .seq #[.ref h.objs.size, .ref (z3A h a).objs.size, .ref (z3B h a b).objs.size] }
noncomputable abbrev z3E (h : Heap) (a b c : Addr) : Heap := (z3D h a b c).push { cls := .type "tuple", data := .seq #[.none, .none, .none] }
noncomputable abbrev z3F (h : Heap) (a b c : Addr) : Heap := (z3E h a b c).push { cls := .type "zip", data := .fields #[.none, .bool false, .bool false, .ref (z3C h a b c).objs.size, .ref (z3D h a b c).objs.size] }
section
variable {P : Program} {w : World} {A : Around} {E : Value → Shared → Prop} {s : Shared}
end
section
variable {X : Cx} {io : List Nat} {p c : Bool} {a b e : Expr} {mr : MAt} {ra : FA}
end
end L2
namespace L2
open PySem PySem.Spec PyProof.Rows
variable {G : PySem.W.Frag}
end L2
namespace L2
open PySem PySem.Spec PyProof.Rows
variable {G : PySem.W.Frag}
section
variable {X : Cx} {io : List Nat} {p c : Bool} {e : Expr} {m : MEt} {pos apos cpos px : Pos} {i : Nat} {x : Str} {st : Stmt} {fa : FE}
end
end L2
namespace L2
open PySem PySem.Spec PyProof.Rows
noncomputable def Up (xs : List Nat) : Prop := xs.Pairwise (· < ·)
theorem up_lt {xs : List Nat} (h : Up xs) {i j : Nat} {a b : Nat} (ha : xs[i]? = some a) (hb : xs[j]? = some b) (l : i < j) : a < b := by
  obtain ⟨hi, rfl⟩ := List.getElem?_eq_some_iff.mp ha
  obtain ⟨hj, rfl⟩ := List.getElem?_eq_some_iff.mp hb
  exact List.pairwise_iff_getElem.mp h i j hi hj l
theorem getD_at {xs : Array Nat} {i d : Nat} (h : i < xs.size) : xs.toList[i]? = some (xs.getD i d) := by
  rw [Array.getElem?_toList, Array.getElem?_eq_getElem h, Array.getD, dif_pos h]; rfl
theorem below_go {xs : Array Nat} {j : Nat} (up : Up xs.toList) : ∀ (fuel lo hi : Nat), hi - lo ≤ fuel → lo ≤ hi → hi ≤ xs.size → (∀ i a, i < lo → xs.toList[i]? = some a → a < j) → (∀ i a, hi ≤ i → xs.toList[i]? = some a → j ≤ a) →
    ∃ p, SetTable.below.go xs j fuel lo hi = p ∧ p ≤ xs.size ∧ (∀ i a, i < p → xs.toList[i]? = some a → a < j) ∧ ∀ i a, p ≤ i → xs.toList[i]? = some a → j ≤ a := by
  intro fuel
  induction fuel with
  | zero =>
    intro lo hi f l z h1 h2
    have e : lo = hi := by omega
    exact ⟨lo, rfl, by omega, h1, fun i a q => h2 i a (by omega)⟩
  | succ fuel ih =>
    intro lo hi f l z h1 h2
    rw [SetTable.below.go]
    by_cases c : lo < hi
    · rw [if_pos c]
      have hm : (lo + hi) / 2 < xs.size := by omega
      have em := getD_at (xs := xs) (d := j) hm
      by_cases q : xs.getD ((lo + hi) / 2) j < j
      · simp only [if_pos q]
        refine ih _ _ (by omega) (by omega) z (fun i a li ea => ?_) h2
        by_cases e : i = (lo + hi) / 2
        · subst e
          rw [em] at ea
          cases ea
          exact q
        · exact Nat.lt_trans (up_lt up ea em (by omega)) q
      · simp only [if_neg q]
        refine ih _ _ (by omega) (by omega) (by omega) h1 fun i a li ea => ?_
        by_cases e : i = (lo + hi) / 2
        · subst e
          rw [em] at ea
          cases ea
          omega
        · have := up_lt up em ea (by omega)
          omega
    · rw [if_neg c]
      have e : lo = hi := by omega
      exact ⟨lo, rfl, by omega, h1, fun i a q => h2 i a (by omega)⟩
theorem below_ok {xs : Array Nat} (up : Up xs.toList) (j : Nat) : SetTable.below xs j ≤ xs.size ∧ (∀ i a, i < SetTable.below xs j → xs.toList[i]? = some a → a < j) ∧ ∀ i a, SetTable.below xs j ≤ i → xs.toList[i]? = some a → j ≤ a := by
  obtain ⟨p, e, h⟩ := below_go (j := j) up xs.size 0 xs.size (by omega) (Nat.zero_le _) (Nat.le_refl _) (fun i a q => absurd q (Nat.not_lt_zero _)) fun i a q ea => by
    have := (List.getElem?_eq_some_iff.mp ea).1
    rw [Array.length_toList] at this
    omega
  unfold SetTable.below
  rw [e]; exact h
theorem below_next {xs : Array Nat} (up : Up xs.toList) {i a : Nat} (h : xs.toList[i]? = some a) : SetTable.below xs (a + 1) = i + 1 := by
  obtain ⟨b0, b1, b2⟩ := below_ok up (a + 1)
  have hi := (List.getElem?_eq_some_iff.mp h).1
  rw [Array.length_toList] at hi
  rcases Nat.lt_trichotomy (SetTable.below xs (a + 1)) (i + 1) with c | c | c
  · have := b2 i a (by omega) h
    omega
  · exact c
  · have hs : i + 1 < xs.toList.length := by rw [Array.length_toList]; omega
    have e1 := List.getElem?_eq_getElem hs
    have := b1 (i + 1) _ c e1
    have := up_lt up h e1 (Nat.lt_succ_self _)
    omega
theorem below_zero {xs : Array Nat} (up : Up xs.toList) : SetTable.below xs 0 = 0 := by
  obtain ⟨b0, b1, _⟩ := below_ok up 0
  cases e : SetTable.below xs 0 with
  | zero => rfl
  | succ k =>
    rw [e] at b0 b1
    have hs : 0 < xs.toList.length := by rw [Array.length_toList]; omega
    exact absurd (b1 0 _ (Nat.zero_lt_succ _) (List.getElem?_eq_getElem hs)) (Nat.not_lt_zero _)
theorem up_ins {xs : List Nat} (up : Up xs) {p j : Nat} (h1 : ∀ i a, i < p → xs[i]? = some a → a < j) (h2 : ∀ i a, p ≤ i → xs[i]? = some a → j < a) : Up (xs.take p ++ j :: xs.drop p) := by
  refine List.pairwise_append.mpr ⟨up.sublist (List.take_sublist ..), List.pairwise_cons.mpr ⟨fun a ha => ?_, up.sublist (List.drop_sublist ..)⟩, fun a ha b hb => ?_⟩
  · obtain ⟨i, hi⟩ := List.getElem?_of_mem ha
    rw [List.getElem?_drop] at hi
    exact h2 _ a (Nat.le_add_right _ _) hi
  · obtain ⟨i, hi⟩ := List.getElem?_of_mem ha
    have ip : i < p := by
      have := (List.getElem?_eq_some_iff.mp hi).1
      rw [List.length_take] at this
      omega
    rw [List.getElem?_take_of_lt ip] at hi
    have aj := h1 i a ip hi
    rcases List.mem_cons.mp hb with rfl | hb
    · exact aj
    · obtain ⟨k, hk⟩ := List.getElem?_of_mem hb
      rw [List.getElem?_drop] at hk
      exact Nat.lt_trans aj (h2 _ b (Nat.le_add_right _ _) hk)
noncomputable def notLive (t : SetTable) (j : Nat) : Prop := t.place[SetTable.below t.place j]? ≠ some j
structure Tb (b : Bool) (t : SetTable) : Prop where
  led : t.led = b
  up : t.plain = true → Up t.place.toList
theorem slot_not {t : SetTable} {j : Nat} (h : t.slot j = .empty ∨ t.slot j = .dummy) : notLive t j := fun z => by
  have : t.slot j = .live (SetTable.below t.place j) := by
    unfold SetTable.slot
    rw [if_pos (beq_iff_eq.mpr z)]
  rcases h with h | h <;> rw [this] at h <;> cases h
theorem probe_not {t : SetTable} {f : Nat → Int} {h : Int} : ∀ (fuel : Nat) (p : SetTable.Probe), (∀ d, p.dummy = some d → notLive t d) → ∀ j dm, SetTable.probe.go t f h fuel p = some (.empty j dm) → notLive t j ∧ ∀ d, dm = some d → notLive t d := by
  intro fuel
  induction fuel with
  | zero => intro p _ j dm e; cases e
  | succ fuel ih =>
    have adv : ∀ q : SetTable.Probe, (t.advance q).dummy = q.dummy := fun q => by
      unfold SetTable.advance
      split <;> rfl
    intro p hp j dm e
    rw [SetTable.probe.go] at e
    split at e
    · rename_i c
      cases e
      exact ⟨slot_not (.inl c), hp⟩
    · rename_i c
      refine ih _ (fun d hd => ?_) j dm e
      rw [adv] at hd
      cases hd
      exact slot_not (.inr c)
    · split at e
      · cases e
      · exact ih _ (fun d hd => hp d (by rw [adv] at hd; exact hd)) j dm e
theorem free_not {t : SetTable} {h : Int} {j : Nat} {d : Bool} (e : t.freeSlot h = some (j, d)) : notLive t j := by
  unfold SetTable.freeSlot at e
  split at e
  · rename_i j' dm q
    cases e
    obtain ⟨h1, h2⟩ := probe_not _ _ (fun d hd => by cases hd) _ _ q
    cases dm with
    | none => exact h1
    | some d => exact h2 d rfl
  · cases e
theorem put_up {t : SetTable} {j : Nat} (up : Up t.place.toList) (n : notLive t j) : Up (t.put j).1.place.toList := by
  show Up (SetTable.insertAt t.place (SetTable.below t.place j) j).toList
  obtain ⟨b0, b1, b2⟩ := below_ok up j
  rw [SetTable.toList_insertAt]
  refine up_ins up b1 fun i a l ea => ?_
  have ja := b2 i a l ea
  rcases Nat.lt_or_ge j a with c | c
  · exact c
  · have e : a = j := by omega
    subst e
    exfalso
    rcases Nat.lt_or_ge (SetTable.below t.place a) i with c2 | c2
    · have hs : SetTable.below t.place a < t.place.toList.length := Nat.lt_trans c2 (List.getElem?_eq_some_iff.mp ea).1
      have e1 := List.getElem?_eq_getElem hs
      have := up_lt up e1 ea c2
      have := b2 _ _ (Nat.le_refl _) e1
      omega
    · have e : i = SetTable.below t.place a := by omega
      subst e
      exact n (by rw [← Array.getElem?_toList]; exact ea)
theorem Tb.stand {b : Bool} {t : SetTable} (h : Tb b t) (n : Nat) : Tb b (t.standIn n) := ⟨h.led, fun z => nomatch z⟩
theorem Tb.lay {b : Bool} {t : SetTable} (h : Tb b t) (es : Array (Int × Value)) (k : Int) (x : Value) : Tb b (layNew t es k x).2.1 := by
  unfold layNew
  split
  · rename_i j d e
    dsimp only
    unfold SetTable.orStandIn
    split
    · exact ⟨h.led, fun z => put_up (h.up z) (free_not e)⟩
    · exact ⟨h.led, fun z => nomatch z⟩
  · exact h.stand _
theorem live_up (f : Nat → Option Nat) (n : Nat) : Up (((List.range n).filterMap fun j => (f j).map (j, ·)).map (·.1)) := by
  have e : ∀ l : List Nat, ((l.filterMap fun j => (f j).map (j, ·)).map (·.1)).Sublist l := fun l => by
    induction l with
    | nil => exact .slnil
    | cons a l ih =>
      rw [List.filterMap_cons]
      cases f a with
      | none => exact ih.cons a
      | some v => exact ih.cons_cons a
  exact List.Pairwise.sublist (e _) List.pairwise_lt_range
theorem Tb.relay {b : Bool} {t : SetTable} (h : Tb b t) (es : Array (Int × Value)) (n : Nat) : Tb b (relayAll t es n).2.1 := by
  unfold relayAll
  split
  · rename_i t' order e
    dsimp only
    split
    · unfold SetTable.relaid SetTable.laid at e
      obtain ⟨ow, _, e⟩ := Option.bind_eq_some_iff.mp e
      cases e
      exact ⟨h.led, fun _ => live_up _ _⟩
    · exact h.stand _
  · exact h.stand _
end L2
namespace L2
open PySem PySem.Spec PyProof.Rows
noncomputable def vI : Value → Int
  | .int k _ => k
  | _ => 0
noncomputable def SetI (prog : Program) (w : World) (b : Bool) (h : Heap) (S : Addr) (ks : List Int) : Prop :=
  ∃ o es ep t, h.get? S = some o ∧ o.ExactSet ∧ o.data = .set es ep t ∧ ElemsOf (intKind prog w) es.toList ∧ es.size < scanBound ∧ t.fits es.size = true ∧ Tb b t ∧ es.toList.map (fun e => vI e.2) = ks
section
variable {prog : Program} {w : World} {A : Around} {E : Value → Shared → Prop} {s : Shared} {b : Bool}
theorem is_int {k : Int} {v : Value} (h : (intKind prog w).is k v = true) : ∃ t, v = .int k t := by
  cases v <;> simp_all [intKind, Value.isInt]
theorem SetI.stay {h h' : Heap} {S : Addr} {ks : List Int} (hS : SetI prog w b h S ks) (k : ∀ o, h.get? S = some o → h'.get? S = some o) : SetI prog w b h' S ks := by
  obtain ⟨o, es, ep, t, ho, r⟩ := hS
  exact ⟨o, es, ep, t, k o ho, r⟩
theorem SetI.put {h : Heap} {S : Addr} {o : Obj} {es es' : Array (Int × Value)} {ep : Nat} {t t' : SetTable} (ho : h.get? S = some o) (hex : o.ExactSet) (hd : o.data = .set es ep t) (he : ElemsOf (intKind prog w) es'.toList) (hb : es'.size < scanBound) (hf : t'.fits es'.size = true) (ht : Tb b t') :
    (h.update S (Obj.putSet es' t')).get? S = some { o with data := .set es' (ep + 1) t' } ∧ SetI prog w b (h.update S (Obj.putSet es' t')) S (es'.toList.map fun e => vI e.2) := by
  have g := Heap.get?_update_self (Obj.putSet es' t') ho (by rw [putSet_of es' t' hd]; rfl)
  rw [putSet_of es' t' hd] at g
  exact ⟨g, _, es', ep + 1, t', g, hex, rfl, he, hb, hf, ht, rfl⟩
theorem tail_I {g : Bool → Sem Unit} (hg : ∀ (c : Bool) (s₁ : Shared) (Q' : Unit → Shared → Prop), Q' () s₁ → wpAny (model prog w) A (g c) Q' E s₁) {S : Addr} {o : Obj} {es es1 : Array (Int × Value)} {ep : Nat} {t t1 : SetTable} {wasDummy : Bool} {R : Option Bool → Shared → Prop}
    (ho : s.heap.get? S = some o) (hex : o.ExactSet) (hd : o.data = .set es ep t) (he : ElemsOf (intKind prog w) es1.toList) (hb : es1.size < scanBound) (hf : t1.fits es1.size = true) (ht : Tb b t1)
    (q : ∀ h' ks', Heap.SameBut S s.heap h' → SetI prog w b h' S ks' → ks'.Perm (es1.toList.map fun e => vI e.2) → R (some true) { s with heap := h' }) :
    wpAny (model prog w) A (do
        storeSet S es1 t1
        if (!wasDummy && t1.tooFull) = true then do
            g (relayAll t1 es1 (SetTable.grown es1.size)).2.2
            storeSet S (relayAll t1 es1 (SetTable.grown es1.size)).1 (relayAll t1 es1 (SetTable.grown es1.size)).2.1
            pure (some true)
          else pure (some true)) R E s := by
  refine wpAny_bind (wpAny_storeSet_of ho hd ?_ (fits_of_scanBound hb))
  obtain ⟨g1, S1⟩ := SetI.put (b := b) ho hex hd he hb hf ht
  split
  · have pm := relayAll_perm t1 es1 (SetTable.grown es1.size)
    have ff := relayAll_fits t1 es1 (SetTable.grown es1.size)
    have tt := ht.relay es1 (SetTable.grown es1.size)
    generalize relayAll t1 es1 (SetTable.grown es1.size) = Rl at pm ff tt ⊢
    obtain ⟨es2, t3, gv⟩ := Rl
    have sz : es2.size = es1.size := by rw [← Array.length_toList, pm.length_eq, Array.length_toList]
    have b2 : es2.size < scanBound := by rw [sz]; exact hb
    refine wpAny_bind (hg _ _ _ (wpAny_bind (wpAny_storeSet_of g1 rfl ?_ (fits_of_scanBound b2))))
    obtain ⟨_, S2⟩ := SetI.put (b := b) g1 hex rfl (he.perm pm) b2 ff tt
    exact wpAny_pure (q _ _ ((Heap.SameBut.update s.heap S _).trans (Heap.SameBut.update _ S _)) S2 (pm.map _))
  · exact wpAny_pure (q _ _ (Heap.SameBut.update s.heap S _) S1 (.refl _))
theorem add_I {S : Addr} {ks : List Int} {k : Int} {u : Tok} {Q : Bool → Shared → Prop} (hS : SetI prog w b s.heap S ks) (hr : ks.length + 1 < scanBound)
    (q : ∀ v h' tk ks', Heap.SameBut S s.heap h' → SetI prog w b h' S ks' → (k ∈ ks → ks' = ks) → (k ∉ ks → ks'.Perm (ks ++ [k])) → Q v { s with heap := h', toks := tk }) : wpAny (model prog w) A (setAdd S (.int k u)) Q E s := by
  have hS0 := hS
  obtain ⟨o, es, ep, t, ho, hex, hd, he, hb, hf, ht, rfl⟩ := hS
  unfold setAdd
  refine wpAny_holding (wpAny_bind ((intKind prog w).pyHash (k := k) (intKind_is _ _ _ _) ?_))
  show wpAny _ _ (setAddHashed S (.int k u) ((intKind prog w).hash k)) Q E { s with toks := s.toks + 1 }
  unfold setAddHashed setAddHashedIn
  refine wpAny_holding (wpAny_bind (wpAny_setState_of (s := { s with toks := s.toks + 1 }) ho hd hf ?_))
  dsimp only
  rw [byScan_of (x := .int k u) rfl hb he, if_pos rfl]
  unfold setAddByScan
  refine wpAny_bind (wpAny_bind (wpAny_rule (wpAny_bind (wpAny_setScan_of (s := { s with toks := s.toks + 1 }) (intKind_is prog w k u) ho hd hf he ?_))))
  cases hx : List.findIdx? (fun e => (intKind prog w).is k e.2) es.toList with
  | some j =>
    dsimp only
    obtain ⟨hj, pj, _⟩ := List.findIdx?_eq_some_iff_getElem.mp hx
    obtain ⟨tj, ej⟩ := is_int pj
    have hk : k ∈ es.toList.map fun e => vI e.2 := List.mem_map.mpr ⟨_, List.getElem_mem hj, by rw [ej]; rfl⟩
    exact wpAny_pure (wpAny_pure (q _ s.heap _ _ (Heap.SameBut.refl ..) hS0 (fun _ => rfl) fun z => absurd hk z))
  | none =>
    dsimp only
    have hk : k ∉ es.toList.map fun e => vI e.2 := fun z => by
      obtain ⟨e, m, ev⟩ := List.mem_map.mp z
      obtain ⟨⟨k', i1, _⟩, _⟩ := he e m
      obtain ⟨t', e2⟩ := is_int i1
      have := List.findIdx?_eq_none_iff.mp hx e m
      rw [e2] at this ev
      cases ev
      have z2 : (intKind prog w).is k' (.int k' t') = false := this
      rw [intKind_is] at z2
      cases z2
    have gw : ∀ (c : Bool) {s₁ : Shared} {Q' : Unit → Shared → Prop}, Q' () s₁ → wpAny (model prog w) A (match c with | true => rule "set.scan.the-table-gave-way" | false => pure ()) Q' E s₁ := fun c s₁ Q' z => by
      cases c <;> first | exact wpAny_pure z | exact wpAny_rule z
    have pm := layNew_perm t es ((intKind prog w).hash k) (.int k u)
    have ff := layNew_fits t es ((intKind prog w).hash k) (.int k u)
    have tt := ht.lay es ((intKind prog w).hash k) (.int k u)
    generalize layNew t es ((intKind prog w).hash k) (.int k u) = Ln at pm ff tt ⊢
    obtain ⟨es1, t1, wd, gv⟩ := Ln
    dsimp only at pm ff tt ⊢
    rw [Array.toList_push] at pm
    have he1 : ElemsOf (intKind prog w) es1.toList := (he.push (intKind_is prog w k u) rfl).perm pm
    have hb1 : es1.size < scanBound := by
      rw [← Array.length_toList, pm.length_eq, List.length_append]
      rw [List.length_map] at hr
      exact hr
    refine wpAny_bind (gw _ ?_)
    have fin : ∀ h' ks', Heap.SameBut S s.heap h' → SetI prog w b h' S ks' → ks'.Perm (es1.toList.map fun e => vI e.2) → wpAny (model prog w) A (pure true) Q E { s with heap := h', toks := s.toks + 1 } := fun h' ks' sb S' p' => wpAny_pure (q _ h' _ ks' sb S' (fun z => absurd z hk) fun _ => p'.trans (by
      have := pm.map (fun e : Int × Value => vI e.2)
      rw [List.map_append] at this
      exact this))
    have hv : hashByValue 8 (.int k u) = pure true := hashByValue_scannable 8 (x := .int k u) rfl
    split
    · refine wpAny_bind ?_
      rw [hv]
      refine wpAny_pure ?_
      simp only [if_true]
      exact tail_I (s := { s with toks := s.toks + 1 }) (by intro c s₁ Q' z; cases c <;> first | exact wpAny_pure z | exact wpAny_rule z) ho hex hd he1 hb1 ff tt fun h' ks' sb S' p' => fin h' ks' sb S' p'
    · refine wpAny_bind (wpAny_pure ?_)
      simp only [if_true]
      exact tail_I (s := { s with toks := s.toks + 1 }) (by intro c s₁ Q' z; cases c <;> first | exact wpAny_pure z | exact wpAny_rule z) ho hex hd he1 hb1 ff tt fun h' ks' sb S' p' => fin h' ks' sb S' p'
end
end L2
namespace L2
open PySem PySem.Spec PyProof.Rows
noncomputable def byT (w : World) : Bool := w.params.followText "set-order"
noncomputable def Of (ks ns : List Int) : Prop := ks.Nodup ∧ ∀ x, x ∈ ks ↔ x ∈ ns
section
variable {prog : Program} {w : World} {A : Around} {R : Result → Shared → Prop} {I : Addr} {fp wr : List Addr} {n : Nat} {Pv : Nat → Value → Prop} {St : Nat → Heap → Prop} {b : Bool}
theorem loop_I (W : Walks prog w A.in1 I fp wr n Pv St) (S : Addr) (sf : S ∉ fp) (ns : List Int) (ln : ns.length = n) (lb : n + 1 < scanBound) (hv : ∀ i v, Pv i v → ∃ k t, v = .int k t ∧ ns[i]? = some k) :
    ∀ (m i : Nat) (s : Shared) (ks : List Int), n - i = m → i ≤ n → St i s.heap → SetI prog w b s.heap S ks → Of ks (ns.take i) → ks.length ≤ i →
    (∀ h' tk ks', SetI prog w b h' S ks' → Of ks' ns → (∀ b o, b ∉ wr → b ≠ S → s.heap.get? b = some o → h'.get? b = some o) → R (.ok (.ret .none)) { s with heap := h', toks := tk }) →
    codeAny (model prog w) A (.builtin "set.update.loop" ⟨[.ref S, .ref I], []⟩) R s := by
  have sw : S ∉ wr := fun h => sf (W.sub _ h)
  intro m
  induction m with
  | zero =>
    intro i s ks em ei st hS hO lk r
    have en : i = n := by omega
    refine codeAny_builtin F.entry_set_update_loop ?_; rw [Around.under_plainId F.plain_set_update_loop _]
    show wpAny _ A.in1 (pyNext (.ref I) >>= _) _ _ _
    refine wpAny_bind (W.done s _ _ (en ▸ st) fun h' tk kp => ?_)
    show wpAny _ A.in1 (ret Value.none) _ _ { s with heap := h', toks := tk }
    rw [List.take_of_length_le (by omega)] at hO
    exact wpAny_pure (r h' tk ks (hS.stay fun o e => kp S o sw e) hO fun b o nb _ e => kp b o nb e)
  | succ m ih =>
    intro i s ks em ei st hS hO lk r
    have lt : i < n := by omega
    refine codeAny_builtin F.entry_set_update_loop ?_; rw [Around.under_plainId F.plain_set_update_loop _]
    show wpAny _ A.in1 (pyNext (.ref I) >>= _) _ _ _
    refine wpAny_bind (W.item i s _ _ lt st fun v h' tk pv st' kp => ?_)
    obtain ⟨k, t, rfl, ek⟩ := hv i v pv
    show wpAny _ A.in1 (holding [Value.int k t] (setAdd S (.int k t)) >>= _) _ _ { s with heap := h', toks := tk }
    refine wpAny_bind (wpAny_holding (add_I (s := { s with heap := h', toks := tk }) (hS.stay fun o e => kp S o sw e) (by omega) fun v h2 tk2 ks2 sb hS2 c1 c2 => ?_))
    have k2 : ∀ b o, b ≠ S → h'.get? b = some o → h2.get? b = some o := fun b o nS e => by rw [sb.2 b nS]; exact e
    have et : ns.take (i + 1) = ns.take i ++ [k] := by rw [List.take_succ, ek]; rfl
    have hO2 : Of ks2 (ns.take (i + 1)) ∧ ks2.length ≤ i + 1 := by
      by_cases c : k ∈ ks
      · rw [c1 c]
        refine ⟨⟨hO.1, fun x => ?_⟩, Nat.le_succ_of_le lk⟩
        rw [et, List.mem_append, ← hO.2, List.mem_singleton]
        exact ⟨.inl, fun m => m.elim id fun e => e ▸ c⟩
      · have pm := c2 c
        refine ⟨⟨pm.nodup_iff.mpr (List.nodup_append.mpr ⟨hO.1, List.nodup_cons.mpr ⟨(fun z => nomatch z), .nil⟩, fun a ha y hy e => c (by rw [← List.mem_singleton.mp hy, ← e]; exact ha)⟩), fun x => ?_⟩, by rw [pm.length_eq, List.length_append]; exact Nat.succ_le_succ lk⟩
        rw [pm.mem_iff, et, List.mem_append, List.mem_append, hO.2]
    refine wpAny_pure ⟨plainId_quiet F.plain_set_update_loop _, ih (i + 1) _ ks2 (by omega) lt (W.frame _ _ _ st' fun b bf o e => k2 b o (fun h : b = S => sf (by rw [← h]; exact bf)) e) hS2 hO2.1 hO2.2 fun h3 tk3 ks3 hS3 hO3 kp3 => ?_⟩
    exact r h3 tk3 ks3 hS3 hO3 fun b o nb nS e => kp3 b o nb nS (k2 b o nS (kp b o nb e))
end
section
variable {prog : Program} {w : World} {A : Around} {E : Value → Shared → Prop} {s : Shared}
theorem new_I (a : Value) {Q₁ : Value → Shared → Prop} (h : Q₁ (.ref s.heap.objs.size) { s with heap := s.heap.push { cls := .type "set", dict := none, data := .set #[] 0 (.fresh 0 0 (!byT w)) } }) :
    codeAny (model prog w) A (.call (.builtin "set.__new__") ⟨[.type "set", a], []⟩) (wants Q₁ E) s := by
  refine codeAny_of_tree ?_; show wpAny _ A.in1 (do checkBuiltinCall "set.__new__" ⟨[.type "set", a], []⟩; again (.builtin "set.__new__" ⟨[.type "set", a], []⟩)) _ _ s
  refine wpAny_bind (wpAny_of_eq (F.newCall_set_1 a) (wpAny_pure ⟨plainId_quiet F.plain_set_new _, codeAny_builtin F.entry_set_new ?_⟩)); rw [Around.under_plainId F.plain_set_new _]
  unfold Builtin.«set.__new__» Builtin.Frozenset.newClass
  have hsub := sub_set_self
  obtain ⟨hp, g, d, tk, os⟩ := s
  dsimp only
  wp_walk
  refine wpAny_askSetting (wpAny_pure ?_); dsimp only; simp only [newObj]
  exact wpAny_bind (wpAny_alloc (wpAny_pure (wpAny_pure h)))
theorem init_I {l : Addr} {its : Array Value} {ns : List Int} {b : Bool} {Q : Value → Shared → Prop} (hh : A.handled = none) (hl : s.heap.IsList l its) (ln : ns.length = its.size) (lb : its.size + 1 < scanBound) (hv : ∀ (i : Nat) (v : Value), its[i]? = some v → ∃ k t, v = Value.int k t ∧ ns[i]? = some k)
    (q : ∀ h' tk ks, SetI prog w b h' s.heap.objs.size ks → Of ks ns → (∀ b o, b < s.heap.objs.size → s.heap.get? b = some o → h'.get? b = some o) → Q .none { s with heap := h', toks := tk }) :
    wpAny (model prog w) A (Builtin.«set.__init__» ⟨[Value.ref s.heap.objs.size, Value.ref l], []⟩) (fun fin s' => ∃ v, fin = .done (.ret v) ∧ Q v s') E { s with heap := s.heap.push { cls := .type "set", dict := none, data := .set #[] 0 (.fresh 0 0 b) } } := by
  obtain ⟨ol, hol, hcl, nl, hdl⟩ := id hl
  obtain ⟨ocls, odict, odata, oslots⟩ := ol
  simp only at hcl hdl
  subst hcl hdl
  have ho' : (s.heap.push { cls := .type "set", dict := none, data := .set #[] 0 (.fresh 0 0 b) }).get? l = some { cls := .type "list", dict := odict, data := .seq its nl, slots := oslots } := Heap.get?_push_of_some _ hol
  have gS : (s.heap.push { cls := .type "set", dict := none, data := .set #[] 0 (.fresh 0 0 b) }).get? s.heap.objs.size = some { cls := .type "set", dict := none, data := .set #[] 0 (.fresh 0 0 b) } := Heap.get?_push_size _ rfl
  have hT : Shared.TypeIs { s with heap := s.heap.push { cls := .type "set", dict := none, data := .set #[] 0 (.fresh 0 0 b) } } (.ref s.heap.objs.size) "set" := ⟨_, gS, rfl⟩
  have h1 := F.sub_list_set
  have h2 := F.sub_list_frozenset
  have h3 : (Value.type "list" == Value.type "dict") = false := by decide
  have hl1 : (s.heap.push { cls := .type "set", dict := none, data := .set #[] 0 (.fresh 0 0 b) }).IsList l its := ⟨_, ho', rfl, nl, rfl⟩
  unfold Builtin.«set.__init__» noKeywords Builtin.Frozenset.updateFrom
  generalize hPI : pyIter = PI
  wp_walk
  subst hPI
  refine wpAny_pyIter_list hl1 (wpAny_bind (wpAny_runValue ?_))
  have lS : l < s.heap.objs.size := Heap.lt_size hol
  refine loop_I (b := b) (Walks.list (by simpa using hh) _ l ?hne its) s.heap.objs.size ?sf ns ln lb (fun i v hiv => hv i v hiv) its.size 0 _ [] (by omega) (Nat.zero_le _) ⟨⟨_, Heap.get?_push_size _ rfl, rfl, rfl⟩, hl1.push _⟩ ⟨_, #[], 0, _, Heap.get?_push_of_some _ gS, ⟨rfl, rfl, rfl⟩, rfl, (fun e m => nomatch m), (by decide), rfl, ⟨rfl, fun _ => .nil⟩, rfl⟩ ⟨.nil, fun x => by rw [List.take_zero]⟩ (Nat.le_refl _) ?hR
  case hne => rw [Heap.size_push]; exact Nat.ne_of_lt (Nat.lt_succ_of_lt lS)
  case sf =>
    rw [Heap.size_push]
    intro m
    rcases List.mem_cons.mp m with e | m
    · exact Nat.ne_of_lt (Nat.lt_succ_self _) e
    · exact Nat.ne_of_gt lS (List.mem_singleton.mp m)
  case hR =>
    intro h' tk ks hS hO kp
    refine wpAny_pure ?_; show wpAny _ _ (ret Value.none) _ _ { s with heap := h', toks := tk }
    refine wpAny_pure ⟨_, rfl, q h' tk ks hS hO fun b o lb e => ?_⟩
    refine kp b o (fun m => ?_) (Nat.ne_of_lt lb) (Heap.get?_push_of_some _ (Heap.get?_push_of_some _ e))
    rw [Heap.size_push] at m
    exact Nat.ne_of_lt (Nat.lt_succ_of_lt lb) (List.mem_singleton.mp m)
theorem call_setI {l : Addr} {its : Array Value} {ns : List Int} {Q : Value → Shared → Prop} (hh : A.handled = none) (hl : s.heap.IsList l its) (ln : ns.length = its.size) (lb : its.size + 1 < scanBound) (hv : ∀ (i : Nat) (v : Value), its[i]? = some v → ∃ k t, v = Value.int k t ∧ ns[i]? = some k)
    (q : ∀ h' tk ks, SetI prog w (!byT w) h' s.heap.objs.size ks → Of ks ns → (∀ b o, b < s.heap.objs.size → s.heap.get? b = some o → h'.get? b = some o) → Q (Value.ref s.heap.objs.size) { s with heap := h', toks := tk }) :
    wpAny (model prog w) A (call (.type "set") [Value.ref l]) Q E s := by
  obtain ⟨c, tl, e0⟩ := F.called_set.mro
  have e1 := F.called_set.made
  have e2 := F.called_set.sub
  refine wpAny_call (codeAny_of_tree ?_); show wpAny _ _ (callAny (.type "set") _) _ _ _
  refine wpAny_pure ⟨Code.quiet_builtin _ (by decide +kernel), codeAny_builtin F.entry_type_call ?_⟩; rw [Around.under_plain (weight_type_call_type "set" [Value.ref l] []) rfl]
  have e3 := F.called_set.notType
  have e4 := F.called_set.canCreate
  have e5 := F.typeCall_set_1 (Value.ref l)
  repeat any_goals first | assumption | wp_step
  refine codeAny_mono (new_I (Value.ref l) (E := E) (Q₁ := fun obj s1 => obj = Value.ref s.heap.objs.size ∧ s1 = { s with heap := s.heap.push { cls := .type "set", dict := none, data := .set #[] 0 (.fresh 0 0 (!byT w)) } }) ⟨rfl, rfl⟩) fun r s1 r1 => ?_
  cases r with
  | error e => exact r1
  | ok fl =>
    cases fl with
    | ret obj =>
      obtain ⟨rfl, rfl⟩ := r1
      have gS : (s.heap.push { cls := .type "set", dict := none, data := .set #[] 0 (.fresh 0 0 (!byT w)) }).get? s.heap.objs.size = some { cls := .type "set", dict := none, data := .set #[] 0 (.fresh 0 0 (!byT w)) } := Heap.get?_push_size _ rfl
      have hT : Shared.TypeIs { s with heap := s.heap.push { cls := .type "set", dict := none, data := .set #[] 0 (.fresh 0 0 (!byT w)) } } (Value.ref s.heap.objs.size) "set" := ⟨_, gS, rfl⟩
      have e6 := F.called_set.init.lookup
      have e7 := F.called_set.init.bind (Value.ref s.heap.objs.size)
      repeat any_goals first | assumption | wp_step
      refine codeAny_mono (codeAny_call_builtin (R := wants (fun r s2 => r = .none ∧ ∃ h' tk ks, s2 = { s with heap := h', toks := tk } ∧ SetI prog w (!byT w) h' s.heap.objs.size ks ∧ Of ks ns ∧ ∀ b o, b < s.heap.objs.size → s.heap.get? b = some o → h'.get? b = some o) E) F.called_set.init.plain F.entry_set_init (check_set_init_1 hT ?_)) fun r2 s2 hr2 => ?_
      · refine wpAny_mono (init_I (b := !byT w) (by simpa using hh) hl ln lb hv (Q := fun r s2 => r = .none ∧ ∃ h' tk ks, s2 = { s with heap := h', toks := tk } ∧ SetI prog w (!byT w) h' s.heap.objs.size ks ∧ Of ks ns ∧ ∀ b o, b < s.heap.objs.size → s.heap.get? b = some o → h'.get? b = some o) fun h' tk ks a1 a2 a3 => ⟨rfl, h', tk, ks, rfl, a1, a2, a3⟩) (fun fin s' hf => ?_) fun _ _ x => x
        obtain ⟨v, rfl, hq⟩ := hf
        exact hq
      · cases r2 with
        | error e => exact hr2
        | ok fl2 =>
          cases fl2 with
          | ret r =>
            obtain ⟨rfl, h', tk, ks, rfl, a1, a2, a3⟩ := hr2
            repeat any_goals first | assumption | wp_step
            exact q h' tk ks a1 a2 a3
          | _ => exact hr2.elim
    | _ => exact r1.elim
end
end L2
namespace L2
open PySem PySem.Spec PyProof.Rows
theorem slot_setiter_next : Slot "set_iterator" "__next__" "set_iterator.__next__" :=
  .of (owner := "set_iterator") (n := "__next__") (by rw [typeLookup_type, builtinLookup_eq_fast]; kernel_rfl) (by decide +kernel) (by decide +kernel) (by decide +kernel) (by first | exact .inl (by decide +kernel) | exact .inr (by decide +kernel)) (by rw [isSubtype_type]; kernel_rfl)
theorem entry_setiter_next : entryFor table "set_iterator.__next__" = some Builtin.«set_iterator.__next__» := entryFor_of_fast (by kernel_rfl)
theorem args_setiter_next (a : Value) : argsOk "set_iterator.__next__" ⟨[a], []⟩ := by unfold argsOk; kernel_rfl
noncomputable def IsSI (h : Heap) (I S : Addr) (slot i n ep : Nat) : Prop := h.get? I = some { cls := .type "set_iterator", data := .fields #[rawInt slot, rawInt i, .ref S, rawInt n, rawInt ep] }
theorem perm_at {α : Type} : ∀ {l : List α} {i : Nat} (h : i < l.length), (l[i] :: l.eraseIdx i).Perm l := fun {l} => by
  induction l with
  | nil => intro i h; cases h
  | cons a l ih =>
    intro i h
    cases i with
    | zero => exact .refl _
    | succ i => exact (List.Perm.swap ..).trans ((ih (Nat.lt_of_succ_lt_succ h)).cons a)
theorem pick_go {α : Type} (f : Nat → Nat) : ∀ (fuel k : Nat) (left : List α) (out : Array α), left.length = fuel → (pickOrder.go f fuel k left out).toList.Perm (out.toList ++ left) := by
  intro fuel
  induction fuel with
  | zero =>
    intro k left out l
    rw [List.length_eq_zero_iff.mp l, List.append_nil, pickOrder.go]
  | succ fuel ih =>
    intro k left out l
    rw [pickOrder.go]
    have hlt : f k % left.length < left.length := Nat.mod_lt _ (by omega)
    rw [List.getElem?_eq_getElem hlt]
    dsimp only
    refine (ih (k + 1) _ _ (by rw [List.length_eraseIdx_of_lt hlt]; omega)).trans ?_
    rw [Array.toList_push, List.append_assoc]
    exact List.Perm.append_left _ (perm_at hlt)
theorem pick_perm {α : Type} (f : Nat → Nat) (xs : Array α) : (pickOrder f xs).toList.Perm xs.toList := by
  unfold pickOrder
  have := pick_go f xs.size 0 xs.toList #[] (by rw [Array.length_toList])
  rwa [List.nil_append] at this
section
variable {prog : Program} {w : World} {A : Around} {E : Value → Shared → Prop} {s : Shared}
theorem choose_ok {src : Source} {n : Nat} {Q : Nat → Shared → Prop} (hn : n ≠ 0) (h : ∀ i, i < n → Q i { s with drawn := s.drawn.bump src }) : wpAny (model prog w) A (choose src n) Q E s := fun Γ p _ => by
  show Sem.wp _ _ (.choose src n .pure) _ _ _ _
  rw [Sem.wp_choose]
  exact ⟨hn, h _ (Nat.mod_lt _ (Nat.pos_of_ne_zero hn))⟩
theorem draw_ok {α : Type} : ∀ (n : Nat) (xs : List α) (s : Shared) (Q : List α → Shared → Prop), xs.length = n → (∀ ys d, ys.Perm xs → Q ys { s with drawn := d }) → wpAny (model prog w) A (drawOrder n xs) Q E s := by
  intro n
  induction n with
  | zero =>
    intro xs s Q l q
    rw [List.length_eq_zero_iff.mp l] at q ⊢
    exact wpAny_pure (q [] s.drawn (.refl _))
  | succ n ih =>
    intro xs s Q l q
    cases xs with
    | nil => cases l
    | cons a xs =>
      rw [drawOrder]
      refine wpAny_bind (choose_ok (by rw [l]; exact Nat.succ_ne_zero _) fun i hi => ?_)
      rw [List.getElem?_eq_getElem hi]
      dsimp only
      refine wpAny_bind (ih _ _ _ (by rw [List.length_eraseIdx_of_lt hi]; omega) fun ys d pm => wpAny_pure (q _ d ?_))
      · exact (pm.cons _).trans (perm_at hi)
      · intro z; cases z
noncomputable def walkV (w : World) (S : Addr) (ep : Nat) (es : Array (Int × Value)) : List Value := (if byT w then (pickOrder (w.params.setOrder S ep) es).toList else es.toList).map (·.2)
theorem walk_perm {w : World} {S : Addr} {ep : Nat} {es : Array (Int × Value)} : (walkV w S ep es).Perm (es.toList.map (·.2)) := by
  unfold walkV
  split
  · exact (pick_perm _ es).map _
  · exact .refl _
noncomputable def slotOk (w : World) (t : SetTable) (slot i : Nat) : Prop := byT w = false → SetTable.below t.place slot = i
theorem byText_ok {Q : Bool → Shared → Prop} (h : Q (byT w) s) : wpAny (model prog w) A setsByText Q E s := by
  unfold setsByText
  exact wpAny_bind (wpAny_askSetting (wpAny_pure h))
theorem setNext_ok {S : Addr} {o : Obj} {es : Array (Int × Value)} {ep slot i : Nat} {t : SetTable} {Q : Option (Value × Nat) → Shared → Prop} (ho : s.heap.get? S = some o) (hd : o.data = .set es ep t) (hf : t.fits es.size = true) (tb : Tb (!byT w) t) (hdr : byT w = false → t.plain = true ∨ es.size ≤ 1) (hs : slotOk w t slot i)
    (q : ∀ r, (∀ x, (walkV w S ep es)[i]? = some x → ∃ nx, r = some (x, nx) ∧ slotOk w t nx (i + 1)) → ((walkV w S ep es)[i]? = none → r = none) → Q r s) : wpAny (model prog w) A (setNext S slot i ep) Q E s := by
  unfold setNext
  refine wpAny_bind (wpAny_setState_of ho hd hf (wpAny_bind (byText_ok ?_)))
  cases hb : byT w with
  | true =>
    have ew : walkV w S ep es = (pickOrder (w.params.setOrder S ep) es).toList.map (·.2) := by unfold walkV; rw [hb, if_pos rfl]
    simp only [if_true, bne_self_eq_false, Bool.false_eq_true, if_false]
    unfold setWalk
    refine wpAny_bind (wpAny_bind (wpAny_setState_of ho hd hf (wpAny_bind (byText_ok ?_))))
    rw [hb]
    simp only [if_true]
    refine wpAny_bind (wpAny_askSetting (wpAny_pure (wpAny_pure (q _ (fun x hx => ?_) fun hx => ?_))))
    · rw [ew, List.getElem?_map, Array.getElem?_toList] at hx
      show ∃ nx, Option.map _ (pickOrder (w.params.setOrder S ep) es)[i]? = _ ∧ _
      cases e : (pickOrder (w.params.setOrder S ep) es)[i]? with
      | none => rw [e] at hx; cases hx
      | some y =>
        rw [e] at hx
        cases hx
        exact ⟨slot, rfl, fun z => by rw [hb] at z; cases z⟩
    · rw [ew, List.getElem?_map, Array.getElem?_toList] at hx
      show Option.map _ (pickOrder (w.params.setOrder S ep) es)[i]? = _
      cases e : (pickOrder (w.params.setOrder S ep) es)[i]? with
      | none => rfl
      | some y => rw [e] at hx; cases hx
  | false =>
    have ew : walkV w S ep es = es.toList.map (·.2) := by unfold walkV; rw [hb]; rfl
    have pl := hdr hb
    have le := tb.led
    rw [hb] at le
    have bl := hs hb
    obtain ⟨mask, place, dummies, finger, led, moves, plain⟩ := t
    dsimp only at pl le bl
    subst le
    have sz0 : place.size = es.size := by
      unfold SetTable.fits at hf
      rw [Bool.and_eq_true, beq_iff_eq] at hf
      exact hf.1
    have up : Up place.toList := by
      rcases pl with pl | pl
      · exact tb.up pl
      · have l1 : place.toList.length ≤ 1 := by rw [Array.length_toList, sz0]; exact pl
        generalize place.toList = l at l1
        match l, l1 with
        | [], _ => exact .nil
        | [a], _ => exact List.pairwise_singleton _ _
    have dr : (!plain && decide (es.size > 1)) = false := by
      rcases pl with pl | pl
      · rw [pl]; rfl
      · rw [decide_eq_false (by omega), Bool.and_false]
    simp only [Bool.false_eq_true, if_false]
    show wpAny _ _ (if (!plain && decide (es.size > 1)) = true then _ else _) _ _ _
    rw [dr]
    simp only [Bool.false_eq_true, if_false]
    refine wpAny_bind (wpAny_pure ?_)
    have sz : place.size = es.size := by
      unfold SetTable.fits at hf
      rw [Bool.and_eq_true, beq_iff_eq] at hf
      exact hf.1
    rw [bl]
    refine wpAny_pure (q _ (fun x hx => ?_) fun hx => ?_)
    · rw [ew, List.getElem?_map, Array.getElem?_toList] at hx
      cases e : es[i]? with
      | none => rw [e] at hx; cases hx
      | some y =>
        rw [e] at hx
        cases hx
        have hi : i < place.size := by rw [sz]; exact (Array.getElem?_eq_some_iff.mp e).1
        have ep : place[i]? = some place[i] := Array.getElem?_eq_getElem hi
        rw [ep]
        exact ⟨place[i] + 1, rfl, fun _ => below_next up (by rw [Array.getElem?_toList]; exact ep)⟩
    · rw [ew, List.getElem?_map, Array.getElem?_toList] at hx
      cases e : es[i]? with
      | none => rfl
      | some y => rw [e] at hx; cases hx
end
end L2
namespace L2
open PySem PySem.Spec PyProof.Rows
section
variable {prog : Program} {w : World} {A : Around} {E : Value → Shared → Prop} {s : Shared}
theorem siter_item {I S : Addr} {o : Obj} {es : Array (Int × Value)} {ep slot i : Nat} {t : SetTable} {x : Value} {Q : Option Value → Shared → Prop} (hI : IsSI s.heap I S slot i es.size ep) (ho : s.heap.get? S = some o) (hd : o.data = .set es ep t) (hf : t.fits es.size = true) (tb : Tb (!byT w) t) (hdr : byT w = false → t.plain = true ∨ es.size ≤ 1) (hs : slotOk w t slot i) (hx : (walkV w S ep es)[i]? = some x)
    (q : ∀ h' nx, IsSI h' I S nx (i + 1) es.size ep → slotOk w t nx (i + 1) → Heap.SameBut I s.heap h' → Q (some x) { s with heap := h' }) : wpAny (model prog w) A (pyNext (.ref I)) Q E s := by
  have hT : s.TypeIs (.ref I) "set_iterator" := ⟨_, hI, rfl⟩
  unfold pyNext
  refine wpAny_bind (wpAny_attempt (wpAny_callSpecial?_slot (name := Str.ofString "__next__") hT slot_setiter_next (wpAny_call_entry slot_setiter_next hT entry_setiter_next ?_ (args_setiter_next _))))
  unfold Builtin.«set_iterator.__next__» slotArgs fieldsOf
  simp only [List.isEmpty_nil, Bool.not_true, Bool.false_eq_true, if_false, List.length_nil, bne_self_eq_false, pure_bind, bind_assoc]
  refine wpAny_bind (wpAny_load hI ?_)
  dsimp only
  refine wpAny_bind (wpAny_pure ?_)
  show wpAny _ _ (setEntries S >>= _) _ _ _
  refine wpAny_bind (wpAny_setEntries_of ho hd hf ?_)
  rw [show (((es.size : Nat) : Int) != ((es.size : Nat) : Int)) = false from bne_self_eq_false _]
  simp only [Bool.false_eq_true, if_false]
  show wpAny _ _ (setNext S slot i ep >>= _) _ _ _
  refine wpAny_bind (setNext_ok ho hd hf tb hdr hs fun r h1 _ => ?_)
  obtain ⟨nx, rfl, sk⟩ := h1 x hx
  dsimp only
  refine wpAny_bind (wpAny_setField_rec hI (by simp) fun h2 g2 b2 => ?_)
  refine wpAny_bind (wpAny_setField_rec g2 (by simp) fun h3 g3 b3 => ?_)
  exact wpAny_pure ⟨_, rfl, wpAny_pure (q h3 nx g3 sk (b2.trans b3))⟩
theorem siter_end {I S : Addr} {o : Obj} {es : Array (Int × Value)} {ep slot i : Nat} {t : SetTable} {Q : Option Value → Shared → Prop} (hh : A.handled = none) (hI : IsSI s.heap I S slot i es.size ep) (ho : s.heap.get? S = some o) (hd : o.data = .set es ep t) (hf : t.fits es.size = true) (tb : Tb (!byT w) t) (hdr : byT w = false → t.plain = true ∨ es.size ≤ 1) (hs : slotOk w t slot i) (hx : (walkV w S ep es)[i]? = none)
    (q : ∀ h', Heap.ExtBut I s.heap h' → Q none { s with heap := h' }) : wpAny (model prog w) A (pyNext (.ref I)) Q E s := by
  have hT : s.TypeIs (.ref I) "set_iterator" := ⟨_, hI, rfl⟩
  unfold pyNext
  refine wpAny_bind (wpAny_attempt (wpAny_callSpecial?_slot (name := Str.ofString "__next__") hT slot_setiter_next (wpAny_call_entry slot_setiter_next hT entry_setiter_next ?_ (args_setiter_next _))))
  unfold Builtin.«set_iterator.__next__» slotArgs fieldsOf
  simp only [List.isEmpty_nil, Bool.not_true, Bool.false_eq_true, if_false, List.length_nil, bne_self_eq_false, pure_bind, bind_assoc]
  refine wpAny_bind (wpAny_load hI ?_)
  dsimp only
  refine wpAny_bind (wpAny_pure ?_)
  show wpAny _ _ (setEntries S >>= _) _ _ _
  refine wpAny_bind (wpAny_setEntries_of ho hd hf ?_)
  rw [show (((es.size : Nat) : Int) != ((es.size : Nat) : Int)) = false from bne_self_eq_false _]
  simp only [Bool.false_eq_true, if_false]
  show wpAny _ _ (setNext S slot i ep >>= _) _ _ _
  refine wpAny_bind (setNext_ok ho hd hf tb hdr hs fun r _ h2 => ?_)
  rw [h2 hx]
  dsimp only
  refine wpAny_bind (wpAny_setField_rec hI (by simp) fun h3 g3 b3 => ?_)
  show wpAny _ _ (newExc (.type "StopIteration") [] >>= _) _ _ _
  refine wpAny_bind ?_
  simp only [newExc, newTuple]
  refine wpAny_bind (wpAny_newObj_type ?_ (by size_fits))
  refine wpAny_bind (m := firstArgMember _ _) (wpAny_of_eq (a := Value.none) (by first | rfl | (simp only [firstArgMember]; rfl)) ?_)
  refine wpAny_newObj_type ?_ (by size_fits)
  simp only [raiseNew]
  refine wpAny_bind (wpAny_handled ?_)
  rw [show A.in1.handled = none from hh]
  refine wpAny_bind (wpAny_pure (wpAny_throw ?_))
  exact wpAny_bind (wpAny_isInstance (T := "StopIteration") (b := true) ⟨_, Heap.get?_push_size _ rfl, rfl⟩ isSubtype_stop (wpAny_pure (q _ ((b3.extBut.push _).push _))))
end
end L2
namespace L2
open PySem PySem.Spec PyProof.Rows
noncomputable def IsSD (h : Heap) (I S T : Addr) (i n ep : Nat) : Prop := h.get? I = some { cls := .type "set_iterator", data := .fields #[.ref T, rawInt i, .ref S, rawInt n, rawInt ep] }
noncomputable def rawT (ps : List Nat) : Array Value := (ps.map fun (i : Nat) => rawInt i).toArray
theorem rawT_at {ps : List Nat} {i p : Nat} (h : ps[i]? = some p) : (rawT ps)[i]? = some (rawInt p) := by
  unfold rawT
  rw [List.getElem?_toArray, List.getElem?_map, h]; rfl
theorem rawT_none {ps : List Nat} {i : Nat} (h : ps[i]? = none) : (rawT ps)[i]? = none := by
  unfold rawT
  rw [List.getElem?_toArray, List.getElem?_map, h]; rfl
section
variable {prog : Program} {w : World} {A : Around} {E : Value → Shared → Prop} {s : Shared}
theorem sdraw_item {I S T : Addr} {o : Obj} {es : Array (Int × Value)} {ep i p : Nat} {t : SetTable} {ps : List Nat} {x : Int × Value} {Q : Option Value → Shared → Prop} (hI : IsSD s.heap I S T i es.size ep) (hT2 : s.heap.get? T = some { cls := .type "tuple", data := .seq (rawT ps) }) (ho : s.heap.get? S = some o) (hd : o.data = .set es ep t) (hf : t.fits es.size = true) (hp : ps[i]? = some p) (hx : es[p]? = some x)
    (q : ∀ h', IsSD h' I S T (i + 1) es.size ep → Heap.SameBut I s.heap h' → Q (some x.2) { s with heap := h' }) : wpAny (model prog w) A (pyNext (.ref I)) Q E s := by
  have hT : s.TypeIs (.ref I) "set_iterator" := ⟨_, hI, rfl⟩
  unfold pyNext
  refine wpAny_bind (wpAny_attempt (wpAny_callSpecial?_slot (name := Str.ofString "__next__") hT slot_setiter_next (wpAny_call_entry slot_setiter_next hT entry_setiter_next ?_ (args_setiter_next _))))
  unfold Builtin.«set_iterator.__next__» slotArgs fieldsOf
  simp only [List.isEmpty_nil, Bool.not_true, Bool.false_eq_true, if_false, List.length_nil, bne_self_eq_false, pure_bind, bind_assoc]
  refine wpAny_bind (wpAny_load hI ?_)
  dsimp only
  refine wpAny_bind (wpAny_pure ?_)
  show wpAny _ _ (setEntries S >>= _) _ _ _
  refine wpAny_bind (wpAny_setEntries_of ho hd hf ?_)
  rw [show (((es.size : Nat) : Int) != ((es.size : Nat) : Int)) = false from bne_self_eq_false _]
  simp only [Bool.false_eq_true, if_false]
  show wpAny _ _ (seqItems? (.ref T) >>= _) _ _ _
  refine wpAny_bind (wpAny_seqItems hT2 rfl ?_)
  dsimp only
  rw [Int.toNat_natCast, rawT_at hp]
  show wpAny _ _ (setNextDrawn S p ep >>= _) _ _ _
  unfold setNextDrawn
  refine wpAny_bind (wpAny_bind (wpAny_setState_of ho hd hf ?_))
  dsimp only
  rw [bne_self_eq_false]
  simp only [Bool.false_eq_true, if_false]
  rw [hx]
  refine wpAny_pure ?_
  refine wpAny_bind (wpAny_setField_rec hI (by simp) fun h2 g2 b2 => ?_)
  exact wpAny_pure ⟨_, rfl, wpAny_pure (q h2 g2 b2)⟩
theorem sdraw_end {I S T : Addr} {o : Obj} {es : Array (Int × Value)} {ep i : Nat} {t : SetTable} {ps : List Nat} {Q : Option Value → Shared → Prop} (hh : A.handled = none) (hI : IsSD s.heap I S T i es.size ep) (hT2 : s.heap.get? T = some { cls := .type "tuple", data := .seq (rawT ps) }) (ho : s.heap.get? S = some o) (hd : o.data = .set es ep t) (hf : t.fits es.size = true) (hp : ps[i]? = none)
    (q : ∀ h', Heap.ExtBut I s.heap h' → Q none { s with heap := h' }) : wpAny (model prog w) A (pyNext (.ref I)) Q E s := by
  have hT : s.TypeIs (.ref I) "set_iterator" := ⟨_, hI, rfl⟩
  unfold pyNext
  refine wpAny_bind (wpAny_attempt (wpAny_callSpecial?_slot (name := Str.ofString "__next__") hT slot_setiter_next (wpAny_call_entry slot_setiter_next hT entry_setiter_next ?_ (args_setiter_next _))))
  unfold Builtin.«set_iterator.__next__» slotArgs fieldsOf
  simp only [List.isEmpty_nil, Bool.not_true, Bool.false_eq_true, if_false, List.length_nil, bne_self_eq_false, pure_bind, bind_assoc]
  refine wpAny_bind (wpAny_load hI ?_)
  dsimp only
  refine wpAny_bind (wpAny_pure ?_)
  show wpAny _ _ (setEntries S >>= _) _ _ _
  refine wpAny_bind (wpAny_setEntries_of ho hd hf ?_)
  rw [show (((es.size : Nat) : Int) != ((es.size : Nat) : Int)) = false from bne_self_eq_false _]
  simp only [Bool.false_eq_true, if_false]
  show wpAny _ _ (seqItems? (.ref T) >>= _) _ _ _
  refine wpAny_bind (wpAny_seqItems hT2 rfl ?_)
  dsimp only
  rw [Int.toNat_natCast, rawT_none hp]
  dsimp only
  refine wpAny_bind (wpAny_setField_rec hI (by simp) fun h2 g2 b2 => ?_)
  refine wpAny_bind (wpAny_setField_rec g2 (by simp) fun h3 g3 b3 => ?_)
  show wpAny _ _ (newExc (.type "StopIteration") [] >>= _) _ _ _
  refine wpAny_bind ?_
  simp only [newExc, newTuple]
  refine wpAny_bind (wpAny_newObj_type ?_ (by size_fits))
  refine wpAny_bind (m := firstArgMember _ _) (wpAny_of_eq (a := Value.none) (by first | rfl | (simp only [firstArgMember]; rfl)) ?_)
  refine wpAny_newObj_type ?_ (by size_fits)
  simp only [raiseNew]
  refine wpAny_bind (wpAny_handled ?_)
  rw [show A.in1.handled = none from hh]
  refine wpAny_bind (wpAny_pure (wpAny_throw ?_))
  exact wpAny_bind (wpAny_isInstance (T := "StopIteration") (b := true) ⟨_, Heap.get?_push_size _ rfl, rfl⟩ isSubtype_stop (wpAny_pure (q _ (((b2.trans b3).extBut.push _).push _))))
end
end L2
namespace L2
open PySem PySem.Spec PyProof.Rows
theorem entry_set_iter : entryFor table "set.__iter__" = some Builtin.«frozenset.__iter__» := entryFor_alias (id' := "frozenset.__iter__") (by kernel_rfl) rfl (by decide +kernel) (by kernel_rfl)
theorem slot_setiter_iter : Slot "set_iterator" "__iter__" "set_iterator.__iter__" :=
  .of (owner := "set_iterator") (n := "__iter__") (by rw [typeLookup_type, builtinLookup_eq_fast]; kernel_rfl) (by decide +kernel) (by decide +kernel) (by decide +kernel) (by first | exact .inl (by decide +kernel) | exact .inr (by decide +kernel)) (by rw [isSubtype_type]; kernel_rfl)
theorem entry_setiter_iter : entryFor table "set_iterator.__iter__" = some Builtin.«dict_keyiterator.__iter__» := entryFor_alias (id' := "dict_keyiterator.__iter__") (by kernel_rfl) (by first | rfl | decide +kernel | (unfold String.splitOn; simp +decide [String.splitOnAux])) (by decide +kernel) (by kernel_rfl)
theorem args_setiter_iter (a : Value) : argsOk "set_iterator.__iter__" ⟨[a], []⟩ := by unfold argsOk; kernel_rfl
section
variable {prog : Program} {w : World} {A : Around} {E : Value → Shared → Prop} {s : Shared}
theorem siter_self {I : Addr} {vs : Array Value} {Q : Value → Shared → Prop} (hI : s.heap.get? I = some { cls := .type "set_iterator", data := .fields vs }) (h : Q (.ref I) s) : wpAny (model prog w) A (pyIter (.ref I)) Q E s := by
  have hT : s.TypeIs (.ref I) "set_iterator" := ⟨_, hI, rfl⟩
  refine wpAny_pyIter_slot hT slot_setiter_iter (wpAny_call_entry slot_setiter_iter hT entry_setiter_iter ?_ (args_setiter_iter _))
  show wpAny _ _ (ret (.ref I)) _ _ s
  exact wpAny_pure ⟨_, rfl, "set_iterator", _, hT, slot_setiter_next.lookup, h⟩
theorem iter_I {S : Addr} {o : Obj} {es : Array (Int × Value)} {ep : Nat} {t : SetTable} {Q : Value → Shared → Prop} (ho : s.heap.get? S = some o) (hex : o.ExactSet) (hd : o.data = .set es ep t) (hf : t.fits es.size = true) (hz : es.size ≤ 1000)
    (q1 : (byT w = false → t.plain = true ∨ es.size ≤ 1) → Q (.ref s.heap.objs.size) { s with heap := s.heap.push { cls := .type "set_iterator", data := .fields #[rawInt 0, rawInt 0, .ref S, rawInt es.size, rawInt ep] } })
    (q2 : ∀ ps d, ps.Perm (List.range es.size) → Q (.ref (s.heap.objs.size + 1)) { s with heap := (s.heap.push { cls := .type "tuple", data := .seq (rawT ps) }).push { cls := .type "set_iterator", data := .fields #[.ref s.heap.objs.size, rawInt 0, .ref S, rawInt es.size, rawInt ep] }, drawn := d }) : wpAny (model prog w) A (pyIter (.ref S)) Q E s := by
  have hT : s.TypeIs (.ref S) "set" := ⟨o, ho, hex.1⟩
  refine wpAny_pyIter_slot hT F.slot_set_iter (wpAny_call_entry F.slot_set_iter hT entry_set_iter ?_ (F.args_set_iter_1 _))
  unfold Builtin.«frozenset.__iter__» Builtin.Frozenset.slot0 slotArgs
  simp only [List.isEmpty_nil, Bool.not_true, Bool.false_eq_true, if_false, List.length_nil, bne_self_eq_false, pure_bind, bind_assoc]
  unfold Builtin.Frozenset.addrOf Builtin.Frozenset.sizeOf setDrawn
  refine wpAny_bind (wpAny_pure ?_)
  refine wpAny_bind (wpAny_bind (wpAny_setEntries_of ho hd hf (wpAny_pure ?_)))
  refine wpAny_bind (wpAny_bind (wpAny_setState_of ho hd hf (wpAny_bind (byText_ok (wpAny_pure ?_)))))
  show wpAny _ _ (if (!byT w && (!t.plain && decide (es.size > 1))) = true then _ else _) _ _ _
  by_cases c : (!byT w && (!t.plain && decide (es.size > 1))) = true
  · rw [if_pos c]
    refine wpAny_bind (draw_ok _ _ _ _ List.length_range fun ps d pm => ?_)
    refine wpAny_bind (wpAny_newTuple ?_ (by rw [List.length_map, pm.length_eq, List.length_range, sizeLine_eq]; omega))
    refine wpAny_bind (wpAny_setEpoch_of (Heap.get?_push_of_some _ ho) hd hf ?_)
    have e : (s.heap.push { cls := .type "tuple", data := .seq (rawT ps) }).objs.size = s.heap.objs.size + 1 := Heap.size_push ..
    refine wpAny_bind (wpAny_newObj_type (wpAny_pure ⟨_, rfl, "set_iterator", _, ⟨_, Heap.get?_push_size _ rfl, rfl⟩, slot_setiter_next.lookup, ?_⟩))
    have := q2 ps d pm
    rw [← e] at this
    exact this
  · rw [if_neg c]
    refine wpAny_bind (wpAny_setEpoch_of ho hd hf ?_)
    refine wpAny_bind (wpAny_newObj_type (wpAny_pure ⟨_, rfl, "set_iterator", _, ⟨_, Heap.get?_push_size _ rfl, rfl⟩, slot_setiter_next.lookup, q1 fun hb => ?_⟩))
    rw [hb] at c
    cases hp : t.plain with
    | true => exact .inl rfl
    | false =>
      rw [hp] at c
      exact .inr (Nat.le_of_not_lt fun z => c (by rw [decide_eq_true z]; rfl))
theorem walk_I (hh : A.handled = none) {I S : Addr} (ne : S ≠ I) {o : Obj} {es : Array (Int × Value)} {ep : Nat} {t : SetTable} (hd : o.data = .set es ep t) (hf : t.fits es.size = true) (tb : Tb (!byT w) t) (hdr : byT w = false → t.plain = true ∨ es.size ≤ 1) :
    Walks prog w A I [I, S] [I] es.size (fun i v => (walkV w S ep es)[i]? = some v) (fun i h => (∃ slot, IsSI h I S slot i es.size ep ∧ slotOk w t slot i) ∧ h.get? S = some o) where
  sub := fun b hb => by rw [List.mem_singleton.mp hb]; exact .head _
  frame := fun i h h' st k => by
    obtain ⟨⟨slot, h1, h2⟩, h3⟩ := st
    exact ⟨⟨slot, k I (.head _) _ h1, h2⟩, k S (.tail _ (.head _)) _ h3⟩
  item := fun i s Q E hi st q => by
    obtain ⟨⟨slot, h1, h2⟩, h3⟩ := st
    have hl : i < (walkV w S ep es).length := by rw [walk_perm.length_eq, List.length_map, Array.length_toList]; exact hi
    have hx := List.getElem?_eq_getElem hl
    refine siter_item h1 h3 hd hf tb hdr h2 hx fun h' nx g1 g2 g3 => ?_
    exact q _ h' s.toks hx ⟨⟨nx, g1, g2⟩, g3.extBut _ _ ne h3⟩ fun b o nb e => g3.extBut _ _ (fun z => nb (List.mem_singleton.mpr z)) e
  done := fun s Q E st q => by
    obtain ⟨⟨slot, h1, h2⟩, h3⟩ := st
    refine siter_end hh h1 h3 hd hf tb hdr h2 (List.getElem?_eq_none (by rw [walk_perm.length_eq, List.length_map, Array.length_toList]; exact Nat.le_refl _)) fun h' g => ?_
    exact q h' s.toks fun b o nb e => g _ _ (fun z => nb (List.mem_singleton.mpr z)) e
  self := fun i s Q E st q => by
    obtain ⟨⟨slot, h1, h2⟩, h3⟩ := st
    exact siter_self h1 q
noncomputable def drawV (ps : List Nat) (es : Array (Int × Value)) : List Value := ps.filterMap fun p => es[p]?.map (·.2)
theorem draw_perm {ps : List Nat} {es : Array (Int × Value)} (pm : ps.Perm (List.range es.size)) : (drawV ps es).Perm (es.toList.map (·.2)) := by
  have e : drawV (List.range es.size) es = es.toList.map (·.2) := by
    have h := filterMap_getElem?_range es
    unfold drawV
    rw [← List.map_filterMap, h]
  rw [← e]
  exact pm.filterMap _
theorem draw_at {ps : List Nat} {es : Array (Int × Value)} (h : ∀ p ∈ ps, p < es.size) : ∀ {i p : Nat}, ps[i]? = some p → ∃ x, es[p]? = some x ∧ (drawV ps es)[i]? = some x.2 := by
  induction ps with
  | nil => intro i p e; cases e
  | cons a ps ih =>
    intro i p e
    have ha := h a (.head _)
    have ea : es[a]? = some es[a] := Array.getElem?_eq_getElem ha
    have ed : drawV (a :: ps) es = es[a].2 :: drawV ps es := by
      unfold drawV
      rw [List.filterMap_cons, ea]; rfl
    rw [ed]
    cases i with
    | zero =>
      cases e
      exact ⟨_, ea, rfl⟩
    | succ i => exact ih (fun p m => h p (.tail _ m)) e
theorem walk_D (hh : A.handled = none) {I S T : Addr} (n1 : S ≠ I) (n2 : T ≠ I) {o : Obj} {es : Array (Int × Value)} {ep : Nat} {t : SetTable} {ps : List Nat} (hd : o.data = .set es ep t) (hf : t.fits es.size = true) (pm : ps.Perm (List.range es.size)) :
    Walks prog w A I [I, S, T] [I] es.size (fun i v => (drawV ps es)[i]? = some v) (fun i h => IsSD h I S T i es.size ep ∧ h.get? S = some o ∧ h.get? T = some { cls := .type "tuple", data := .seq (rawT ps) }) where
  sub := fun b hb => by rw [List.mem_singleton.mp hb]; exact .head _
  frame := fun i h h' st k => ⟨k I (.head _) _ st.1, k S (.tail _ (.head _)) _ st.2.1, k T (.tail _ (.tail _ (.head _))) _ st.2.2⟩
  item := fun i s Q E hi st q => by
    have hl : i < ps.length := by rw [pm.length_eq, List.length_range]; exact hi
    have hp := List.getElem?_eq_getElem hl
    obtain ⟨x, h1, h2⟩ := draw_at (es := es) (fun p m => List.mem_range.mp (pm.mem_iff.mp m)) hp
    refine sdraw_item st.1 st.2.2 st.2.1 hd hf hp h1 fun h' g1 g3 => ?_
    exact q _ h' s.toks h2 ⟨g1, g3.extBut _ _ n1 st.2.1, g3.extBut _ _ n2 st.2.2⟩ fun b o nb e => g3.extBut _ _ (fun z => nb (List.mem_singleton.mpr z)) e
  done := fun s Q E st q => by
    refine sdraw_end hh st.1 st.2.2 st.2.1 hd hf (List.getElem?_eq_none (by rw [pm.length_eq, List.length_range]; exact Nat.le_refl _)) fun h' g => ?_
    exact q h' s.toks fun b o nb e => g _ _ (fun z => nb (List.mem_singleton.mpr z)) e
  self := fun i s Q E st q => siter_self st.1 q
end
end L2
namespace L2
open PySem PySem.Spec PyProof.Rows
theorem len_set : typeLookup (.type "set") "__len__" = pure (some (.builtin "set.__len__")) := F.slot_set_len.lookup
section
variable {prog : Program} {w : World} {A : Around} {E : Value → Shared → Prop} {s : Shared}
theorem hint_I {S : Addr} {o : Obj} {Q : Bool → Shared → Prop} (ho : s.heap.get? S = some o) (hex : o.ExactSet) (h : Q false s) : wpAny (model prog w) A (Builtin.List.listLengthHint (.ref S)) Q E s := by
  have hT : s.TypeIs (.ref S) "set" := ⟨o, ho, hex.1⟩
  unfold Builtin.List.listLengthHint
  refine wpAny_bind (wpAny_specialOf hT len_set ?_)
  generalize hid : ("set.__len__" : String) = id0
  (fail_if_success (clear hid id0))
  wp_delta
  rw [show splitId id0 = some ("set", "__len__") from by subst hid; decide +kernel]
  subst hid
  refine wpAny_bind (wpAny_isInstance (b := true) hT (by rw [isSubtype_type]; kernel_rfl) ?_)
  simp only [Bool.not_true, Bool.false_eq_true, if_false]
  rw [if_pos (by decide +kernel)]
  refine wpAny_bind (wpAny_typeOf hT ?_)
  exact wpAny_pure h
theorem coll_loop {I N : Addr} {fp wr : List Addr} {n : Nat} {P : Nat → Value → Prop} {St : Nat → Heap → Prop} {R : Result → Shared → Prop} (W : Walks prog w A.in1 I fp wr n P St) (hn : n ≤ 1000) (hN : N ∉ fp) (st : St 0 s.heap) (gN : s.heap.get? N = some { cls := .type "list", data := .seq #[] 2 })
    (q : ∀ h' tk (acc : Array Value) c, acc.size = n → (∀ (j : Nat) v, acc[j]? = some v → P j v) → h'.get? N = some { cls := .type "list", data := .seq acc c } → (∀ b o, b ∉ N :: wr → s.heap.get? b = some o → h'.get? b = some o) → R (.ok (.ret (.ref N))) { s with heap := h', toks := tk }) :
    codeAny (model prog w) A (.builtin "list.extend.loop" ⟨[.ref N, .ref I, .ref N], []⟩) R s := by
  refine codeAny_extend_loopS W.toS (by rw [sizeLine_eq]; omega) N hN (.ref N) n 0 s #[] 2 rfl (Nat.zero_le _) st gN (ItemsOf.nil P) fun s' acc c hm g it => ?_
  obtain ⟨h', g', d', tk', os'⟩ := s'
  have eg : g' = s.gens := hm.gens
  have ed : d' = s.drawn := hm.drawn
  have eo : os' = s.os := hm.os
  subst eg ed eo
  exact q h' tk' acc c it.1 it.2 g hm.heap
theorem touch_I {N : Addr} {Q : Unit → Shared → Prop} (gN : s.heap.get? N = some { cls := .type "list", data := .seq #[] 0 }) (q : ∀ h', h'.get? N = some { cls := .type "list", data := .seq #[] 2 } → Heap.SameBut N s.heap h' → Q () { s with heap := h' }) : wpAny (model prog w) A (Builtin.List.listTouch (.ref N)) Q E s := by
  unfold Builtin.List.listTouch
  refine wpAny_bind (listUpdate_at gN rfl ?_ (by rw [sizeLine_eq]; exact Nat.zero_le _) (by rw [sizeLine_eq]; exact Nat.le_of_ble_eq_true rfl))
  have g1 := get?_update_seq (c := "list") (n := 0) gN (·.push .none)
  refine listUpdate_at g1 rfl (q _ ?_ ((Heap.SameBut.update ..).trans (Heap.SameBut.update ..))) (by rw [sizeLine_eq]; exact Nat.le_of_ble_eq_true rfl) (by rw [sizeLine_eq]; exact Nat.zero_le _)
  exact get?_update_seq (c := "list") g1 (·.pop)
end
end L2
namespace L2
open PySem PySem.Spec PyProof.Rows
section
variable {prog : Program} {w : World} {A : Around} {E : Value → Shared → Prop} {s : Shared}
theorem list_of_at {α : Type} {l : List α} {acc : Array α} (h : acc.size = l.length) (k : ∀ (j : Nat) v, acc[j]? = some v → l[j]? = some v) : acc.toList = l := by
  refine List.ext_getElem? fun j => ?_
  rw [Array.getElem?_toList]
  cases e : acc[j]? with
  | some v => exact (k j v e).symm
  | none =>
    have := Array.getElem?_eq_none_iff.mp e
    exact (List.getElem?_eq_none (by omega)).symm
theorem collect_I {S : Addr} {o : Obj} {es : Array (Int × Value)} {ep : Nat} {t : SetTable} {Q : List Value → Shared → Prop} (hh : A.handled = none) (ho : s.heap.get? S = some o) (hex : o.ExactSet) (hd : o.data = .set es ep t) (hf : t.fits es.size = true) (tb : Tb (!byT w) t) (hz : es.size ≤ 1000)
    (q : ∀ h' tk d acc, acc.Perm (es.toList.map (·.2)) → s.heap.objs.size ≤ h'.objs.size → (∀ b o, b < s.heap.objs.size → s.heap.get? b = some o → h'.get? b = some o) → Q acc { s with heap := h', toks := tk, drawn := d }) : wpAny (model prog w) A (collect (.ref S)) Q E s := by
  have lS : S < s.heap.objs.size := Heap.lt_size ho
  unfold collect
  refine wpAny_bind (wpAny_runValue (codeAny_builtin F.entry_proto_collect ?_)); rw [Around.under_plainId F.plain_proto_collect _]
  show wpAny _ A.in1 (newList [] >>= fun l => again (.builtin "list.__iadd__" ⟨[l, .ref S], []⟩)) _ _ s
  refine wpAny_bind (wpAny_newObj_type (wpAny_pure ⟨plainId_quiet F.plain_list_iadd _, codeAny_builtin F.entry_list_iadd ?_⟩)); rw [Around.under_plainId F.plain_list_iadd _]
  have g0 : (s.heap.push { cls := .type "list", data := .seq ([] : List Value).toArray }).get? s.heap.objs.size = some { cls := .type "list", data := .seq #[] 0 } := Heap.get?_push_size _ rfl
  have s0 : (s.heap.push { cls := .type "list", data := .seq ([] : List Value).toArray }).objs.size = s.heap.objs.size + 1 := Heap.size_push ..
  have ho1 : (s.heap.push { cls := .type "list", data := .seq ([] : List Value).toArray }).get? S = some o := Heap.get?_push_of_some _ ho
  generalize hH : s.heap.push { cls := .type "list", data := .seq ([] : List Value).toArray } = H1 at g0 s0 ho1 ⊢
  have old : ∀ b o, s.heap.get? b = some o → H1.get? b = some o := fun b o e => by rw [← hH]; exact Heap.get?_push_of_some _ e
  show wpAny _ A.in1 (Builtin.List.listExtendWith (.ref s.heap.objs.size) (.ref S) (.ref s.heap.objs.size)) _ _ { s with heap := H1 }
  have hT1 : Shared.TypeIs { s with heap := H1 } (.ref S) "set" := ⟨o, ho1, hex.1⟩
  have ns : Builtin.List.listSameRef (.ref s.heap.objs.size) (.ref S) = false := by simp [Builtin.List.listSameRef, Nat.ne_of_gt lS]
  unfold Builtin.List.listExtendWith
  refine wpAny_bind (wpAny_typeOf hT1 ?_)
  rw [if_neg (by rw [ns]; decide)]
  refine wpAny_bind (iter_I (s := { s with heap := H1 }) ho1 hex hd hf hz (fun hdr => ?_) fun ps d pm => ?_)
  · refine wpAny_bind (wpAny_holding (hint_I (Heap.get?_push_of_some _ ho1) hex ?_))
    rw [if_pos (by decide +kernel)]
    refine wpAny_bind (wpAny_rule (wpAny_bind (touch_I (Heap.get?_push_of_some _ g0) fun h2 g2 b2 => wpAny_pure ⟨plainId_quiet F.plain_extend_loop _, ?_⟩)))
    have gI : h2.get? H1.objs.size = some { cls := .type "set_iterator", data := .fields #[rawInt 0, rawInt 0, .ref S, rawInt es.size, rawInt ep] } := b2.extBut _ _ (by rw [s0]; exact Nat.ne_of_gt (Nat.lt_succ_self _)) (Heap.get?_push_size _ rfl)
    have gS : h2.get? S = some o := b2.extBut _ _ (Nat.ne_of_lt lS) (Heap.get?_push_of_some _ ho1)
    refine coll_loop (I := H1.objs.size) (s := { s with heap := h2 }) (walk_I (S := S) (by simpa using hh) (by rw [s0]; exact Nat.ne_of_lt (Nat.lt_succ_of_lt lS)) hd hf tb hdr) hz (fun m => ?_) ⟨⟨0, gI, fun hb => ?_⟩, gS⟩ g2 fun h' tk acc c l1 l2 g k => ?_
    · rw [s0] at m
      rcases List.mem_cons.mp m with e | m
      · exact Nat.ne_of_lt (Nat.lt_succ_self _) e
      · exact Nat.ne_of_gt lS (List.mem_singleton.mp m)
    · refine below_zero ?_
      rcases hdr hb with z | z
      · exact tb.up z
      · have sz : t.place.size = es.size := by
          unfold SetTable.fits at hf
          rw [Bool.and_eq_true, beq_iff_eq] at hf
          exact hf.1
        have l1 : t.place.toList.length ≤ 1 := by rw [Array.length_toList, sz]; exact z
        generalize t.place.toList = l at l1
        match l, l1 with
        | [], _ => exact .nil
        | [a], _ => exact List.pairwise_singleton _ _
    · have ea : acc.toList = walkV w S ep es := list_of_at (by rw [l1, walk_perm.length_eq, List.length_map, Array.length_toList]) l2
      show wpAny _ A (load s.heap.objs.size >>= _) _ _ { s with heap := h', toks := tk }
      refine wpAny_bind (wpAny_load g (wpAny_pure (q h' tk s.drawn acc.toList (ea ▸ walk_perm) (Nat.le_of_lt (Heap.lt_size g)) fun b o lb e => k b o (fun m => ?_) (b2.extBut _ _ (Nat.ne_of_lt lb) (Heap.get?_push_of_some _ (old b o e))))))
      rcases List.mem_cons.mp m with z | m
      · exact Nat.ne_of_lt lb z
      · rw [List.mem_singleton.mp m, s0] at lb
        exact Nat.lt_irrefl _ (Nat.lt_of_succ_lt lb)
  · refine wpAny_bind (wpAny_holding (hint_I (Heap.get?_push_of_some _ (Heap.get?_push_of_some _ ho1)) hex ?_))
    rw [if_pos (by decide +kernel)]
    refine wpAny_bind (wpAny_rule (wpAny_bind (touch_I (Heap.get?_push_of_some _ (Heap.get?_push_of_some _ g0)) fun h2 g2 b2 => wpAny_pure ⟨plainId_quiet F.plain_extend_loop _, ?_⟩)))
    have s1 : (H1.push { cls := .type "tuple", data := .seq (rawT ps) }).objs.size = s.heap.objs.size + 1 + 1 := by rw [Heap.size_push, s0]
    have gI : h2.get? (s.heap.objs.size + 1 + 1) = some { cls := .type "set_iterator", data := .fields #[.ref H1.objs.size, rawInt 0, .ref S, rawInt es.size, rawInt ep] } := b2.extBut _ _ (Nat.ne_of_gt (Nat.lt_succ_of_lt (Nat.lt_succ_self _))) (by rw [← s1]; exact Heap.get?_push_size _ rfl)
    have gS : h2.get? S = some o := b2.extBut _ _ (Nat.ne_of_lt lS) (Heap.get?_push_of_some _ (Heap.get?_push_of_some _ ho1))
    have gT : h2.get? H1.objs.size = some { cls := .type "tuple", data := .seq (rawT ps) } := b2.extBut _ _ (by rw [s0]; exact Nat.ne_of_gt (Nat.lt_succ_self _)) (Heap.get?_push_of_some _ (Heap.get?_push_size _ rfl))
    rw [show H1.objs.size + 1 = s.heap.objs.size + 1 + 1 by rw [s0]]
    refine coll_loop (I := s.heap.objs.size + 1 + 1) (s := { s with heap := h2, drawn := d }) (walk_D (S := S) (T := H1.objs.size) (by simpa using hh) (Nat.ne_of_lt (Nat.lt_succ_of_lt (Nat.lt_succ_of_lt lS))) (by rw [s0]; exact Nat.ne_of_lt (Nat.lt_succ_self _)) hd hf pm) hz (fun m => ?_) ⟨gI, gS, gT⟩ g2 fun h' tk acc c l1 l2 g k => ?_
    · rcases List.mem_cons.mp m with e | m
      · exact Nat.ne_of_lt (Nat.lt_succ_of_lt (Nat.lt_succ_self _)) e
      rcases List.mem_cons.mp m with e | m
      · exact Nat.ne_of_gt lS e
      · have := List.mem_singleton.mp m
        rw [s0] at this
        exact Nat.ne_of_lt (Nat.lt_succ_self _) this
    · have ea : acc.toList = drawV ps es := list_of_at (by rw [l1, (draw_perm pm).length_eq, List.length_map, Array.length_toList]) l2
      show wpAny _ A (load s.heap.objs.size >>= _) _ _ { s with heap := h', toks := tk, drawn := d }
      refine wpAny_bind (wpAny_load g (wpAny_pure (q h' tk d acc.toList (ea ▸ draw_perm pm) (Nat.le_of_lt (Heap.lt_size g)) fun b o lb e => k b o (fun m => ?_) (b2.extBut _ _ (Nat.ne_of_lt lb) (Heap.get?_push_of_some _ (Heap.get?_push_of_some _ (old b o e)))))))
      rcases List.mem_cons.mp m with z | m
      · exact Nat.ne_of_lt lb z
      · rw [List.mem_singleton.mp m] at lb
        exact Nat.lt_irrefl _ (Nat.lt_of_succ_lt (Nat.lt_of_succ_lt lb))
end
end L2
namespace L2
open PySem PySem.Spec PyProof.Rows
theorem ints_of {vs : List Value} (h : ∀ v ∈ vs, ∃ k t, v = .int k t) : IntsAre vs (vs.map vI) := by
  induction vs with
  | nil => exact .nil
  | cons v vs ih =>
    obtain ⟨k, t, rfl⟩ := h v (.head _)
    exact .cons k t (ih fun u m => h u (.tail _ m))
section
variable {prog : Program} {w : World} {A : Around} {E : Value → Shared → Prop} {s : Shared}
theorem sorted_I {S : Addr} {ks : List Int} {Q : Value → Shared → Prop} (hh : A.handled = none) (hS : SetI prog w (!byT w) s.heap S ks) (h64 : ks.length < 64)
    (q : ∀ h' tk d L (out : List Value) c, s.heap.objs.size ≤ L → h'.get? L = some { cls := .type "list", data := .seq out.toArray c } → IntsAre out (isort ks) → (∀ b o, b < s.heap.objs.size → s.heap.get? b = some o → h'.get? b = some o) → Q (.ref L) { s with heap := h', toks := tk, drawn := d }) : wpAny (model prog w) A (call (.builtin "sorted") [.ref S]) Q E s := by
  obtain ⟨o, es, ep, t, ho, hex, hd, he, hb, hf, tb, rfl⟩ := hS
  rw [List.length_map, Array.length_toList] at h64
  refine Calls.call_function_entry kind_sorted plain_sorted entry_sorted (args_sorted1 _) ?_
  unfold Builtin.«sorted»
  refine wpAny_bind (m := checkCount "sorted" 1 1 _) (wpAny_pure ?_)
  refine wpAny_bind (collect_I (by simpa using hh) ho hex hd hf tb (by omega) fun h1 tk d acc pm lN k1 => ?_)
  have la : acc.length = es.size := by rw [pm.length_eq, List.length_map, Array.length_toList]
  refine wpAny_bind (wpAny_newList ?_ (by rw [sizeLine_eq]; omega))
  have ga : (h1.push (seqObj "list" acc.toArray 0)).get? h1.objs.size = some (seqObj "list" acc.toArray 0) := Heap.get?_push_size _ rfl
  have ia : IntsAre acc (acc.map vI) := ints_of fun v m => by
    obtain ⟨e, me, rfl⟩ := List.mem_map.mp (pm.mem_iff.mp m)
    obtain ⟨⟨k, i1, _⟩, _⟩ := he e me
    obtain ⟨t', e2⟩ := is_int i1
    exact ⟨k, t', e2⟩
  refine wpAny_bind (wpAny_holding (wpAny_call_entry slot_list_sort ⟨_, ga, rfl⟩ entry_list_sort (list_sort_tree ga ia (by omega) fun out ns' a1 a2 a3 => ⟨_, rfl, ?_⟩) (args_list_sort _)))
  have en : ns' = isort (es.toList.map fun e => vI e.2) := sorted_unique (a2.trans (((pm.map vI).trans (by rw [List.map_map]; exact .refl _)).trans (isort_perm _).symm)) a3 (isort_sorted _)
  subst en
  have g1 := get?_update_seq (c := "list") ga (fun _ => (#[] : Array Value))
  have g3 := get?_update_seq (c := "list") (Heap.get?_push_of_some (seqObj "list" #[] 0) (Heap.get?_push_of_some (seqObj "tuple" acc.toArray 0) g1)) (fun _ => out)
  refine wpAny_pure ⟨_, rfl, q _ tk d _ out.toList _ lN (by rw [Array.toArray_toList]; exact g3) a1 fun b o lb e => ?_⟩
  have nb : b ≠ h1.objs.size := Nat.ne_of_lt (Nat.lt_of_lt_of_le lb lN)
  exact (Heap.SameBut.update ..).extBut _ _ nb (Heap.get?_push_of_some _ (Heap.get?_push_of_some _ ((Heap.SameBut.update ..).extBut _ _ nb (Heap.get?_push_of_some _ (k1 b o lb e)))))
end
end L2
namespace L2
open PySem PySem.Spec PyProof.Rows
theorem Inv.drawn {X : Cx} {pins : List (Addr × Obj)} {σ : St} {H : Hp} {s : Shared} (I : Inv X pins σ H s) (d : Drawn) : Inv X pins σ H { s with drawn := d } := by
  refine I.call (ch := []) (g' := s.gens) (d' := d) (t' := s.toks) ⟨fun b o e _ _ _ => e, fun b o e _ _ _ => ⟨o.slots, e⟩, fun b o e n _ => n, fun b o e _ => ⟨o, e⟩, fun b ys e => e, fun b o u e => e, fun b ps e => ⟨#[], by rw [e]; simp⟩⟩ (fun b u e => I.hok b u e) I.bare (fun b hb => nomatch hb)
noncomputable def dnc : List Int → List Int
  | [] => []
  | x :: xs => if x ∈ xs then dnc xs else x :: dnc xs
theorem dnc_of (ns : List Int) : Of (dnc ns) ns := by
  induction ns with
  | nil => exact ⟨.nil, fun x => .rfl⟩
  | cons a ns ih =>
    rw [dnc]
    split
    · rename_i c
      exact ⟨ih.1, fun x => by rw [ih.2, List.mem_cons]; exact ⟨.inr, fun m => m.elim (fun e => e ▸ c) id⟩⟩
    · rename_i c
      exact ⟨List.nodup_cons.mpr ⟨fun m => c ((ih.2 a).mp m), ih.1⟩, fun x => by rw [List.mem_cons, List.mem_cons, ih.2]⟩
theorem dnc_len (ns : List Int) : (dnc ns).length ≤ ns.length := by
  induction ns with
  | nil => exact Nat.le_refl _
  | cons a ns ih =>
    rw [dnc]
    split
    · exact Nat.le_succ_of_le ih
    · exact Nat.succ_le_succ ih
theorem of_len {ks ns : List Int} (h : Of ks ns) : ks.length ≤ ns.length := by
  have pm : ks.Perm (dnc ns) := (List.perm_ext_iff_of_nodup h.1 (dnc_of ns).1).mpr fun x => by rw [h.2, (dnc_of ns).2]
  rw [pm.length_eq]; exact dnc_len ns
theorem of_sort {ks ns : List Int} (h : Of ks ns) : isort ks = isort (dnc ns) := by
  have pm : ks.Perm (dnc ns) := (List.perm_ext_iff_of_nodup h.1 (dnc_of ns).1).mpr fun x => by rw [h.2, (dnc_of ns).2]
  exact sorted_unique ((isort_perm ks).trans (pm.trans (isort_perm _).symm)) (isort_sorted _) (isort_sorted _)
section
variable {X : Cx} {p c : Bool} {io : List Nat} {a e : Expr} {pos pos' pl pr : Pos} {t : TA} {mr : MAt} {ra : FA}
noncomputable def tSS (K : PySem.W.Frag) (t : TA) : TE := fun σ H Q => t σ H fun vs H1 => ∃ (l : Addr) (ns : List Int), vs = [.ref l] ∧ SqL K H1 l (ns.map V.int) ∧ ns.length < 64 ∧ ∀ p, H1 p = none → Q (.ref p) (upd H1 p (.lst ((isort (dnc ns)).map V.int)))
theorem pe_sortset (hc : X.calm = true) (hgl : Gl X "sorted") (hml : X.mg "sorted" = none) (hvl : bootBuiltins "sorted" = some (.builtin "sorted")) (hg : Gl X "set") (hm : X.mg "set" = none) (hv : bootBuiltins "set" = some (.type "set")) (ha : PA X [a] t)
    (he : starEach [a] X.env = (false, eval a X.env) :: starEach [] X.env := by rfl) (hpl : (backTo pos' (starEach [] X.env)).any (·.1) = false := by rfl)
    (he' : starEach [.Call (.Name "set" pr) [a] [] pos'] X.env = (false, eval (.Call (.Name "set" pr) [a] [] pos') X.env) :: starEach [] X.env := by rfl) (hpl' : (backTo pos (starEach [] X.env)).any (·.1) = false := by rfl) :
    PE X (.Call (.Name "sorted" pl) [.Call (.Name "set" pr) [a] [] pos'] [] pos) (tSS X.K t) := by
  intro pins s σ H Q I h
  refine wpAny_Call_Name_kw (ld_blt I hgl hml hvl ?_ (by decide) (by decide))
  refine PyProof.Rows.callWith_builtin1 ?_ he' hpl'
  rw [he']
  show wpAny _ _ (spliced ((false, eval (.Call (.Name "set" pr) [a] [] pos') X.env) :: backTo pos (starEach [] X.env))) _ _ s
  have inner : wpAny (model X.prog X.w) X.A (eval (.Call (.Name "set" pr) [a] [] pos') X.env) (fun u s2 => ∃ (S : Addr) (ks ns : List Int) (H1 : Hp), u = Value.ref S ∧ SetI X.prog X.w (!byT X.w) s2.heap S ks ∧ Of ks ns ∧ ns.length < 64 ∧ Inv X pins σ H1 s2 ∧ ∀ p, H1 p = none → Q (.ref p) (upd H1 p (.lst ((isort (dnc ns)).map V.int)))) X.xe s := by
    refine wpAny_Call_Name_kw (ld_blt I hg hm hv ?_ (by decide) (by decide))
    refine PyProof.Rows.callWith_type1 (thn (ha pos' pins s σ H _ I h) fun us s1 qz => ?_) he hpl
    obtain ⟨vs, H1, I1, r1, l, ns, rfl, hs, h64, q⟩ := qz
    obtain ⟨u, rfl, ru⟩ := vals1 r1
    cases (show u = Value.ref l from ru)
    obtain ⟨its, rv, pl, hz⟩ := I1.list hs
    obtain ⟨ps, rfl, e2⟩ := ints_items rv
    have lp : ps.length = ns.length := by rw [← e2, List.length_map]
    refine call_setI (its := (ps.map fun p => Value.int p.1 p.2).toArray) (ns := ns) (I1.ok.hd hc) pl.isList (by simp [lp]) (by rw [List.size_toArray, List.length_map]; unfold scanBound; omega) (fun i v ev => ?_) fun h' tk ks a1 a2 a3 => ?_
    · rw [List.getElem?_toArray, List.getElem?_map] at ev
      cases ep : ps[i]? with
      | none => rw [ep] at ev; cases ev
      | some p =>
        rw [ep] at ev
        cases ev
        exact ⟨p.1, p.2, rfl, by rw [← e2, List.getElem?_map, ep]; rfl⟩
    · exact ⟨_, ks, ns, H1, rfl, a1, a2, h64, I1.kept (t' := tk) (fun b u e => a3 b u (Heap.lt_size e) e), q⟩
  refine Calls.spliced_cons (thn inner fun u s2 qz => ?_)
  obtain ⟨S, ks, ns, H1, rfl, hS, hO, h64, I2, q⟩ := qz
  refine Calls.spliced_nil ?_
  have lk : ks.length ≤ ns.length := of_len hO
  refine sorted_I (I2.ok.hd hc) hS (by omega) fun h' tk d L out cc lN g io k => ?_
  rw [of_sort hO] at io
  have ld : ((isort (dnc ns)).map V.int).length ≤ sizeLine := by
    rw [List.length_map, ← of_sort hO, (isort_perm ks).length_eq, sizeLine_eq]; omega
  refine ⟨.ref L, _, (I2.laid (t' := tk) (o := .lst ((isort (dnc ns)).map V.int)) (fun b ob e => k b ob (Heap.lt_size e) e) lN ⟨ld, out, cc, valsI io, g⟩).drawn d, rfl, q _ (I2.hok.fresh lN)⟩
noncomputable def mSortSet (mr : MAt) : MEt := fun δ K => mr δ fun rs δ' => n1 (fun d => ∃ ns : List Int, d = .list (ns.map PyData.int) ∧ ns.length < 64 ∧ K (.nd (((isort (dnc ns)).map PyData.int).map OT.fz)) δ') (OT.datas rs)
theorem m_sortset (hc : X.calm = true) (hgl : Gl X "sorted") (hml : X.mg "sorted" = none) (hvl : bootBuiltins "sorted" = some (.builtin "sorted")) (hg : Gl X "set") (hm : X.mg "set" = none) (hv : bootBuiltins "set" = some (.type "set")) (ha : MA X io p c [a] mr)
    (he : starEach [a] X.env = (false, eval a X.env) :: starEach [] X.env := by rfl) (hpl : (backTo pos' (starEach [] X.env)).any (·.1) = false := by rfl)
    (he' : starEach [.Call (.Name "set" pr) [a] [] pos'] X.env = (false, eval (.Call (.Name "set" pr) [a] [] pos') X.env) :: starEach [] X.env := by rfl) (hpl' : (backTo pos (starEach [] X.env)).any (·.1) = false := by rfl) :
    ME X io p true (.Call (.Name "sorted" pl) [.Call (.Name "set" pr) [a] [] pos'] [] pos) (mSortSet mr) := by
  obtain ⟨_, A, s⟩ := ha
  refine ⟨_, pe_sortset hc hgl hml hvl hg hm hv A he hpl he' hpl', fun C H σ δ fp ex K Q R h kk => s C H σ δ fp ex _ _ R h fun H1 vs rs δ1 fp1 new r1 h1 => ?_⟩
  obtain ⟨v, d, rfl, e2, q, ns, e, h64, h2⟩ := (r1.das R).one h1
  subst e
  obtain ⟨l, rfl, hs⟩ := q.ints_sq
  refine ⟨l, ns, rfl, hs, h64, fun p hp => ?_⟩
  have sm := same_new hp (.lst ((isort (dnc ns)).map V.int))
  exact kk _ _ _ δ1 fp1 [p] (RE.tree R r1.base r1.stp sm (one_new hp) (one_nd p) (Own.list hp (Das.ints _))) h2
noncomputable def fSortSet (a : FA) : FE := fun δ => (a δ).bind fun q => match OT.datas q.1 with | [.list es] => (intsD es).bind fun ns => if ns.length < 64 then some (.nd (((isort (dnc ns)).map PyData.int).map OT.fz), q.2) else none | _ => none
theorem fe_sortset {c : Bool} {e : Expr} (h : ME X io p c e (mSortSet (o2 ra))) : ME X io p c e (o2 (fSortSet ra)) := h.weak fun δ K h => by
  obtain ⟨r, δ', h, k⟩ := h
  obtain ⟨⟨x, δ1⟩, h1, h⟩ := bs h
  refine ⟨x, δ1, h1, ?_⟩
  dsimp only at h ⊢
  split at h
  case h_2 => cases h
  rename_i es q
  rw [q]
  obtain ⟨ns, h2, h⟩ := bs h
  split at h
  case isFalse => cases h
  rename_i l64
  cases h
  exact ⟨ns, by rw [intsD_eq h2], l64, k⟩
end
end L2
namespace L2
open PySem PySem.Spec PyProof.Rows
section
variable {X : Cx} {io : List Nat} {st : Stmt} {ra : FA}
noncomputable def kFl (k : OT → DEnv → RS) : OT → DEnv → RS := fun r δ => if flatT r = true then k r δ else .bad
theorem fs_xF {F : FD} {k : OT → DEnv → RS} (h : MS X io st (oS (wE (fFlatT (fCall F ra)) k))) : MS X io st (oS (wX F ra (kFl k))) := by
  have e : wE (fFlatT (fCall F ra)) k = wE (fCall F ra) (kFl k) := funext fun δ => by
    unfold wE fFlatT kFl
    cases q : fCall F ra δ with
    | none => rfl
    | some r =>
      dsimp only [Option.bind]
      by_cases c : flatT r.1 = true
      · rw [if_pos c]; exact (if_pos c).symm
      · rw [if_neg c]; exact (if_neg c).symm
  rw [e] at h
  exact fs_x h
instance nx_kFl {k : OT → DEnv → RS} [n : NoExK k] : NoExK (kFl k) := ⟨fun r δ c δ' z => by
  unfold kFl at z
  split at z
  · exact n.no _ _ _ _ z
  · cases z⟩
end
end L2
namespace L2
open PySem PySem.Spec PyProof.Rows
noncomputable def asFz (o : Option (Option OT)) (δ : DEnv) : Option (OT × DEnv) := match o with | some (some (.fz d)) => some (.fz d, δ) | _ => none
theorem asFz_fz (d : PyData) (δ : DEnv) : asFz (some (some (.fz d))) δ = some (.fz d, δ) := rfl
noncomputable def asAny (o : Option (Option OT)) (δ : DEnv) : Option (OT × DEnv) := match o with | some (some t) => some (.fz t.data, δ) | _ => none
theorem asAny_t (t : OT) (δ : DEnv) : asAny (some (some t)) δ = some (.fz t.data, δ) := rfl
theorem fVar_ap (i : Nat) (δ : DEnv) : fVar i δ = asFz δ[i]? δ := rfl
theorem fOwn_ap (i : Nat) (δ : DEnv) : fOwn i δ = asAny δ[i]? δ := rfl
theorem fC_ap (d : PyData) (δ : DEnv) : fC d δ = some (.fz d, δ) := rfl
theorem fBinS_ap (g : PyData → PyData → Option PyData) (a b : FE) (δ : DEnv) : fBinS g a b δ = (a δ).bind fun p => (b p.2).bind fun q => (g p.1.data q.1.data).bind fun d => some (.fz d, q.2) := rfl
theorem fBin_ap (g : PyData → PyData → Option OT) (a b : FE) (δ : DEnv) : fBin g a b δ = (a δ).bind fun p => (b p.2).bind fun q => (g p.1.data q.1.data).bind fun d => some (d, q.2) := rfl
theorem fUn_ap (g : PyData → Option PyData) (a : FE) (δ : DEnv) : fUn g a δ = (a δ).bind fun p => (g p.1.data).bind fun d => some (.fz d, p.2) := rfl
noncomputable def onB {α : Type} (d : PyData) (x y : Option α) : Option α := match d with | .bool true => x | .bool false => y | _ => none
theorem onB_t {α : Type} (x y : Option α) : onB (.bool true) x y = x := rfl
theorem onB_f {α : Type} (x y : Option α) : onB (.bool false) x y = y := rfl
theorem fAnd_ap (a b : FE) (δ : DEnv) : fAnd a b δ = (a δ).bind fun p => onB p.1.data (b p.2) (some (.fz (.bool false), p.2)) := by
  unfold fAnd onB
  cases a δ with
  | none => rfl
  | some p => first | rfl | (simp only [Option.bind_some]; done) | (simp only [Option.bind_some]; generalize p.1.data = d; cases d <;> first | rfl | (rename_i b; cases b <;> rfl))
theorem fOr_ap (a b : FE) (δ : DEnv) : fOr a b δ = (a δ).bind fun p => onB p.1.data (some (.fz (.bool true), p.2)) (b p.2) := by
  unfold fOr onB
  cases a δ with
  | none => rfl
  | some p => first | rfl | (simp only [Option.bind_some]; done) | (simp only [Option.bind_some]; generalize p.1.data = d; cases d <;> first | rfl | (rename_i b; cases b <;> rfl))
theorem fIf_ap (t : FT) (a b : FE) (δ : DEnv) : fIf t a b δ = (t δ).bind fun p => if p.1 = true then a p.2 else b p.2 := rfl
noncomputable def asB' (t : OT) (δ : DEnv) : Option (Bool × DEnv) := match t with | .fz (.bool b) => some (b, δ) | _ => none
theorem asB'_b (b : Bool) (δ : DEnv) : asB' (.fz (.bool b)) δ = some (b, δ) := rfl
theorem tV_ap (e : FE) (δ : DEnv) : tV e δ = (e δ).bind fun p => asB' p.1 p.2 := by
  unfold tV asB'
  cases e δ with
  | none => rfl
  | some p => rfl
theorem tNo_ap (t : FT) (δ : DEnv) : tNo t δ = (t δ).bind fun p => some (!p.1, p.2) := rfl
theorem tAn_ap (t u : FT) (δ : DEnv) : tAn t u δ = (t δ).bind fun p => if p.1 = true then u p.2 else some (false, p.2) := rfl
theorem tO_ap (t u : FT) (δ : DEnv) : tO t u δ = (t δ).bind fun p => if p.1 = true then some (true, p.2) else u p.2 := rfl
theorem tD_ap (e : FE) (δ : DEnv) : tD e δ = (e δ).bind fun p => (truD p.1.data).bind fun b => some (b, p.2) := rfl
theorem tYes_ap (δ : DEnv) : tYes δ = some (true, δ) := rfl
theorem aNil_ap (δ : DEnv) : aNil δ = some ([], δ) := rfl
theorem aCons_ap (e : FE) (a : FA) (δ : DEnv) : aCons e a δ = (e δ).bind fun p => (a p.2).bind fun q => some (p.1 :: q.1, q.2) := rfl
theorem fTup_ap (a : FA) (δ : DEnv) : fTup a δ = (a δ).bind fun p => if p.1.length ≤ sizeLine then some (.fz (.tuple (OT.datas p.1)), p.2) else none := rfl
theorem fLst_ap (a : FA) (δ : DEnv) : fLst a δ = (a δ).bind fun p => if p.1.length ≤ sizeLine then some (.nd p.1, p.2) else none := rfl
theorem fTupO_ap (a : FA) (δ : DEnv) : fTupO a δ = (a δ).bind fun p => if p.1.length ≤ sizeLine then some (.tp p.1, p.2) else none := rfl
theorem fFlat_ap (e : FE) (δ : DEnv) : fFlat e δ = (e δ).bind fun p => if flatD p.1.data = true then some (.fz p.1.data, p.2) else none := rfl
theorem fFlatT_ap (e : FE) (δ : DEnv) : fFlatT e δ = (e δ).bind fun p => if flatT p.1 = true then some (p.1, p.2) else none := rfl
noncomputable def okO (x : RF) (δ : DEnv) : Option (OT × DEnv) := match x with | .ok r => some (r, δ) | _ => none
theorem okO_ok (r : OT) (δ : DEnv) : okO (.ok r) δ = some (r, δ) := rfl
theorem fCall_ap (F : FD) (a : FA) (δ : DEnv) : fCall F a δ = (a δ).bind fun p => okO (F (OT.datas p.1)) p.2 := by
  unfold fCall okO
  cases a δ with
  | none => rfl
  | some p => rfl
noncomputable def atO {α : Type} (o : Option (Option OT)) (k : OT → Option α) : Option α := match o with | some (some t) => k t | _ => none
theorem atO_t {α : Type} (t : OT) (k : OT → Option α) : atO (some (some t)) k = k t := rfl
theorem fCallI_ap (i : Nat) (F : FIO) (a : FA) (δ : DEnv) : fCallI i F a δ = atO δ[i]? fun _ => (a δ).bind fun p => atO p.2[i]? fun t => (F t (OT.datas p.1)).bind fun q => some (q.1, p.2.set i (some q.2)) := by
  unfold fCallI
  generalize δ[i]? = o
  rcases o with _ | _ | t
  · rfl
  · rfl
  · show (a δ).bind _ = (a δ).bind _
    cases a δ with
    | none => rfl
    | some p =>
      show (fun o : Option (Option OT) => (match o with | some (some t) => (F t (OT.datas p.1)).bind fun q => some (q.1, p.2.set i (some q.2)) | _ => none)) p.2[i]? = atO p.2[i]? _
      generalize p.2[i]? = o
      rcases o with _ | _ | t <;> rfl
theorem fBlS_ap (g : List PyData → Option PyData) (a : FA) (δ : DEnv) : fBlS g a δ = (a δ).bind fun p => (g (OT.datas p.1)).bind fun d => some (.fz d, p.2) := rfl
theorem fBl_ap (g : List PyData → Option OT) (a : FA) (δ : DEnv) : fBl g a δ = (a δ).bind fun p => (g (OT.datas p.1)).bind fun d => some (d, p.2) := rfl
theorem fIsi_ap (T : String) (e : FE) (δ : DEnv) : fIsi T e δ = (e δ).bind fun p => if isFnD p.1.data = true then none else some (.fz (.bool (isTy T p.1.data)), p.2) := rfl
theorem oN_ap (δ : DEnv) : oN δ = some (none, δ) := rfl
noncomputable def asInt {α : Type} (d : PyData) (k : Int → Option α) : Option α := match d with | .int i => k i | _ => none
theorem asInt_i {α : Type} (i : Int) (k : Int → Option α) : asInt (.int i) k = k i := rfl
noncomputable def asLst {α : Type} (d : PyData) (k : List PyData → Option α) : Option α := match d with | .list i => k i | _ => none
theorem asLst_l {α : Type} (i : List PyData) (k : List PyData → Option α) : asLst (.list i) k = k i := rfl
noncomputable def asTup {α : Type} (d : PyData) (k : List PyData → Option α) : Option α := match d with | .tuple i => k i | _ => none
theorem asTup_t {α : Type} (i : List PyData) (k : List PyData → Option α) : asTup (.tuple i) k = k i := rfl
theorem oI_ap (e : FE) (δ : DEnv) : oI e δ = (e δ).bind fun p => asInt p.1.data fun i => some (some i, p.2) := by
  unfold oI asInt
  cases e δ with
  | none => rfl
  | some p => rfl
theorem fSl_ap (e : FE) (lo hi : FO) (δ : DEnv) : fSl e lo hi δ = (e δ).bind fun p => (lo p.2).bind fun q => (hi q.2).bind fun r => asLst p.1.data fun ds => some (.nd ((cutD ds q.1 r.1).map OT.fz), r.2) := by
  unfold fSl asLst; rfl
theorem iLst_ap (e : FE) (δ : DEnv) : iLst e δ = (e δ).bind fun p => asLst p.1.data fun ds => some (ds, p.2) := by
  unfold iLst asLst; rfl
theorem iTp_ap (e : FE) (δ : DEnv) : iTp e δ = (e δ).bind fun p => asTup p.1.data fun ds => some (ds, p.2) := by
  unfold iTp asTup; rfl
noncomputable def as1 {α : Type} (ds : List PyData) (k : Int → Option α) : Option α := match ds with | [.int i] => k i | _ => none
theorem as1_i {α : Type} (i : Int) (k : Int → Option α) : as1 [.int i] k = k i := rfl
noncomputable def as2 {α : Type} (ds : List PyData) (k : Int → Int → Option α) : Option α := match ds with | [.int i, .int j] => k i j | _ => none
theorem as2_i {α : Type} (i j : Int) (k : Int → Int → Option α) : as2 [.int i, .int j] k = k i j := rfl
theorem iRa_ap (a : FA) (δ : DEnv) : iRa a δ = (a δ).bind fun p => as1 (OT.datas p.1) fun j => if rOk j = true then some (rngD 0 j.toNat, p.2) else none := by
  unfold iRa as1; rfl
theorem iRb_ap (a : FA) (δ : DEnv) : iRb a δ = (a δ).bind fun p => as2 (OT.datas p.1) fun i j => if (rOk i && rOk j) = true then some (rngD i (j - i).toNat, p.2) else none := by
  unfold iRb as2; rfl
theorem fLR1_ap (a : FA) (δ : DEnv) : fLR1 a δ = (a δ).bind fun p => as1 (OT.datas p.1) fun j => if rOk j = true ∧ j.toNat ≤ sizeLine then some (.nd ((rngD 0 j.toNat).map OT.fz), p.2) else none := by
  unfold fLR1 as1; rfl
theorem fRep_ap (a b : FE) (δ : DEnv) : fRep a b δ = (a δ).bind fun p => (b p.2).bind fun q => asInt q.1.data fun k => if rOk k = true ∧ k.toNat ≤ sizeLine then some (.nd (List.replicate k.toNat (.fz p.1.data)), p.2) else none := by
  unfold fRep asInt; rfl
noncomputable def asLL {α : Type} (ds : List PyData) (k : List PyData → List PyData → Option α) : Option α := match ds with | [.list i, .list j] => k i j | _ => none
theorem asLL_i {α : Type} (i j : List PyData) (k : List PyData → List PyData → Option α) : asLL [.list i, .list j] k = k i j := rfl
theorem iZip2_ap (a : FA) (δ : DEnv) : iZip2 a δ = (a δ).bind fun p => asLL (OT.datas p.1) fun as bs => some (zipD as bs, p.2) := by
  unfold iZip2 asLL; rfl
theorem gNm_ap (i : Nat) (d : PyData) (δ : DEnv) : gNm i d δ = some (δ.set i (some (.fz d))) := rfl
theorem gNmS_ap (i : Nat) (d : PyData) (δ : DEnv) : gNmS i d δ = if flatD d = true then some (δ.set i (some (.fz d))) else none := rfl
theorem gNl_ap (δ : DEnv) : gNl [] δ = some δ := rfl
theorem gCn_ap (g : FG) (gs : FGs) (d : PyData) (r : List PyData) (δ : DEnv) : gCn g gs (d :: r) δ = (g d δ).bind (gs r) := rfl
theorem gTp_ap (n : Nat) (gs : FGs) (ds : List PyData) (δ : DEnv) : gTp n gs (.tuple ds) δ = if ds.length = n then gs ds δ else none := rfl
theorem gLs_ap (n : Nat) (gs : FGs) (ds : List PyData) (δ : DEnv) : gLs n gs (.list ds) δ = if ds.length = n then gs ds δ else none := rfl
noncomputable def RS.thn (r : RS) (g : FS) : RS := match r with | .nx δ => g δ | r => r
theorem thn_nx (δ : DEnv) (g : FS) : (RS.nx δ).thn g = g δ := rfl
theorem thn_rt (r : OT) (δ : DEnv) (g : FS) : (RS.rt r δ).thn g = .rt r δ := rfl
theorem thn_bk (δ : DEnv) (g : FS) : (RS.bk δ).thn g = .bk δ := rfl
theorem thn_ct (δ : DEnv) (g : FS) : (RS.ct δ).thn g = .ct δ := rfl
theorem thn_ex (c : Str) (δ : DEnv) (g : FS) : (RS.ex c δ).thn g = .ex c δ := rfl
theorem fSeq_ap (f g : FS) (δ : DEnv) : fSeq f g δ = (f δ).thn g := rfl
theorem fNx_ap (δ : DEnv) : fNx δ = .nx δ := rfl
theorem fBrk_ap (δ : DEnv) : fBrk δ = .bk δ := rfl
theorem fCnt_ap (δ : DEnv) : fCnt δ = .ct δ := rfl
theorem fRaise_ap (c : Str) (δ : DEnv) : fRaise c δ = .ex c δ := rfl
theorem fRetN_ap (δ : DEnv) : fRetN δ = .rt (.fz .none) δ := rfl
noncomputable def onO {α : Type} (o : Option (α × DEnv)) (k : α → DEnv → RS) : RS := match o with | some (r, δ') => k r δ' | none => .bad
theorem onO_some {α : Type} (r : α) (δ : DEnv) (k : α → DEnv → RS) : onO (some (r, δ)) k = k r δ := rfl
theorem wE_ap (e : FE) (k : OT → DEnv → RS) (δ : DEnv) : wE e k δ = onO (e δ) k := by
  unfold wE onO
  cases e δ <;> rfl
noncomputable def onF (x : RF) (δ : DEnv) (k : OT → DEnv → RS) : RS := match x with | .ok r => k r δ | .exn c => .ex c δ | .bad => .bad
theorem onF_ok (r : OT) (δ : DEnv) (k : OT → DEnv → RS) : onF (.ok r) δ k = k r δ := rfl
theorem onF_ex (c : Str) (δ : DEnv) (k : OT → DEnv → RS) : onF (.exn c) δ k = .ex c δ := rfl
theorem wX_ap (F : FD) (a : FA) (k : OT → DEnv → RS) (δ : DEnv) : wX F a k δ = onO (a δ) fun rs δ1 => onF (F (OT.datas rs)) δ1 k := by
  unfold wX onO onF
  cases a δ with
  | none => rfl
  | some p => rfl
theorem fIfS_ap (t : FT) (u w : FS) (δ : DEnv) : fIfS t u w δ = onO (t δ) fun b δ' => if b = true then u δ' else w δ' := by
  unfold fIfS onO
  cases t δ <;> rfl
theorem fFor_ap (it : FI) (g : FG) (u : FS) (δ : DEnv) : fFor it g u δ = onO (it δ) fun ds δ1 => forLoop g u ds δ1 := by
  unfold fFor onO
  cases it δ <;> rfl
theorem kDrop_ap (r : OT) (δ : DEnv) : kDrop r δ = .nx δ := rfl
theorem kRet_ap (r : OT) (δ : DEnv) : kRet r δ = .rt r δ := rfl
theorem kRetS_ap (r : OT) (δ : DEnv) : kRetS r δ = if flatD r.data = true then .rt (.fz r.data) δ else .bad := rfl
theorem kSet_ap (i : Nat) (r : OT) (δ : DEnv) : kSet i r δ = .nx (δ.set i (some (.fz r.data))) := rfl
theorem kSetS_ap (i : Nat) (r : OT) (δ : DEnv) : kSetS i r δ = if flatD r.data = true then .nx (δ.set i (some (.fz r.data))) else .bad := rfl
theorem kSetO_ap (i : Nat) (r : OT) (δ : DEnv) : kSetO i r δ = .nx (δ.set i (some r)) := rfl
noncomputable def onD (o : Option DEnv) : RS := match o with | some δ => .nx δ | none => .bad
theorem onD_some (δ : DEnv) : onD (some δ) = .nx δ := rfl
theorem kAsg_ap (g : FG) (r : OT) (δ : DEnv) : kAsg g r δ = onD (g r.data δ) := rfl
noncomputable def onT (o : Option (Option OT)) (k : OT → RS) : RS := match o with | some (some t) => k t | _ => .bad
theorem onT_t (t : OT) (k : OT → RS) : onT (some (some t)) k = k t := rfl
theorem fRetO_ap (i : Nat) (δ : DEnv) : fRetO i δ = onT δ[i]? fun t => .rt t (δ.set i none) := rfl
theorem fFreeze_ap (i : Nat) (u : FS) (δ : DEnv) : fFreeze i u δ = onT δ[i]? fun t => u (δ.set i (some (.fz t.data))) := rfl
noncomputable def onN (o : Option (Option OT)) (k : List OT → RS) : RS := match o with | some (some (.nd ts)) => k ts | _ => .bad
theorem onN_t (t : List OT) (k : List OT → RS) : onN (some (some (.nd t))) k = k t := rfl
theorem fAppend_ap (i : Nat) (e : FE) (δ : DEnv) : fAppend i e δ = onN δ[i]? fun _ => onO (e δ) fun r δ1 => onN δ1[i]? fun ts => if ts.length < sizeLine then .nx (δ1.set i (some (.nd (ts ++ [.fz r.data])))) else .bad := by
  unfold fAppend
  generalize δ[i]? = o
  rcases o with _ | _ | (_ | _ | _)
  · rfl
  · rfl
  · rfl
  · show wE e _ δ = onO (e δ) _
    rw [wE_ap]
    congr 1
  · rfl
theorem fAppendO_ap (i : Nat) (e : FE) (δ : DEnv) : fAppendO i e δ = onN δ[i]? fun _ => onO (e δ) fun r δ1 => onN δ1[i]? fun ts => if ts.length < sizeLine then .nx (δ1.set i (some (.nd (ts ++ [r])))) else .bad := by
  unfold fAppendO
  generalize δ[i]? = o
  rcases o with _ | _ | (_ | _ | _)
  · rfl
  · rfl
  · rfl
  · show wE e _ δ = onO (e δ) _
    rw [wE_ap]
    congr 1
  · rfl
noncomputable def onI (d : PyData) (k : Int → RS) : RS := match d with | .int i => k i | _ => .bad
theorem onI_i (i : Int) (k : Int → RS) : onI (.int i) k = k i := rfl
noncomputable def onX (o : Option Nat) (k : Nat → RS) : RS := match o with | some i => k i | _ => .bad
theorem onX_s (i : Nat) (k : Nat → RS) : onX (some i) k = k i := rfl
theorem fPut_ap (i : Nat) (e j : FE) (δ : DEnv) : fPut i e j δ = onO (e δ) fun r δ1 => onN δ1[i]? fun ts => onO (j δ1) fun n _ => onI n.data fun k => onX (ixN ts.length k) fun j => .nx (δ1.set i (some (.nd (ts.set j (.fz r.data))))) := by
  unfold fPut
  rw [wE_ap]
  congr 1
  funext r δ1
  generalize δ1[i]? = o
  rcases o with _ | _ | (_ | _ | _)
  · rfl
  · rfl
  · rfl
  · show wE j _ δ1 = onO (j δ1) _
    rw [wE_ap]
    congr 1
    funext n δ2
    generalize n.data = d
    cases d <;> try rfl
    show (match ixN _ _ with | some j => _ | none => _) = onX (ixN _ _) _
    generalize ixN _ _ = x
    cases x <;> rfl
  · rfl
noncomputable def onU (o : Option OT) (k : List OT → RS) : RS := match o with | some (.nd ts) => k ts | _ => .bad
theorem onU_t (t : List OT) (k : List OT → RS) : onU (some (.nd t)) k = k t := rfl
noncomputable def onP (o : Option (Option OT)) (k : List OT → RS) : RS := match o with | some (some (.tp ts)) => k ts | _ => .bad
theorem onP_t (t : List OT) (k : List OT → RS) : onP (some (some (.tp t))) k = k t := rfl
theorem fAppAt_ap (i c : Nat) (e : FE) (δ : DEnv) : fAppAt i c e δ = onP δ[i]? fun ts => onU ts[c]? fun us => onO (e δ) fun r _ => if us.length < sizeLine then .nx (δ.set i (some (.tp (ts.set c (.nd (us ++ [.fz r.data])))))) else .bad := by
  unfold fAppAt
  generalize δ[i]? = o
  rcases o with _ | _ | (_ | _ | ts)
  · rfl
  · rfl
  · rfl
  · rfl
  · show (match ts[c]? with | some (.nd us) => wE e _ δ | _ => _) = onU ts[c]? _
    generalize ts[c]? = o
    rcases o with _ | (_ | _ | _)
    · rfl
    · rfl
    · show wE e _ δ = onO (e δ) _
      rw [wE_ap]
    · rfl
noncomputable def on2 (ds : List PyData) (k : PyData → PyData → RS) : RS := match ds with | [d, e] => k d e | _ => .bad
theorem on2_d (d e : PyData) (k : PyData → PyData → RS) : on2 [d, e] k = k d e := rfl
theorem fPar_ap (i j : Nat) (a : FA) (δ : DEnv) : fPar i j a δ = onO (a δ) fun rs δ1 => on2 (OT.datas rs) fun d e => .nx ((δ1.set i (some (.fz d))).set j (some (.fz e))) := by
  unfold fPar onO on2
  cases a δ <;> rfl
theorem runD_ap {np n : Nat} {S : FS} {ds : List PyData} (h : ds.length = np) : runD np n S ds = (S (startN n ds)).told := by
  unfold runD; rw [if_pos h]
theorem runI_ap {np n : Nat} {S : FS} {t : OT} {ds : List PyData} (h : ds.length + 1 = np) : runI np n S t ds = (S (startIN n t ds)).toldI := by
  unfold runI; rw [if_pos h]
theorem told_nx (δ : DEnv) : (RS.nx δ).told = .ok (.fz .none) := rfl
theorem told_rt (r : OT) (δ : DEnv) : (RS.rt r δ).told = .ok r := rfl
theorem told_ex (c : Str) (δ : DEnv) : (RS.ex c δ).told = .exn c := rfl
theorem gAdd_i (i j : Int) : gAdd (.int i) (.int j) = some (.int (i + j)) := rfl
theorem gSb_i (i j : Int) : gSb (.int i) (.int j) = some (.int (i - j)) := rfl
theorem gLt_i (i j : Int) : gLt (.int i) (.int j) = some (.bool (decide (i < j))) := rfl
theorem gLe_i (i j : Int) : gLe (.int i) (.int j) = some (.bool (decide (i ≤ j))) := rfl
theorem gGt_i (i j : Int) : gGt (.int i) (.int j) = some (.bool (decide (j < i))) := rfl
theorem gGe_i (i j : Int) : gGe (.int i) (.int j) = some (.bool (decide (j ≤ i))) := rfl
theorem gMul_i {i j : Int} (h : mulB i j = true) : gMul (.int i) (.int j) = some (.int (i * j)) := by
  unfold gMul i2c; dsimp only; rw [if_pos h]
theorem gFdiv_i {i j : Int} (h : divB i j = true) : gFdiv (.int i) (.int j) = some (.int (i.fdiv j)) := by
  unfold gFdiv i2c; dsimp only; rw [if_pos h]
theorem gMod_i {i j : Int} (h : j ≠ 0) : gMod (.int i) (.int j) = some (.int (i.fmod j)) := by
  unfold gMod i2c modB; dsimp only; rw [if_pos (decide_eq_true h)]
theorem mulB_bt {m n : Nat} {x y : Int} (h : Bt m x) (k : Bt n y) (hmn : m + n ≤ 100000000 := by decide) : mulB x y = true := mulB_iff.mpr (h.mulOk k hmn)
theorem mulB_l {x y : Int} (h : x.natAbs < 2 ^ 64) : mulB x y = true := mulB_iff.mpr (.of_left (intBits_le_64 (by omega) (by omega)))
theorem mulB_r {x y : Int} (h : y.natAbs < 2 ^ 64) : mulB x y = true := mulB_iff.mpr (.of_right (intBits_le_64 (by omega) (by omega)))
theorem divB_bt {n : Nat} {i j : Int} (h0 : j ≠ 0) (h : Bt n j) (hn : n ≤ 9000 := by decide) : divB i j = true := by
  obtain ⟨h1, h2⟩ := DivOk.of (i := i) h0 h hn
  unfold divB
  rw [decide_eq_true h1, decide_eq_true h2]; rfl
theorem gEq_i (i j : Int) : gEq (.int i) (.int j) = some (.bool (decide (i = j))) := by
  show some (PyData.bool (i == j)) = _
  rw [show (i == j) = decide (i = j) from rfl]
theorem gNe_i (i j : Int) : gNe (.int i) (.int j) = some (.bool (!decide (i = j))) := by
  show some (PyData.bool (!(i == j))) = _
  rw [show (i == j) = decide (i = j) from rfl]
theorem gIs_n (d : PyData) : gIs d .none = some (.bool (isNoneD d)) := rfl
theorem gIsNot_n (d : PyData) : gIsNot d .none = some (.bool (!isNoneD d)) := rfl
theorem gIx_l (ds : List PyData) (i : Int) : gIx (.list ds) (.int i) = (atI ds i).bind fun x => some (.fz x) := rfl
theorem gIx_t (ds : List PyData) (i : Int) : gIx (.tuple ds) (.int i) = (atI ds i).bind fun x => some (.fz x) := rfl
theorem gLen_l (ds : List PyData) : gLen [.list ds] = some (.int ds.length) := rfl
theorem gLen_t (ds : List PyData) : gLen [.tuple ds] = some (.int ds.length) := rfl
theorem gAbs_i (i : Int) : gAbs [.int i] = some (.int (i.natAbs : Int)) := by
  show some (PyData.int (if i < 0 then -i else i)) = _
  congr 2; split <;> omega
theorem gMax_i (i j : Int) : gMax [.int i, .int j] = some (.int (if j > i then j else i)) := rfl
theorem gMin_i (i j : Int) : gMin [.int i, .int j] = some (.int (if j < i then j else i)) := rfl
theorem gInt_i (i : Int) : gInt [.int i] = some (.int i) := rfl
theorem gInt_b (b : Bool) : gInt [.bool b] = some (.int (if b then 1 else 0)) := rfl
theorem gList_l (ds : List PyData) : gList [.list ds] = some (.nd (ds.map OT.fz)) := rfl
theorem gList_t (ds : List PyData) : gList [.tuple ds] = some (.nd (ds.map OT.fz)) := rfl
theorem gCat_l {ds es : List PyData} (h : ds.length + es.length ≤ sizeLine) : gCat (.list ds) (.list es) = some (.nd ((ds ++ es).map OT.fz)) := by
  unfold gCat; dsimp only; rw [if_pos h]
theorem negD_i (i : Int) : negD (.int i) = some (.int (-i)) := rfl
theorem notD_b (b : Bool) : notD (.bool b) = some (.bool (!b)) := rfl
theorem truD_b (b : Bool) : truD (.bool b) = some b := rfl
theorem truD_i (i : Int) : truD (.int i) = some (i != 0) := rfl
theorem truD_n : truD .none = some false := rfl
theorem truD_l (ds : List PyData) : truD (.list ds) = some (!ds.isEmpty) := rfl
theorem for_nx {gg : FG} {u : FS} {ds : List PyData} {δ : DEnv} (I : Nat → DEnv → Prop) (h0 : I 0 δ)
    (turn : ∀ (i : Nat) (d : PyData) (δ : DEnv), ds[i]? = some d → I i δ → ∃ δ1 δ2, gg d δ = some δ1 ∧ (u δ1 = .nx δ2 ∨ u δ1 = .ct δ2) ∧ I (i + 1) δ2) : ∃ δ', forLoop gg u ds δ = .nx δ' ∧ I ds.length δ' := by
  induction ds generalizing δ I with
  | nil => exact ⟨δ, rfl, h0⟩
  | cons d ds ih =>
    obtain ⟨δ1, δ2, e1, e2, h1⟩ := turn 0 d δ rfl h0
    obtain ⟨δ', e3, h3⟩ := ih (δ := δ2) (fun i δ => I (i + 1) δ) h1 fun i d' δ hd hi => turn (i + 1) d' δ (by simpa using hd) hi
    refine ⟨δ', ?_, h3⟩
    rw [forLoop_cons, e1]
    dsimp only
    rcases e2 with e2 | e2 <;> rw [e2] <;> exact e3
noncomputable def Goes (r : RS) (Q : DEnv → Prop) : Prop := ∃ δ, (r = .nx δ ∨ r = .ct δ) ∧ Q δ
theorem Goes.nx {δ : DEnv} {Q : DEnv → Prop} (h : Q δ) : Goes (.nx δ) Q := ⟨δ, .inl rfl, h⟩
theorem Goes.ct {δ : DEnv} {Q : DEnv → Prop} (h : Q δ) : Goes (.ct δ) Q := ⟨δ, .inr rfl, h⟩
theorem comp_nm {α : Type} {me : FE} {cs : DEnv} (mk : α → PyData) (f : α → OT) : ∀ (xs : List α) (z : Option OT), (∀ x ∈ xs, me (some (.fz (mk x)) :: cs) = some (f x, some (.fz (mk x)) :: cs)) →
    ∃ z', compLoop (gNm 0) tYes me (xs.map mk) (z :: cs) = some (xs.map f, z' :: cs)
  | [], z, _ => ⟨z, rfl⟩
  | x :: xs, z, h => by
    obtain ⟨z', e⟩ := comp_nm mk f xs (some (.fz (mk x))) fun y hy => h y (.tail _ hy)
    refine ⟨z', ?_⟩
    rw [List.map_cons, compLoop]
    show (some (some (OT.fz (mk x)) :: cs)).bind _ = _
    rw [Option.bind_some]
    show (some (true, some (OT.fz (mk x)) :: cs)).bind _ = _
    rw [Option.bind_some, if_pos rfl, h x (.head _), Option.bind_some, e]; rfl
theorem comp_fil {α : Type} {t : FT} {me : FE} {cs : DEnv} (mk : α → PyData) (p : α → Bool) (f : α → OT) : ∀ (xs : List α) (z : Option OT), (∀ x ∈ xs, t (some (.fz (mk x)) :: cs) = some (p x, some (.fz (mk x)) :: cs)) → (∀ x ∈ xs, p x = true → me (some (.fz (mk x)) :: cs) = some (f x, some (.fz (mk x)) :: cs)) →
    ∃ z', compLoop (gNm 0) t me (xs.map mk) (z :: cs) = some ((xs.filter p).map f, z' :: cs)
  | [], z, _, _ => ⟨z, rfl⟩
  | x :: xs, z, ht, h => by
    obtain ⟨z', e⟩ := comp_fil mk p f xs (some (.fz (mk x))) (fun y hy => ht y (.tail _ hy)) fun y hy => h y (.tail _ hy)
    refine ⟨z', ?_⟩
    rw [List.map_cons, compLoop]
    show (some (some (OT.fz (mk x)) :: cs)).bind _ = _
    rw [Option.bind_some, ht x (.head _), Option.bind_some]
    dsimp only
    by_cases hp : p x = true
    · rw [if_pos hp, h x (.head _) hp, Option.bind_some, e, List.filter_cons_of_pos hp]; rfl
    · rw [if_neg hp, e, List.filter_cons_of_neg hp]
theorem fComp_nm {α : Type} {caps : List Nat} {it : FI} {me : FE} {cs δ δ1 : DEnv} (xs : List α) (mk : α → PyData) (f : α → OT) (hi : it δ = some (xs.map mk, δ1)) (hz : xs.length ≤ sizeLine) (hb : blk 1 caps δ1 = none :: cs)
    (h : ∀ x ∈ xs, me (some (.fz (mk x)) :: cs) = some (f x, some (.fz (mk x)) :: cs)) : fComp 1 caps it (gNm 0) tYes me δ = some (.nd (xs.map f), δ1) := by
  unfold fComp
  rw [hi, Option.bind_some]
  dsimp only
  rw [if_pos (by rw [List.length_map]; exact hz), hb]
  obtain ⟨z', e⟩ := comp_nm (me := me) (cs := cs) mk f xs none h
  rw [e]; rfl
theorem fComp_fil {α : Type} {caps : List Nat} {it : FI} {t : FT} {me : FE} {cs δ δ1 : DEnv} (xs : List α) (mk : α → PyData) (p : α → Bool) (f : α → OT) (hi : it δ = some (xs.map mk, δ1)) (hz : xs.length ≤ sizeLine) (hb : blk 1 caps δ1 = none :: cs)
    (ht : ∀ x ∈ xs, t (some (.fz (mk x)) :: cs) = some (p x, some (.fz (mk x)) :: cs)) (h : ∀ x ∈ xs, p x = true → me (some (.fz (mk x)) :: cs) = some (f x, some (.fz (mk x)) :: cs)) : fComp 1 caps it (gNm 0) t me δ = some (.nd ((xs.filter p).map f), δ1) := by
  unfold fComp
  rw [hi, Option.bind_some]
  dsimp only
  rw [if_pos (by rw [List.length_map]; exact hz), hb]
  obtain ⟨z', e⟩ := comp_fil (t := t) (me := me) (cs := cs) mk p f xs none ht h
  rw [e]; rfl
theorem two_s : (2 ≤ sizeLine) = True := by simp [sizeLine_eq]
theorem one_s : (1 ≤ sizeLine) = True := by simp [sizeLine_eq]
theorem nil_s : (0 ≤ sizeLine) = True := by simp
theorem three_s : (3 ≤ sizeLine) = True := by simp [sizeLine_eq]
theorem map_fz_map {α : Type} (f : α → PyData) (xs : List α) : (xs.map fun x => OT.fz (f x)).map OT.data = xs.map f := by
  rw [List.map_map]; exact List.map_congr_left fun x _ => OT.data_fz _
theorem rng1_if {α : Type} {j : Int} {x : α} (h0 : 0 ≤ j) (h1 : j ≤ 1000000) : (if rOk j = true then some x else none) = some x := if_pos (rOk_of (by omega) h1)
theorem app_if {r : RS} {k : Nat} (h : k ≤ 1000000) : (if k < sizeLine then r else .bad) = r := if_pos (by rw [sizeLine_eq]; omega)
end L2
namespace L2
open PySem PySem.Spec PyProof.Rows
noncomputable def EvV (e : FE) (δ : DEnv) (d : PyData) : Prop := ∃ t, e δ = some (t, δ) ∧ t.data = d
noncomputable def EvA (a : FA) (δ : DEnv) (ds : List PyData) : Prop := ∃ ts, a δ = some (ts, δ) ∧ OT.datas ts = ds
noncomputable def EvT (t : FT) (δ : DEnv) (b : Bool) : Prop := t δ = some (b, δ)
noncomputable def Told (F : FD) (ds : List PyData) (d : PyData) : Prop := ∃ t, F ds = .ok t ∧ t.data = d
section
variable {e a b : FE} {as : FA} {δ δ' : DEnv} {x y d : PyData} {xs ds : List PyData} {i j : Nat} {p q : Bool} {t u : FT} {S S' : FS} {r : RS}
theorem EvV.cast {e : FE} {δ : DEnv} {x y : PyData} (h : EvV e δ x) (k : x = y) : EvV e δ y := k ▸ h
theorem ev_var (h : δ[i]? = some (some (.fz d)) := by rfl) : EvV (fVar i) δ d := ⟨_, by rw [fVar_ap, h, asFz_fz], OT.data_fz _⟩
theorem ev_own {t : OT} (h : δ[i]? = some (some t)) (hd : t.data = d) : EvV (fOwn i) δ d := ⟨_, by rw [fOwn_ap, h, asAny_t], by rw [OT.data_fz, hd]⟩
theorem ev_c : EvV (fC d) δ d := ⟨_, rfl, OT.data_fz _⟩
theorem ev_binS {g : PyData → PyData → Option PyData} (ha : EvV a δ x) (hb : EvV b δ y) (h : g x y = some d) : EvV (fBinS g a b) δ d := by
  obtain ⟨_, e1, d1⟩ := ha
  obtain ⟨_, e2, d2⟩ := hb
  exact ⟨_, by rw [fBinS_ap, e1, Option.bind_some, e2, Option.bind_some, d1, d2, h, Option.bind_some], OT.data_fz _⟩
theorem ev_bin {g : PyData → PyData → Option OT} {o : OT} (ha : EvV a δ x) (hb : EvV b δ y) (h : g x y = some o) (hd : o.data = d) : EvV (fBin g a b) δ d := by
  obtain ⟨_, e1, d1⟩ := ha
  obtain ⟨_, e2, d2⟩ := hb
  exact ⟨_, by rw [fBin_ap, e1, Option.bind_some, e2, Option.bind_some, d1, d2, h, Option.bind_some], hd⟩
theorem ev_ix (ha : EvV a δ x) (hb : EvV b δ y) (h : gIx x y = some (.fz d)) : EvV (fBin gIx a b) δ d := ev_bin ha hb h (OT.data_fz _)
theorem ev_add {i j : Int} (ha : EvV a δ (.int i)) (hb : EvV b δ (.int j)) : EvV (fBinS gAdd a b) δ (.int (i + j)) := ev_binS ha hb rfl
theorem ev_sub {i j : Int} (ha : EvV a δ (.int i)) (hb : EvV b δ (.int j)) : EvV (fBinS gSb a b) δ (.int (i - j)) := ev_binS ha hb rfl
theorem ev_un {g : PyData → Option PyData} (ha : EvV a δ x) (h : g x = some d) : EvV (fUn g a) δ d := by
  obtain ⟨_, e1, d1⟩ := ha
  exact ⟨_, by rw [fUn_ap, e1, Option.bind_some, d1, h, Option.bind_some], OT.data_fz _⟩
theorem ev_isi {T : String} (ha : EvV a δ x) (hf : isFnD x = false := by rfl) : EvV (fIsi T a) δ (.bool (isTy T x)) := by
  obtain ⟨_, e1, d1⟩ := ha
  exact ⟨_, by rw [fIsi_ap, e1, Option.bind_some, d1, if_neg (by rw [hf]; decide)], OT.data_fz _⟩
theorem ea_nil : EvA aNil δ [] := ⟨_, rfl, datas_nil⟩
theorem ea_cons (h : EvV e δ d) (k : EvA as δ ds) : EvA (aCons e as) δ (d :: ds) := by
  obtain ⟨_, e1, d1⟩ := h
  obtain ⟨_, e2, d2⟩ := k
  exact ⟨_, by rw [aCons_ap, e1, Option.bind_some, e2, Option.bind_some], by rw [datas_cons, d1, d2]⟩
theorem ev_call {F : FD} (h : EvA as δ ds) (k : Told F ds d) : EvV (fCall F as) δ d := by
  obtain ⟨_, e1, d1⟩ := h
  obtain ⟨_, e2, d2⟩ := k
  exact ⟨_, by rw [fCall_ap, e1, Option.bind_some, d1, e2, okO_ok], d2⟩
theorem ev_blS {g : List PyData → Option PyData} (h : EvA as δ ds) (k : g ds = some d) : EvV (fBlS g as) δ d := by
  obtain ⟨_, e1, d1⟩ := h
  exact ⟨_, by rw [fBlS_ap, e1, Option.bind_some, d1, k, Option.bind_some], OT.data_fz _⟩
theorem datas_len : ∀ ts : List OT, (OT.datas ts).length = ts.length
  | [] => by rw [datas_nil]; rfl
  | t :: ts => by rw [datas_cons, List.length_cons, List.length_cons, datas_len ts]
theorem datas_map : ∀ ts : List OT, OT.datas ts = ts.map OT.data
  | [] => datas_nil
  | t :: ts => by rw [datas_cons, List.map_cons, datas_map ts]
theorem ev_lst (h : EvA as δ ds) (hl : ds.length ≤ 1000) : EvV (fLst as) δ (.list ds) := by
  obtain ⟨ts, e1, d1⟩ := h
  have := datas_len ts
  rw [d1] at this
  exact ⟨_, by rw [fLst_ap, e1, Option.bind_some, if_pos (by rw [sizeLine_eq]; show ts.length ≤ _; omega)], by rw [OT.data_nd, ← datas_map, d1]⟩
theorem bool_data {o : OT} {b : Bool} (h : o.data = .bool b) : o = .fz (.bool b) := by
  cases o with
  | fz d => rw [OT.data_fz] at h; rw [h]
  | nd ts => rw [OT.data_nd] at h; cases h
  | tp ts => rw [OT.data_tp] at h; cases h
theorem et_V (h : EvV e δ (.bool p)) : EvT (tV e) δ p := by
  obtain ⟨_, e1, d1⟩ := h
  unfold EvT
  rw [tV_ap, e1, Option.bind_some, bool_data d1, asB'_b]
theorem et_D (h : EvV e δ d) (k : truD d = some p) : EvT (tD e) δ p := by
  obtain ⟨_, e1, d1⟩ := h
  unfold EvT
  rw [tD_ap, e1, Option.bind_some, d1, k, Option.bind_some]
theorem et_Db (h : EvV e δ (.bool p)) : EvT (tD e) δ p := et_D h rfl
theorem et_no (h : EvT t δ p) : EvT (tNo t) δ (!p) := by
  unfold EvT at h ⊢
  rw [tNo_ap, h, Option.bind_some]
theorem et_o (h : EvT t δ false) (k : EvT u δ p) : EvT (tO t u) δ p := by
  unfold EvT at h k ⊢
  rw [tO_ap, h, Option.bind_some, if_neg Bool.false_ne_true, k]
theorem et_o_t (h : EvT t δ true) : EvT (tO t u) δ true := by
  unfold EvT at h ⊢
  rw [tO_ap, h, Option.bind_some, if_pos rfl]
theorem es_seq (h : S δ = .nx δ') (k : S' δ' = r) : fSeq S S' δ = r := by rw [fSeq_ap, h, thn_nx, k]
theorem es_seq_rt {o : OT} (h : S δ = .rt o δ') : fSeq S S' δ = .rt o δ' := by rw [fSeq_ap, h, thn_rt]
theorem es_set (h : EvV e δ d) : wE e (kSet i) δ = .nx (δ.set i (some (.fz d))) := by
  obtain ⟨_, e1, d1⟩ := h
  rw [wE_ap, e1, onO_some, kSet_ap, d1]
theorem es_ret (h : EvV e δ d) : ∃ o, wE e kRet δ = .rt o δ ∧ o.data = d := by
  obtain ⟨_, e1, d1⟩ := h
  exact ⟨_, by rw [wE_ap, e1, onO_some, kRet_ap], d1⟩
theorem es_if_t (h : EvT t δ true) (k : S δ = r) : fIfS t S S' δ = r := by
  unfold EvT at h
  rw [fIfS_ap, h, onO_some, if_pos rfl, k]
theorem es_if_f (h : EvT t δ false) (k : S' δ = r) : fIfS t S S' δ = r := by
  unfold EvT at h
  rw [fIfS_ap, h, onO_some, if_neg (by decide), k]
theorem es_x_ex {F : FD} {k : OT → DEnv → RS} {c : Str} (h : EvA as δ ds) (hF : F ds = .exn c) : wX F as k δ = .ex c δ := by
  obtain ⟨_, e1, d1⟩ := h
  rw [wX_ap, e1, onO_some, d1, hF, onF_ex]
noncomputable def Rets (S : FS) (δ : DEnv) (d : PyData) : Prop := ∃ o δ', S δ = .rt o δ' ∧ o.data = d
theorem rt_seq (h : S δ = .nx δ') (k : Rets S' δ' d) : Rets (fSeq S S') δ d := by
  obtain ⟨o, δ2, e, hd⟩ := k
  exact ⟨o, δ2, es_seq h e, hd⟩
theorem rt_first (k : Rets S δ d) : Rets (fSeq S S') δ d := by
  obtain ⟨o, δ2, e, hd⟩ := k
  exact ⟨o, δ2, es_seq_rt e, hd⟩
theorem rt_ret (h : EvV e δ d) : Rets (wE e kRet) δ d := by
  obtain ⟨o, e1, hd⟩ := es_ret h
  exact ⟨o, δ, e1, hd⟩
theorem rt_if_t (h : EvT t δ true) (k : Rets S δ d) : Rets (fIfS t S S') δ d := by
  obtain ⟨o, δ2, e, hd⟩ := k
  exact ⟨o, δ2, es_if_t h e, hd⟩
theorem told_of {np n : Nat} (hl : xs.length = np) (k : Rets S (startN n xs) d) : Told (runD np n S) xs d := by
  obtain ⟨o, δ2, e, hd⟩ := k
  exact ⟨o, by rw [runD_ap hl, e, told_rt], hd⟩
noncomputable def EvO (o : FO) (δ : DEnv) (l : Option Int) : Prop := o δ = some (l, δ)
theorem eo_N : EvO oN δ none := rfl
theorem eo_I {i : Int} (h : EvV e δ (.int i)) : EvO (oI e) δ (some i) := by
  obtain ⟨_, e1, d1⟩ := h
  unfold EvO
  rw [oI_ap, e1, Option.bind_some, d1, asInt_i]
theorem ev_sl {lo hi : FO} {l h : Option Int} (he : EvV e δ (.list ds)) (hl : EvO lo δ l) (hh : EvO hi δ h) : EvV (fSl e lo hi) δ (.list (cutD ds l h)) := by
  obtain ⟨_, e1, d1⟩ := he
  unfold EvO at hl hh
  exact ⟨_, by rw [fSl_ap, e1, Option.bind_some, hl, Option.bind_some, hh, Option.bind_some, d1, asLst_l], by rw [OT.data_nd, OT.map_fz]⟩
theorem ev_cat {es : List PyData} (ha : EvV a δ (.list ds)) (hb : EvV b δ (.list es)) (h : ds.length + es.length ≤ 1000000) : EvV (fBin gCat a b) δ (.list (ds ++ es)) :=
  ev_bin ha hb (gCat_l (by rw [sizeLine_eq]; omega)) (by rw [OT.data_nd, OT.map_fz])
noncomputable def EvI (it : FI) (δ : DEnv) (ds : List PyData) : Prop := it δ = some (ds, δ)
theorem ei_lst (h : EvV e δ (.list ds)) : EvI (iLst e) δ ds := by
  obtain ⟨_, e1, d1⟩ := h
  unfold EvI
  rw [iLst_ap, e1, Option.bind_some, d1, asLst_l]
theorem ei_ra {n : Nat} (h : EvA as δ [.int n]) (hn : n ≤ 1000000) : EvI (iRa as) δ (rngD 0 n) := by
  obtain ⟨_, e1, d1⟩ := h
  unfold EvI
  rw [iRa_ap, e1, Option.bind_some, d1, as1_i, rng1_if (by omega) (by omega), Int.toNat_natCast]
theorem es_for {it : FI} {g : FG} (h : EvI it δ ds) (k : forLoop g S ds δ = r) : fFor it g S δ = r := by
  unfold EvI at h
  rw [fFor_ap, h, onO_some, k]
theorem ev_comp {α : Type} {caps : List Nat} {it : FI} {me : FE} {cs : DEnv} (xs : List α) (mk f : α → PyData) (hi : EvI it δ (xs.map mk)) (hz : xs.length ≤ 1000000) (hb : blk 1 caps δ = none :: cs) (h : ∀ x ∈ xs, EvV me (some (.fz (mk x)) :: cs) (f x)) : EvV (fComp 1 caps it (gNm 0) tYes me) δ (.list (xs.map f)) := by
  have g : ∀ x, ∃ o : OT, x ∈ xs → me (some (.fz (mk x)) :: cs) = some (o, some (.fz (mk x)) :: cs) ∧ o.data = f x := fun x => by
    by_cases c : x ∈ xs
    · obtain ⟨o, h1, h2⟩ := h x c
      exact ⟨o, fun _ => ⟨h1, h2⟩⟩
    · exact ⟨.fz .none, fun z => absurd z c⟩
  obtain ⟨o, ho⟩ := Classical.axiomOfChoice g
  unfold EvI at hi
  refine ⟨_, fComp_nm (cs := cs) xs mk o hi (by rw [sizeLine_eq]; omega) hb (fun x hx => (ho x hx).1), ?_⟩
  rw [OT.data_nd, List.map_map]
  exact congrArg _ (List.map_congr_left fun x hx => (ho x hx).2)
theorem es_app {ts : List OT} (h : EvV e δ d) (hi : δ[i]? = some (some (.nd ts))) (hl : ts.length ≤ 1000000) : fAppend i e δ = .nx (δ.set i (some (.nd (ts ++ [.fz d])))) := by
  obtain ⟨_, e1, d1⟩ := h
  rw [fAppend_ap, hi, onN_t, e1, onO_some, hi, onN_t, app_if hl, d1]
theorem es_setO {o : OT} (h : e δ = some (o, δ)) : wE e (kSetO i) δ = .nx (δ.set i (some o)) := by rw [wE_ap, h, onO_some, kSetO_ap]
theorem es_freeze {o : OT} (h : δ[i]? = some (some o)) (k : S (δ.set i (some (.fz o.data))) = r) : fFreeze i S δ = r := by rw [fFreeze_ap, h, onT_t, k]
theorem Told.ok {F : FD} {b : Bool} (h : Told F ds (.bool b)) : F ds = .ok (.fz (.bool b)) := by
  obtain ⟨o, e1, d1⟩ := h
  rw [e1, bool_data d1]
theorem int_data {o : OT} {i : Int} (h : o.data = .int i) : o = .fz (.int i) := by
  cases o with
  | fz d => rw [OT.data_fz] at h; rw [h]
  | nd ts => rw [OT.data_nd] at h; cases h
  | tp ts => rw [OT.data_tp] at h; cases h
theorem Told.int {F : FD} {i : Int} (h : Told F ds (.int i)) : F ds = .ok (.fz (.int i)) := by
  obtain ⟨o, e1, d1⟩ := h
  rw [e1, int_data d1]
theorem none_data {o : OT} (h : o.data = .none) : o = .fz .none := by
  cases o with
  | fz d => rw [OT.data_fz] at h; rw [h]
  | nd ts => rw [OT.data_nd] at h; cases h
  | tp ts => rw [OT.data_tp] at h; cases h
theorem Told.of {F : FD} {o : OT} (h : F ds = .ok o) (hd : o.data = d) : Told F ds d := ⟨o, h, hd⟩
end
end L2
namespace L2
open PySem PySem.Spec PyProof.Rows
section
variable {e a b : FE} {as : FA} {δ δ' : DEnv} {x y d : PyData} {xs ds : List PyData} {i j : Int} {k : Nat} {p q : Bool} {t u : FT} {S S' : FS} {r : RS} {Q : PyData → Prop}
theorem ev_mod (ha : EvV a δ (.int i)) (hb : EvV b δ (.int j)) (h : j ≠ 0) : EvV (fBinS gMod a b) δ (.int (i.fmod j)) := ev_binS ha hb (gMod_i h)
theorem fdiv_c {i j : Int} (h : (decide (0 < j) && decide (j < 18446744073709551616)) = true) : gFdiv (.int i) (.int j) = some (.int (i.fdiv j)) := by
  rw [Bool.and_eq_true, decide_eq_true_eq, decide_eq_true_eq] at h
  exact gFdiv_i (divB_bt (n := 64) (by omega) (Bt.of_lt (by omega) (by omega)))
theorem ev_fdiv (ha : EvV a δ (.int i)) (hb : EvV b δ (.int j)) (h : (decide (0 < j) && decide (j < 18446744073709551616)) = true := by decide) : EvV (fBinS gFdiv a b) δ (.int (i.fdiv j)) := ev_binS ha hb (fdiv_c h)
theorem ev_mulL (ha : EvV a δ (.int i)) (hb : EvV b δ (.int j)) (h : i.natAbs < 2 ^ 64 := by decide) : EvV (fBinS gMul a b) δ (.int (i * j)) := ev_binS ha hb (gMul_i (mulB_l h))
theorem ev_mulR (ha : EvV a δ (.int i)) (hb : EvV b δ (.int j)) (h : j.natAbs < 2 ^ 64 := by decide) : EvV (fBinS gMul a b) δ (.int (i * j)) := ev_binS ha hb (gMul_i (mulB_r h))
theorem ev_lt (ha : EvV a δ (.int i)) (hb : EvV b δ (.int j)) (h : decide (i < j) = p) : EvV (fBinS gLt a b) δ (.bool p) := h ▸ ev_binS ha hb rfl
theorem ev_ge (ha : EvV a δ (.int i)) (hb : EvV b δ (.int j)) (h : decide (j ≤ i) = p) : EvV (fBinS gGe a b) δ (.bool p) := h ▸ ev_binS ha hb (gGe_i _ _)
theorem ev_eq (ha : EvV a δ (.int i)) (hb : EvV b δ (.int j)) (h : decide (i = j) = p) : EvV (fBinS gEq a b) δ (.bool p) := h ▸ ev_binS ha hb (gEq_i _ _)
theorem ev_neg (ha : EvV a δ (.int i)) : EvV (fUn negD a) δ (.int (-i)) := ev_un ha (negD_i _)
theorem ev_len {ds : List PyData} (h : EvV e δ (.list ds)) : EvV (fBlS gLen (aCons e aNil)) δ (.int ds.length) := ev_blS (ea_cons h ea_nil) (gLen_l ds)
theorem ev_atI (ha : EvV a δ (.list ds)) (hb : EvV b δ (.int i)) (h : atI ds i = some d) : EvV (fBin gIx a b) δ d := ev_ix ha hb (by rw [gIx_l, h]; rfl)
theorem rt_for {it : FI} {g : FG} (I : Nat → DEnv → Prop) (hi : EvI it δ ds) (h0 : I 0 δ) (turn : ∀ (i : Nat) (d : PyData) (δ : DEnv), ds[i]? = some d → I i δ → ∃ δ1 δ2, g d δ = some δ1 ∧ (S δ1 = .nx δ2 ∨ S δ1 = .ct δ2) ∧ I (i + 1) δ2) (k : ∀ δ', I ds.length δ' → Rets S' δ' d) : Rets (fSeq (fFor it g S) S') δ d := by
  obtain ⟨δ', e, h⟩ := for_nx I h0 turn
  exact rt_seq (es_for hi e) (k δ' h)
theorem es_setCat {es : List PyData} (ha : EvV a δ (.list ds)) (hb : EvV b δ (.list es)) (h : ds.length + es.length ≤ 1000000) : wE (fBin gCat a b) (kSetO k) δ = .nx (δ.set k (some (.nd ((ds ++ es).map OT.fz)))) := by
  obtain ⟨_, e1, d1⟩ := ha
  obtain ⟨_, e2, d2⟩ := hb
  exact es_setO (by rw [fBin_ap, e1, Option.bind_some, e2, Option.bind_some, d1, d2, gCat_l (by rw [sizeLine_eq]; omega), Option.bind_some])
theorem fmod_nn {i : Int} (h : 0 < j) : 0 ≤ i.fmod j := by rw [fmod_pos h]; exact Int.emod_nonneg _ (by omega)
theorem fmod_lt {i : Int} (h : 0 < j) : i.fmod j < j := by rw [fmod_pos h]; exact Int.emod_lt_of_pos _ h
theorem ev_lr {n : Int} (h : EvA as δ [.int n]) (h0 : 0 ≤ n) (h1 : n ≤ 1000000) : EvV (fLR1 as) δ (.list (rngD 0 n.toNat)) := by
  obtain ⟨_, e1, d1⟩ := h
  exact ⟨_, by rw [fLR1_ap, e1, Option.bind_some, d1, as1_i, if_pos ⟨rOk_of (by omega) (by omega), by rw [sizeLine_eq]; omega⟩], by rw [OT.data_nd, OT.map_fz]⟩
theorem es_try {xs : List Str} {D c : Str} {h : FS} {δ2 : DEnv} (e : S δ = .ex c δ') (hc : (xs.contains c && subX c D) = true) (hh : h (δ'.set k (some (.fz (exD c)))) = .nx δ2) : fTry xs S D k h δ = .nx (δ2.set k none) := by
  unfold fTry
  rw [e]
  dsimp only
  rw [if_pos hc, hh]
theorem ev_isX {xs : List Str} {D x : Str} (ha : EvV a δ (exD x)) (h : xs.contains x = true) (hd : subX x D = p) : EvV (fIsiX xs D a) δ (.bool p) := by
  obtain ⟨_, e1, d1⟩ := ha
  exact ⟨_, by unfold fIsiX; rw [e1, Option.bind_some, d1, show exName (exD x) = some x from rfl, Option.bind_some, if_pos h], by rw [OT.data_fz, hd]⟩
theorem ev_isXT {xs Ds : List Str} {x : Str} (ha : EvV a δ (exD x)) (h : xs.contains x = true) (hd : Ds.any (subX x) = p) : EvV (fIsiXT xs Ds a) δ (.bool p) := by
  obtain ⟨_, e1, d1⟩ := ha
  exact ⟨_, by unfold fIsiXT; rw [e1, Option.bind_some, d1, show exName (exD x) = some x from rfl, Option.bind_some, if_pos h], by rw [OT.data_fz, hd]⟩
theorem ev_isT {T : String} (ha : EvV a δ x) (h : isTy T x = p) (hf : isFnD x = false := by rfl) : EvV (fIsi T a) δ (.bool p) := (ev_isi ha hf).cast (by rw [h])
theorem ev_compF {α : Type} {caps : List Nat} {it : FI} {me : FE} {t : FT} {cs : DEnv} (xs : List α) (mk : α → PyData) (pr : α → Bool) (hi : EvI it δ (xs.map mk)) (hz : xs.length ≤ 1000000) (hb : blk 1 caps δ = none :: cs) (ht : ∀ x ∈ xs, EvT t (some (.fz (mk x)) :: cs) (pr x)) (h : ∀ x ∈ xs, pr x = true → me (some (.fz (mk x)) :: cs) = some (.fz (mk x), some (.fz (mk x)) :: cs)) : EvV (fComp 1 caps it (gNm 0) t me) δ (.list ((xs.filter pr).map mk)) := by
  unfold EvI at hi
  refine ⟨_, fComp_fil (cs := cs) xs mk pr (fun x => .fz (mk x)) hi (by rw [sizeLine_eq]; omega) hb (fun x hx => ht x hx) h, ?_⟩
  rw [OT.data_nd, List.map_map]
  exact congrArg _ (List.map_congr_left fun x _ => OT.data_fz _)
theorem Told.none {F : FD} (h : Told F ds .none) : F ds = .ok (.fz .none) := by
  obtain ⟨o, e1, d1⟩ := h
  rw [e1, none_data d1]
end
end L2
namespace My
open PySem L2 PySem.Spec
noncomputable def S_greatest_divisor_46d9 : FS :=
  (fSeq (wE (fBlS gAbs (aCons (fVar 0) aNil)) (kSet 0))
    (fSeq (wE (fBlS gAbs (aCons (fVar 1) aNil)) (kSet 1))
    (fSeq (fWhile (tV (fBinS gNe (fVar 1) (fC (.int 0)))) (fSeq (wE (fBinS gMod (fVar 0) (fVar 1)) (kSet 2))
    (fSeq (wE (fVar 1) (kSet 0))
    (wE (fVar 2) (kSet 1)))))
    (wE (fVar 0) kRet))))
noncomputable def F_greatest_divisor_46d9 : FD := runD 2 3 S_greatest_divisor_46d9
noncomputable def S_in_least_2747 : FS :=
  (fSeq (wE (fCall F_greatest_divisor_46d9 (aCons (fVar 0) (aCons (fVar 1) aNil))) (kSet 2))
    (fSeq (fIfS (tV (fBinS gLt (fVar 1) (fC (.int 0))))
    (wE (fUn negD (fVar 2)) (kSet 2))
    fNx)
    (wE (fTup (aCons (fBinS gFdiv (fVar 0) (fVar 2)) (aCons (fBinS gFdiv (fVar 1) (fVar 2)) aNil))) kRet)))
noncomputable def F_in_least_2747 : FD := runD 2 3 S_in_least_2747
noncomputable def S_is_whole_593d : FS :=
  (wE (fAnd (fIsi "int" (fVar 0)) (fUn notD (fIsi "bool" (fVar 0)))) kRet)
noncomputable def F_is_whole_593d : FD := runD 1 1 S_is_whole_593d
theorem is_whole_int (i : Int) : F_is_whole_593d [.int i] = .ok (.fz (.bool true)) := rfl
noncomputable def S_fraction_a12d : FS :=
  (fSeq (fIfS (tO (tNo (tD (fCall F_is_whole_593d (aCons (fVar 0) aNil)))) (tO (tNo (tD (fCall F_is_whole_593d (aCons (fVar 1) aNil)))) (tV (fBinS gEq (fVar 1) (fC (.int 0))))))
    (fRaise "NoNumber")
    fNx)
    (wE (fCall F_in_least_2747 (aCons (fVar 0) (aCons (fVar 1) aNil))) kRet))
noncomputable def F_fraction_a12d : FD := runD 2 2 S_fraction_a12d
noncomputable def S_shared_bottom_9ffc : FS :=
  (fSeq (wE (fC (.int 1)) (kSet 1))
    (fSeq (fFor (iLst (fVar 0)) (gNm 2)
    (wE (fBinS gMul (fBinS gFdiv (fVar 1) (fCall F_greatest_divisor_46d9 (aCons (fVar 1) (aCons (fBin gIx (fVar 2) (fC (.int 1))) aNil)))) (fBin gIx (fVar 2) (fC (.int 1)))) (kSet 1)))
    (wE (fVar 1) kRet)))
noncomputable def F_shared_bottom_9ffc : FD := runD 1 3 S_shared_bottom_9ffc
noncomputable def S_table_bottom_a5f2 : FS :=
  (fSeq (wE (fC (.int 1)) (kSet 1))
    (fSeq (fFor (iLst (fVar 0)) (gNm 2)
    (wE (fCall F_shared_bottom_9ffc (aCons (fBin gCat (fLst (aCons (fTup (aCons (fC (.int 1)) (aCons (fVar 1) aNil))) aNil)) (fVar 2)) aNil)) (kSet 1)))
    (wE (fVar 1) kRet)))
noncomputable def F_table_bottom_a5f2 : FD := runD 1 3 S_table_bottom_a5f2
noncomputable def S_tops_over_2cfa : FS :=
  (wE (fComp 1 [0] (iLst (fVar 1)) (gNm 0) tYes (fBinS gMul (fBin gIx (fVar 0) (fC (.int 0))) (fBinS gFdiv (fVar 1) (fBin gIx (fVar 0) (fC (.int 1)))))) kRet)
noncomputable def F_tops_over_2cfa : FD := runD 2 2 S_tops_over_2cfa
noncomputable def S_table_over_45d9 : FS :=
  (wE (fComp 1 [0] (iLst (fVar 1)) (gNm 0) tYes (fCall F_tops_over_2cfa (aCons (fVar 1) (aCons (fVar 0) aNil)))) kRet)
noncomputable def F_table_over_45d9 : FD := runD 2 2 S_table_over_45d9
noncomputable def S_pairs_of_c302 : FS :=
  (fSeq (wE (fLst aNil) (kSetO 1))
    (fSeq (fFor (iRa (aCons (fVar 0) aNil)) (gNm 2)
    (fFor (iRb (aCons (fBinS gAdd (fVar 2) (fC (.int 1))) (aCons (fVar 0) aNil))) (gNm 3)
    (fAppend 1 (fTup (aCons (fVar 2) (aCons (fVar 3) aNil))))))
    (fRetO 1)))
noncomputable def F_pairs_of_c302 : FD := runD 1 4 S_pairs_of_c302
end My
namespace My
open PySem L2 PySem.Spec
noncomputable def xsL : List Str := ["NoCut"]
noncomputable def S_law_pool_7d17 : FS :=
  (fSeq (wE (fC (.int 0)) (kSet 2))
    (fSeq (fIfS (tV (fBinS gLt (fVar 1) (fBlS gLen (aCons (fVar 0) aNil))))
    (wE (fBin gIx (fVar 0) (fVar 1)) (kSet 2))
    fNx)
    (fSeq (fIfS (tV (fBinS gGe (fVar 2) (fBinS gPow (fC (.int 10)) (fC (.int 18)))))
    (wE (fLst (aCons (fBinS gSb (fVar 2) (fBinS gPow (fC (.int 10)) (fC (.int 18)))) (aCons (fC (.int 1)) (aCons (fC (.int 0)) aNil)))) kRet)
    fNx)
    (wE (fLst (aCons (fVar 2) (aCons (fC (.int 0)) (aCons (fBinS gMul (fC (.int 23)) (fVar 1)) aNil)))) kRet))))
noncomputable def F_law_pool_7d17 : FD := runD 2 3 S_law_pool_7d17
noncomputable def S_law_due_8670 : FS :=
  (fSeq (wE (fComp 1 [1] (iRa (aCons (fVar 0) aNil)) (gNm 0) (tV (fBinS (gMem false) (fVar 0) (fVar 1))) (fVar 0)) (kSet 2))
    (fSeq (wE (fComp 1 [1] (iRa (aCons (fVar 0) aNil)) (gNm 0) (tV (fBinS (gMem true) (fVar 0) (fVar 1))) (fVar 0)) (kSet 3))
    (fSeq (fIfS (tO (tV (fBinS gEq (fVar 2) (fLst aNil))) (tO (tV (fBinS gEq (fVar 3) (fLst aNil))) (tV (fBinS gNe (fComp 1 [0] (iLst (fVar 1)) (gNm 0) (tO (tV (fBinS gLt (fVar 0) (fC (.int 0)))) (tV (fBinS gGe (fVar 0) (fVar 1)))) (fVar 0)) (fLst aNil)))))
    (wE (fC .none) kRet)
    fNx)
    (wE (fBin gIx (fLst (aCons (fVar 2) (aCons (fVar 3) aNil))) (fBlS gInt (aCons (fBinS (gMem false) (fC (.int 0)) (fVar 2)) aNil))) kRet))))
noncomputable def F_law_due_8670 : FD := runD 2 4 S_law_due_8670
noncomputable def S_law_is_4dde : FS :=
  (fSeq (wE (fLst (aCons (fIsiX xsL "NoNumber" (fVar 0)) (aCons (fIsiX xsL "NoTable" (fVar 0)) (aCons (fIsiX xsL "NoPoint" (fVar 0)) aNil)))) (kSetO 2))
    (fSeq (fAppend 2 (fIsiX xsL "NoCut" (fVar 0)))
    (fSeq (fIfS (tO (tNo (tD (fIsiX xsL "ValueError" (fVar 0)))) (tV (fBinS gNe (fOwn 2) (fComp 1 [1] (iRa (aCons (fC (.int 4)) aNil)) (gNm 0) tYes (fBinS gEq (fVar 0) (fVar 1))))))
    (wE (fC (.bool false)) kRet)
    fNx)
    (wE (fUn notD (fIsiXT xsL ["NoOrder", "TooMany", "NoWeb", "NoText", "NoName", "NoRow"] (fVar 0))) kRet))))
noncomputable def F_law_is_4dde : FD := runD 2 3 S_law_is_4dde
noncomputable def S_check_points_cadf : FS :=
  (fFor (iLst (fVar 1)) (gNm 2)
    (fIfS (tO (tNo (tD (fCall F_is_whole_593d (aCons (fVar 2) aNil)))) (tNo (tV (fChain (fun i j => decide (i ≤ j)) (fun i j => decide (i < j)) (fC (.int 0)) (fVar 2) (fVar 0)))))
    (fRaise "NoCut")
    fNx))
noncomputable def F_check_points_cadf : FD := runD 2 3 S_check_points_cadf
noncomputable def S_cut_of_5159 : FS :=
  (fSeq (wX F_check_points_cadf (aCons (fVar 0) (aCons (fVar 1) aNil)) kDrop)
    (fSeq (wE (fComp 1 [1] (iRa (aCons (fVar 0) aNil)) (gNm 0) (tV (fBinS (gMem true) (fVar 0) (fVar 1))) (fVar 0)) (kSetO 2))
    (fSeq (fIfS (tO (tV (fBinS gEq (fBlS gLen (aCons (fVar 1) aNil)) (fC (.int 0)))) (tV (fBinS gEq (fBlS gLen (aCons (fOwn 2) aNil)) (fC (.int 0)))))
    (fRaise "NoCut")
    fNx)
    (fSeq (fIfS (tV (fBinS (gMem false) (fC (.int 0)) (fVar 1)))
    (fRetO 2)
    fNx)
    (wE (fSortSet (aCons (fVar 1) aNil)) kRet)))))
noncomputable def F_cut_of_5159 : FD := runD 2 3 S_cut_of_5159
noncomputable def S_law_right_df52 : FS :=
  (fSeq (wE (fCall F_law_due_8670 (aCons (fVar 0) (aCons (fVar 1) aNil))) (kSet 2))
    (fSeq (fFor (iRa (aCons (fC (.int 2)) aNil)) (gNm 3)
    (fSeq (wE (fBl gList (aCons (fVar 1) aNil)) (kSetO 4))
    (fSeq (wE (fC .none) (kSet 5))
    (fSeq (wE (fC .none) (kSetO 6))
    (fSeq (fTry xsL (wX F_cut_of_5159 (aCons (fVar 0) (aCons (fOwn 4) aNil)) (kFl (kSetO 6))) "CutError" 7 (wE (fVar 7) (kSet 5)))
    (fSeq (fIfS (tV (fBinS gNe (fOwn 4) (fVar 1)))
    (wE (fC (.bool false)) kRet)
    fNx)
    (fIfS (tV (fBinS gIs (fVar 2) (fC .none)))
    (fIfS (tNo (tD (fCall F_law_is_4dde (aCons (fVar 5) (aCons (fC (.int 3)) aNil)))))
    (wE (fC (.bool false)) kRet)
    fNx)
    (fIfS (tO (tV (fBinS gIsNot (fVar 5) (fC .none))) (tO (tNo (tD (fIsi "list" (fOwn 6)))) (tV (fBinS gNe (fOwn 6) (fVar 2)))))
    (wE (fC (.bool false)) kRet)
    (fSeq (fIfS (tV (fBinS gNe (fComp 1 [] (iLst (fOwn 6)) (gNmS 0) (tD (fIsi "bool" (fVar 0))) (fVar 0)) (fLst aNil)))
    (wE (fC (.bool false)) kRet)
    fNx)
    (fSeq (fAppend 6 (fC (.int 0)))
    (fSeq (fIfS (tV (fBinS gNe (fOwn 4) (fVar 1)))
    (wE (fC (.bool false)) kRet)
    fNx)
    (fSeq (fAppend 4 (fC (.int 0)))
    (fIfS (tV (fBinS gNe (fOwn 6) (fBin gCat (fVar 2) (fLst (aCons (fC (.int 0)) aNil)))))
    (wE (fC (.bool false)) kRet)
    fNx)))))))))))))
    (wE (fC (.bool true)) kRet)))
noncomputable def F_law_right_df52 : FD := runD 2 8 S_law_right_df52
noncomputable def S_law_take_cd1a : FS :=
  (fSeq (fIfS (tV (fBinS gEq (fBin gIx (fOwn 0) (fC (.int 1))) (fC (.int 1))))
    (fSeq (wE (fBinS gMod (fBin gIx (fOwn 0) (fC (.int 0))) (fVar 1)) (kSet 2))
    (fSeq (fPut 0 (fBinS gFdiv (fBin gIx (fOwn 0) (fC (.int 0))) (fVar 1)) (fC (.int 0)))
    (wE (fVar 2) kRet)))
    fNx)
    (fSeq (fPut 0 (fBinS gAdd (fBin gIx (fOwn 0) (fC (.int 2))) (fC (.int 1))) (fC (.int 2)))
    (fSeq (wE (fBin gIx (fOwn 0) (fC (.int 2))) (kSetS 3))
    (fSeq (wE (fBinS gMul (fBinS gAdd (fBinS gMod (fBin gIx (fOwn 0) (fC (.int 0))) (fC (.int 9999999641))) (fC (.int 953))) (fBinS gAdd (fBinS gMul (fC (.int 17)) (fVar 3)) (fC (.int 43)))) (kSet 4))
    (fSeq (wE (fBinS gAdd (fVar 4) (fBinS gMul (fBinS gMul (fC (.int 3413)) (fVar 3)) (fVar 3))) (kSet 4))
    (fSeq (wE (fBinS gMod (fBinS gMul (fVar 4) (fVar 4)) (fC (.int 99999999683))) (kSet 4))
    (wE (fBinS gMod (fBinS gFdiv (fBinS gMod (fBinS gMul (fVar 4) (fBinS gAdd (fVar 4) (fC (.int 29)))) (fC (.int 99999999959))) (fC (.int 73))) (fVar 1)) kRet)))))))
noncomputable def F_law_take_cd1a : FIO := runI 2 5 S_law_take_cd1a
noncomputable def S_law_da55 : FS :=
  (fSeq (fFor (iRa (aCons (fBlS gMax (aCons (fC (.int 1)) (aCons (fBlS gMin (aCons (fC (.int 20)) (aCons (fBlS gLen (aCons (fVar 0) aNil)) aNil))) aNil))) aNil)) (gNm 1)
    (fSeq (wE (fCall F_law_pool_7d17 (aCons (fVar 0) (aCons (fVar 1) aNil))) (kSetO 2))
    (fSeq (wE (fBin gIx (fLst (aCons (fBinS gAdd (fC (.int 1)) (fCallI 2 F_law_take_cd1a (aCons (fC (.int 4)) aNil))) (aCons (fBinS gAdd (fC (.int 1)) (fCallI 2 F_law_take_cd1a (aCons (fC (.int 10)) aNil))) aNil))) (fBlS gInt (aCons (fBinS gGt (fCallI 2 F_law_take_cd1a (aCons (fC (.int 4)) aNil)) (fC (.int 0))) aNil))) (kSet 3))
    (fSeq (wE (fCompI 1 [2, 3] 2 1 (iRa (aCons (fCallI 2 F_law_take_cd1a (aCons (fBinS gAdd (fVar 3) (fC (.int 2))) aNil)) aNil)) (gNm 0) tYes (fCallI 1 F_law_take_cd1a (aCons (fVar 2) aNil))) (kSet 4))
    (fSeq (wE (fStep (fLR1 (aCons (fVar 3) aNil)) oN oN (oI (fUn negD (fC (.int 1))))) (kSet 5))
    (fSeq (wE (fCallI 2 F_law_take_cd1a (aCons (fVar 3) aNil)) (kSet 6))
    (fSeq (wE (fBin gIx (fLst (aCons (fC (.int 0)) (aCons (fC (.int 1)) (aCons (fCallI 2 F_law_take_cd1a (aCons (fBinS gPow (fC (.int 10)) (fC (.int 30))) aNil)) aNil)))) (fCallI 2 F_law_take_cd1a (aCons (fC (.int 3)) aNil))) (kSet 7))
    (fSeq (wE (fCallI 2 F_law_take_cd1a (aCons (fBinS gAdd (fBlS gLen (aCons (fVar 4) aNil)) (fC (.int 1))) aNil)) (kSet 8))
    (fSeq (wE (fLst (aCons (fVar 4) (aCons (fLst aNil) (aCons (fVar 5) (aCons (fBin gCat (fSl (fVar 5) oN (oI (fVar 6))) (fSl (fVar 5) (oI (fBinS gAdd (fVar 6) (fC (.int 1)))) oN)) (aCons (fLst (aCons (fVar 6) aNil)) (aCons (fLst (aCons (fVar 6) (aCons (fVar 6) aNil))) aNil))))))) (kSetO 9))
    (fSeq (fAppend 9 (fBin gCat (fVar 4) (fVar 4)))
    (fSeq (fFreeze 9 (wE (fBin gCat (fVar 9) (fComp 1 [4, 8] (iLst (fLst (aCons (fBinS gSb (fUn negD (fC (.int 1))) (fVar 7)) (aCons (fBinS gAdd (fVar 3) (fVar 7)) (aCons (fBinS gSb (fC (.int 0)) (fVar 3)) aNil))))) (gNm 0) tYes (fBin gCat (fBin gCat (fSl (fVar 1) oN (oI (fVar 2))) (fLst (aCons (fVar 0) aNil))) (fSl (fVar 1) (oI (fVar 2)) oN)))) (kSetO 9)))
    (fFreeze 9 (fFor (iLst (fVar 9)) (gNm 10)
    (fIfS (tNo (tD (fCall F_law_right_df52 (aCons (fVar 3) (aCons (fVar 10) aNil)))))
    (wE (fC (.bool false)) kRet)
    fNx))))))))))))))
    (wE (fC (.bool true)) kRet))
noncomputable def F_law_da55 : FD := runD 1 11 S_law_da55
end My
namespace My
open PySem L2 PySem.Spec
noncomputable def S_law_cell_at_2443 : FS :=
  (fSeq (fIfS (tV (fBinS gLt (fVar 1) (fBlS gLen (aCons (fVar 0) aNil))))
    (wE (fBin gIx (fVar 0) (fVar 1)) kRet)
    fNx)
    (wE (fC (.int 0)) kRet))
noncomputable def F_law_cell_at_2443 : FD := runD 2 2 S_law_cell_at_2443
noncomputable def S_law_size_ad24 : FS :=
  (fSeq (fIfS (tV (fBinS gEq (fBinS gMod (fBinS gFdiv (fVar 0) (fC (.int 7))) (fC (.int 8))) (fC (.int 3))))
    (wE (fBinS gAdd (fBinS gAdd (fVar 2) (fC (.int 1))) (fBinS gMod (fBinS gFdiv (fVar 0) (fC (.int 56))) (fBinS gSb (fVar 3) (fVar 2)))) kRet)
    fNx)
    (wE (fBinS gAdd (fVar 1) (fBinS gMod (fVar 0) (fBinS gSb (fBinS gAdd (fVar 2) (fC (.int 1))) (fVar 1)))) kRet))
noncomputable def F_law_size_ad24 : FD := runD 4 4 S_law_size_ad24
noncomputable def S_law_stir_60a2 : FS :=
  (fSeq (wE (fBinS gMod (fBinS gMul (fBinS gAdd (fBinS gAdd (fBinS gMod (fVar 0) (fC (.int 2147483629))) (fBinS gMul (fC (.int 9973)) (fVar 1))) (fC (.int 5))) (fC (.int 48271))) (fC (.int 2147483647))) (kSet 2))
    (fSeq (wE (fBinS gMod (fBinS gMul (fVar 2) (fVar 2)) (fC (.int 2147483587))) (kSet 2))
    (wE (fBinS gFdiv (fBinS gMod (fBinS gMul (fBinS gAdd (fVar 2) (fBinS gMul (fC (.int 7919)) (fVar 1))) (fC (.int 16807))) (fC (.int 2147483563))) (fC (.int 8))) kRet)))
noncomputable def F_law_stir_60a2 : FD := runD 2 3 S_law_stir_60a2
noncomputable def S_law_numbers_5134 : FS :=
  (fSeq (wE (fLst aNil) (kSetO 2))
    (fSeq (wE (fVar 0) (kSet 3))
    (fSeq (fFor (iRa (aCons (fVar 1) aNil)) (gNm 4)
    (fSeq (wE (fCall F_law_stir_60a2 (aCons (fVar 0) (aCons (fVar 4) aNil))) (kSet 5))
    (fSeq (fIfS (tV (fBinS gGe (fVar 0) (fBinS gPow (fC (.int 10)) (fC (.int 18)))))
    (wE (fBinS gMod (fVar 3) (fC (.int 720720))) (kSet 5))
    fNx)
    (fSeq (wE (fBinS gFdiv (fVar 3) (fC (.int 720720))) (kSet 3))
    (fAppend 2 (fVar 5))))))
    (fRetO 2))))
noncomputable def F_law_numbers_5134 : FD := runD 2 6 S_law_numbers_5134
noncomputable def intsL (p : List Int) : PyData := .list (p.map PyData.int)
theorem atI_ints {p : List Int} {i : Int} (h0 : 0 ≤ i) (h1 : i < p.length) : atI (p.map PyData.int) i = some (.int (p.getD i.toNat 0)) := by
  rw [atI_nn h0, List.getElem?_map, List.getElem?_eq_getElem (by omega)]
  simp [List.getD_eq_getElem?_getD, List.getElem?_eq_getElem (show i.toNat < p.length by omega)]
theorem ev_intsAt {a b : FE} {δ : DEnv} {p : List Int} {i : Int} (ha : EvV a δ (intsL p)) (hb : EvV b δ (.int i)) (h0 : 0 ≤ i) (h1 : i < p.length) : EvV (fBin gIx a b) δ (.int (p.getD i.toNat 0)) := ev_atI ha hb (atI_ints h0 h1)
theorem ev_intsLen {a : FE} {δ : DEnv} {p : List Int} (ha : EvV a δ (intsL p)) : EvV (fBlS gLen (aCons a aNil)) δ (.int p.length) := by
  have := ev_len (ds := p.map PyData.int) ha
  rwa [List.length_map] at this
theorem gP18 : gPow (.int 10) (.int 18) = some (.int 1000000000000000000) := rfl
theorem nd_ints (p : List Int) : (OT.nd ((p.map PyData.int).map OT.fz)).data = intsL p := by
  rw [OT.data_nd, OT.map_fz]; rfl
end My
namespace L2
open PySem PySem.Spec
noncomputable def EvP (e : FE) (δ : DEnv) (Q : PyData → DEnv → Prop) : Prop := ∃ t δ', e δ = some (t, δ') ∧ Q t.data δ'
noncomputable def EpA (a : FA) (δ : DEnv) (Q : List PyData → DEnv → Prop) : Prop := ∃ ts δ', a δ = some (ts, δ') ∧ Q (OT.datas ts) δ'
noncomputable def EpT (t : FT) (δ : DEnv) (Q : Bool → DEnv → Prop) : Prop := ∃ b δ', t δ = some (b, δ') ∧ Q b δ'
noncomputable def EpS (S : FS) (δ : DEnv) (N : DEnv → Prop) (R : PyData → DEnv → Prop) : Prop := (∃ δ', S δ = .nx δ' ∧ N δ') ∨ ∃ o δ', S δ = .rt o δ' ∧ R o.data δ'
noncomputable def ToldI (F : FIO) (t : OT) (ds : List PyData) (Q : PyData → OT → Prop) : Prop := ∃ r t', F t ds = some (r, t') ∧ Q r.data t'
section
variable {e a b : FE} {as : FA} {δ : DEnv} {Q : PyData → DEnv → Prop} {QA : List PyData → DEnv → Prop} {T : Bool → DEnv → Prop} {t u : FT} {S S' : FS} {N : DEnv → Prop} {R : PyData → DEnv → Prop} {i : Nat} {d : PyData}
theorem ep_pure (h : EvV e δ d) (q : Q d δ) : EvP e δ Q := by
  obtain ⟨t, e1, e2⟩ := h
  exact ⟨t, δ, e1, e2 ▸ q⟩
theorem ep_binS {g : PyData → PyData → Option PyData} (h : EvP a δ fun x δ1 => EvP b δ1 fun y δ2 => ∃ d, g x y = some d ∧ Q d δ2) : EvP (fBinS g a b) δ Q := by
  obtain ⟨t, δ1, e1, t2, δ2, e2, d, e3, q⟩ := h
  exact ⟨.fz d, δ2, by rw [fBinS_ap, e1]; show (b δ1).bind _ = _; rw [e2]; show (g _ _).bind _ = _; rw [e3]; rfl, by rw [OT.data_fz]; exact q⟩
theorem ep_bin {g : PyData → PyData → Option OT} (h : EvP a δ fun x δ1 => EvP b δ1 fun y δ2 => ∃ o, g x y = some o ∧ Q o.data δ2) : EvP (fBin g a b) δ Q := by
  obtain ⟨t, δ1, e1, t2, δ2, e2, d, e3, q⟩ := h
  exact ⟨d, δ2, by rw [fBin_ap, e1]; show (b δ1).bind _ = _; rw [e2]; show (g _ _).bind _ = _; rw [e3]; rfl, q⟩
theorem epa_nil (q : QA [] δ) : EpA aNil δ QA := ⟨[], δ, rfl, by rw [datas_nil]; exact q⟩
theorem epa_cons (h : EvP e δ fun d δ1 => EpA as δ1 fun ds δ2 => QA (d :: ds) δ2) : EpA (aCons e as) δ QA := by
  obtain ⟨t, δ1, e1, ts, δ2, e2, q⟩ := h
  exact ⟨t :: ts, δ2, by rw [aCons_ap, e1]; show (as δ1).bind _ = _; rw [e2]; rfl, by rw [datas_cons]; exact q⟩
theorem epa_pure {ds : List PyData} (h : EvA as δ ds) (q : QA ds δ) : EpA as δ QA := by
  obtain ⟨ts, e1, e2⟩ := h
  exact ⟨ts, δ, e1, e2 ▸ q⟩
theorem ep_callI {F : FIO} {t0 : OT} (h0 : δ[i]? = some (some t0)) (h : EpA as δ fun ds δ1 => ∃ t, δ1[i]? = some (some t) ∧ ToldI F t ds fun d t' => Q d (δ1.set i (some t'))) : EvP (fCallI i F as) δ Q := by
  obtain ⟨ts, δ1, e1, t, e2, r, t', e3, q⟩ := h
  refine ⟨r, δ1.set i (some t'), ?_, q⟩
  rw [fCallI_ap, h0]
  show (as δ).bind _ = _
  rw [e1]
  show atO δ1[i]? _ = _
  rw [e2]
  show (F t _).bind _ = _
  rw [e3]; rfl
theorem ep_blS {g : List PyData → Option PyData} (h : EpA as δ fun ds δ1 => ∃ d, g ds = some d ∧ Q d δ1) : EvP (fBlS g as) δ Q := by
  obtain ⟨ts, δ1, e1, d, e2, q⟩ := h
  exact ⟨.fz d, δ1, by unfold fBlS; rw [e1]; show (g _).bind _ = _; rw [e2]; rfl, by rw [OT.data_fz]; exact q⟩
theorem ep_lst (h : EpA as δ fun ds δ1 => ds.length ≤ 1000 ∧ Q (.list ds) δ1) : EvP (fLst as) δ Q := by
  obtain ⟨ts, δ1, e1, hl, q⟩ := h
  refine ⟨.nd ts, δ1, ?_, by rw [OT.data_nd, ← datas_map]; exact q⟩
  rw [fLst_ap, e1]
  show (if ts.length ≤ sizeLine then _ else _) = _
  rw [if_pos (by rw [datas_len] at hl; rw [sizeLine_eq]; omega)]
theorem ept_pure {p : Bool} (h : EvT t δ p) (q : T p δ) : EpT t δ T := ⟨p, δ, h, q⟩
theorem eps_of {δ' : DEnv} (h : S δ = .nx δ') (q : N δ') : EpS S δ N R := .inl ⟨δ', h, q⟩
theorem eps_seq (h : EpS S δ (fun δ' => EpS S' δ' N R) R) : EpS (fSeq S S') δ N R := by
  rcases h with ⟨δ', e, h⟩ | ⟨o, δ', e, h⟩
  · rcases h with ⟨δ2, e2, q⟩ | ⟨o, δ2, e2, q⟩
    · exact .inl ⟨δ2, by rw [fSeq_ap, e, thn_nx, e2], q⟩
    · exact .inr ⟨o, δ2, by rw [fSeq_ap, e, thn_nx, e2], q⟩
  · exact .inr ⟨o, δ', by rw [fSeq_ap, e, thn_rt], h⟩
theorem eps_set (h : EvP e δ fun d δ' => N (δ'.set i (some (.fz d)))) : EpS (wE e (kSet i)) δ N R := by
  obtain ⟨t, δ', e1, q⟩ := h
  exact .inl ⟨_, by rw [wE_ap, e1]; rfl, q⟩
theorem eps_setS (h : EvP e δ fun d δ' => flatD d = true ∧ N (δ'.set i (some (.fz d)))) : EpS (wE e (kSetS i)) δ N R := by
  obtain ⟨t, δ', e1, f, q⟩ := h
  exact .inl ⟨_, by rw [wE_ap, e1]; show kSetS i t δ' = _; unfold kSetS; rw [if_pos f], q⟩
theorem eps_ret (h : EvP e δ R) : EpS (wE e kRet) δ N R := by
  obtain ⟨t, δ', e1, q⟩ := h
  exact .inr ⟨t, δ', by rw [wE_ap, e1]; rfl, q⟩
theorem eps_if (h : EpT t δ fun p δ' => (p = true → EpS S δ' N R) ∧ (p = false → EpS S' δ' N R)) : EpS (fIfS t S S') δ N R := by
  obtain ⟨p, δ', e1, q1, q2⟩ := h
  have e : fIfS t S S' δ = if p = true then S δ' else S' δ' := by unfold fIfS; rw [e1]
  cases p with
  | true =>
    have g := q1 rfl
    unfold EpS at g ⊢
    rw [e]; exact g
  | false =>
    have g := q2 rfl
    unfold EpS at g ⊢
    rw [e]; exact g
theorem eps_nx (q : N δ) : EpS fNx δ N R := .inl ⟨δ, rfl, q⟩
theorem eps_loop {g : FG} (I : Nat → DEnv → Prop) (ds : List PyData) (m : Nat) (h0 : I m δ) (turn : ∀ (k : Nat) (d : PyData) (δ : DEnv), ds[k]? = some d → I (m + k) δ → ∃ δ1, g d δ = some δ1 ∧ EpS S δ1 (I (m + k + 1)) R) (fin : ∀ δ', I (m + ds.length) δ' → N δ') :
    (∃ δ', forLoop g S ds δ = .nx δ' ∧ N δ') ∨ ∃ o δ', forLoop g S ds δ = .rt o δ' ∧ R o.data δ' := by
  induction ds generalizing m δ with
  | nil => exact .inl ⟨δ, rfl, fin δ h0⟩
  | cons d ds ih =>
    obtain ⟨δ1, e1, h⟩ := turn 0 d δ rfl h0
    rcases h with ⟨δ2, e2, q⟩ | ⟨o, δ2, e2, q⟩
    · have e : forLoop g S (d :: ds) δ = forLoop g S ds δ2 := by rw [forLoop, e1]; show (match S δ1 with | .nx δ2 => _ | .ct δ2 => _ | .bk δ2 => _ | r => _) = _; rw [e2]
      rw [e]
      refine ih (m + 1) q (fun k d' δ' hk hI => ?_) fun δ' hI => fin δ' (by rw [List.length_cons]; rw [show m + 1 + ds.length = m + (ds.length + 1) by omega] at hI; exact hI)
      have := turn (k + 1) d' δ' hk (by rw [show m + (k + 1) = m + 1 + k by omega]; exact hI)
      rwa [show m + (k + 1) + 1 = m + 1 + k + 1 by omega] at this
    · refine .inr ⟨o, δ2, ?_, q⟩
      rw [forLoop, e1]; show (match S δ1 with | .nx δ2 => _ | .ct δ2 => _ | .bk δ2 => _ | r => _) = _; rw [e2]
theorem eps_for {it : FI} {g : FG} {ds : List PyData} {δ0 : DEnv} (I : Nat → DEnv → Prop) (hi : it δ = some (ds, δ0)) (h0 : I 0 δ0) (turn : ∀ (k : Nat) (d : PyData) (δ : DEnv), ds[k]? = some d → I k δ → ∃ δ1, g d δ = some δ1 ∧ EpS S δ1 (I (k + 1)) R) (fin : ∀ δ', I ds.length δ' → N δ') : EpS (fFor it g S) δ N R := by
  have e : fFor it g S δ = forLoop g S ds δ0 := by unfold fFor; rw [hi]
  have h := eps_loop (R := R) (N := N) (S := S) (g := g) (δ := δ0) I ds 0 h0 (fun k d δ hk hI => by rw [Nat.zero_add] at hI ⊢; exact turn k d δ hk hI) (fun δ' hI => by rw [Nat.zero_add] at hI; exact fin δ' hI)
  unfold EpS
  rw [e]; exact h
noncomputable def EpI (it : FI) (δ : DEnv) (Q : List PyData → DEnv → Prop) : Prop := ∃ ds δ', it δ = some (ds, δ') ∧ Q ds δ'
theorem epi_pure {it : FI} {ds : List PyData} (h : EvI it δ ds) (q : QA ds δ) : EpI it δ QA := ⟨ds, δ, h, q⟩
theorem epi_ra (h : EpA as δ fun ds δ' => ∃ n : Nat, ds = [.int n] ∧ n ≤ 1000000 ∧ QA (rngD 0 n) δ') : EpI (iRa as) δ QA := by
  obtain ⟨ts, δ', e1, n, e2, hn, q⟩ := h
  exact ⟨_, δ', by rw [iRa_ap, e1, Option.bind_some, e2, as1_i, rng1_if (by omega) (by omega), Int.toNat_natCast], q⟩
theorem eps_forP {it : FI} {g : FG} (h : EpI it δ fun ds δ0 => ∃ I : Nat → DEnv → Prop, I 0 δ0 ∧ (∀ (k : Nat) (d : PyData) (δ : DEnv), ds[k]? = some d → I k δ → ∃ δ1, g d δ = some δ1 ∧ EpS S δ1 (I (k + 1)) R) ∧ ∀ δ', I ds.length δ' → N δ') : EpS (fFor it g S) δ N R := by
  obtain ⟨ds, δ0, e, I, h0, turn, fin⟩ := h
  exact eps_for I e h0 turn fin
theorem ToldI.mono {F : FIO} {t0 : OT} {ds : List PyData} {Q Q' : PyData → OT → Prop} (h : ToldI F t0 ds Q) (k : ∀ d t, Q d t → Q' d t) : ToldI F t0 ds Q' := by
  obtain ⟨r, t', e, q⟩ := h
  exact ⟨r, t', e, k _ _ q⟩
theorem compP {g : FG} (I : Nat → List PyData → DEnv → Prop) (ds : List PyData) (m : Nat) (acc : List PyData) (h0 : I m acc δ) (turn : ∀ (k : Nat) (d : PyData) (acc : List PyData) (δ : DEnv), ds[k]? = some d → I (m + k) acc δ → ∃ δ1, g d δ = some δ1 ∧ EpT t δ1 fun p δ2 => (p = true → EvP e δ2 fun d δ3 => I (m + k + 1) (acc ++ [d]) δ3) ∧ (p = false → I (m + k + 1) acc δ2)) :
    ∃ ts δ', compLoop g t e ds δ = some (ts, δ') ∧ I (m + ds.length) (acc ++ ts.map OT.data) δ' := by
  induction ds generalizing m acc δ with
  | nil => exact ⟨[], δ, rfl, by rw [List.map_nil, List.append_nil]; exact h0⟩
  | cons d ds ih =>
    obtain ⟨δ1, e1, p, δ2, e2, q1, q2⟩ := turn 0 d acc δ rfl h0
    have next : ∀ (k : Nat) (d : PyData) (acc : List PyData) (δ : DEnv), ds[k]? = some d → I (m + 1 + k) acc δ → ∃ δ1, g d δ = some δ1 ∧ EpT t δ1 fun p δ2 => (p = true → EvP e δ2 fun d δ3 => I (m + 1 + k + 1) (acc ++ [d]) δ3) ∧ (p = false → I (m + 1 + k + 1) acc δ2) := fun k d acc δ hk hI => by
      have := turn (k + 1) d acc δ hk (by rw [show m + (k + 1) = m + 1 + k by omega]; exact hI)
      rwa [show m + (k + 1) + 1 = m + 1 + k + 1 by omega] at this
    have el : m + 1 + ds.length = m + (ds.length + 1) := by omega
    cases p with
    | true =>
      obtain ⟨o, δ3, e3, hI⟩ := q1 rfl
      obtain ⟨ts, δ', e4, hf⟩ := ih (m + 1) (acc ++ [o.data]) hI next
      refine ⟨o :: ts, δ', ?_, ?_⟩
      · rw [compLoop, e1]; show (t δ1).bind _ = _; rw [e2]; show (e δ2).bind _ = _; rw [e3]; show (compLoop g t e ds δ3).bind _ = _; rw [e4]; rfl
      · rw [List.length_cons, ← el, List.map_cons]; rw [List.append_assoc] at hf; exact hf
    | false =>
      obtain ⟨ts, δ', e4, hf⟩ := ih (m + 1) acc (q2 rfl) next
      refine ⟨ts, δ', ?_, by rw [List.length_cons, ← el]; exact hf⟩
      rw [compLoop, e1]; show (t δ1).bind _ = _; rw [e2]; exact e4
theorem compI {g : FG} {it : FI} {caps : List Nat} {n o q : Nat} {ds : List PyData} {t0 : OT} (I : Nat → List PyData → DEnv → Prop) (hi : EvI it δ ds) (hz : ds.length ≤ 1000000) (hc : capsOk caps o δ = true) (ho : δ[o]? = some (some t0)) (h0 : I 0 [] (blk n caps δ))
    (turn : ∀ (k : Nat) (d : PyData) (acc : List PyData) (δ : DEnv), ds[k]? = some d → I k acc δ → ∃ δ1, g d δ = some δ1 ∧ EpT t δ1 fun p δ2 => (p = true → EvP e δ2 fun d δ3 => I (k + 1) (acc ++ [d]) δ3) ∧ (p = false → I (k + 1) acc δ2)) (fin : ∀ acc δ', I ds.length acc δ' → ∃ t, δ'[q]? = some (some t)) :
    ∃ ts t' δ', fCompI n caps o q it g t e δ = some (.nd ts, δ.set o (some t')) ∧ I ds.length (ts.map OT.data) δ' ∧ δ'[q]? = some (some t') := by
  obtain ⟨ts, δ', e1, hI⟩ := compP (t := t) (e := e) I ds 0 [] h0 (fun k d acc δ hk h => by rw [Nat.zero_add] at h ⊢; exact turn k d acc δ hk h)
  rw [Nat.zero_add, List.nil_append] at hI
  obtain ⟨t', e2⟩ := fin _ _ hI
  refine ⟨ts, t', δ', ?_, hI, e2⟩
  unfold fCompI
  unfold EvI at hi
  rw [hi]
  show (if ds.length ≤ sizeLine ∧ capsOk caps o δ = true then _ else none) = _
  rw [if_pos ⟨by rw [sizeLine_eq]; omega, hc⟩, e1]
  show (match δ[o]?, δ'[q]? with | some (some _), some (some t) => some (OT.nd ts, δ.set o (some t)) | _, _ => none) = _
  rw [ho, e2]
theorem eps_setO {o : OT} {δ' : DEnv} (h : e δ = some (o, δ')) (q : N (δ'.set i (some o))) : EpS (wE e (kSetO i)) δ N R := .inl ⟨_, by rw [wE_ap, h]; rfl, q⟩
theorem toldI_of {np n : Nat} {t0 : OT} {ds : List PyData} {Q : PyData → OT → Prop} (hl : ds.length + 1 = np) (h : EpS S (startIN n t0 ds) (fun δ' => ∃ t', δ'[0]? = some (some t') ∧ Q .none t') fun d δ' => ∃ t', δ'[0]? = some (some t') ∧ Q d t') : ToldI (runI np n S) t0 ds Q := by
  unfold ToldI
  rw [runI_ap hl]
  rcases h with ⟨δ', e, t', e2, q⟩ | ⟨o, δ', e, t', e2, q⟩
  · exact ⟨.fz .none, t', by rw [e]; show (match δ'[0]? with | some (some t) => some (OT.fz .none, t) | _ => none) = _; rw [e2], by rw [OT.data_fz]; exact q⟩
  · exact ⟨o, t', by rw [e]; show (match δ'[0]? with | some (some t) => some (o, t) | _ => none) = _; rw [e2], q⟩
end
end L2
namespace My
open PySem L2 PySem.Spec
noncomputable def pl (a b c : Int) : OT := .nd [.fz (.int a), .fz (.int b), .fz (.int c)]
noncomputable def Pl (m : Nat) (t : OT) : Prop := ∃ a b c : Int, t = pl a b c ∧ 0 ≤ c ∧ c ≤ m
theorem Pl.up {m n : Nat} {t : OT} (h : Pl m t) (k : m ≤ n) : Pl n t := by
  obtain ⟨a, b, c, e, h0, h1⟩ := h
  exact ⟨a, b, c, e, h0, by omega⟩
theorem pl_data (a b c : Int) : (pl a b c).data = .list [.int a, .int b, .int c] := by unfold pl; rw [OT.data_nd]; rfl
theorem ev_pl {δ : DEnv} {a b c k : Int} {d : PyData} (h : δ[0]? = some (some (pl a b c))) (hk : atI [PyData.int a, .int b, .int c] k = some d) : EvV (fBin gIx (fOwn 0) (fC (.int k))) δ d := ev_atI (ev_own h (pl_data a b c)) ev_c hk
theorem es_put {δ : DEnv} {i n : Nat} {e j : FE} {ts : List OT} {d : PyData} {k : Int} (h : EvV e δ d) (hi : δ[i]? = some (some (.nd ts))) (hj : EvV j δ (.int k)) (hx : ixN ts.length k = some n) : fPut i e j δ = .nx (δ.set i (some (.nd (ts.set n (.fz d))))) := by
  obtain ⟨t, e1, e2⟩ := h
  obtain ⟨u, e3, e4⟩ := hj
  rw [fPut_ap, e1, onO_some, hi]
  show onO (j δ) _ = _
  rw [e3, onO_some, e4]
  show onX (ixN ts.length k) _ = _
  rw [hx, e2]; rfl
theorem lg_s {j : Int} (h0 : 0 < j) (h1 : j ≤ 1000000000) : ∀ i, divB i j = true := fun i => divB_bt (n := 64) (by omega) (Bt.of_lt (by omega) (by omega))
theorem lg_30 : ∀ i, divB i 1000000000000000000000000000000 = true := fun i => by
  unfold divB
  decide +kernel
theorem take_ok {m : Nat} {t : OT} {many : Int} (h : Pl m t) (hm : m ≤ 1000000) (h0 : 0 < many) (h1 : ∀ i, divB i many = true) : ToldI F_law_take_cd1a t [.int many] fun d t' => ∃ r, d = .int r ∧ 0 ≤ r ∧ r < many ∧ Pl (m + 1) t' := by
  obtain ⟨a, b, c, rfl, c0, c1⟩ := h
  refine toldI_of rfl (eps_seq (eps_if (ept_pure (et_V (ev_eq (ev_pl rfl rfl) ev_c rfl)) ⟨fun _ => ?_, fun _ => ?_⟩)))
  · refine eps_seq (eps_of (es_set (ev_mod (ev_pl rfl rfl) ev_var (by omega))) ?_)
    refine eps_seq (eps_of (es_put (n := 0) (ev_binS (ev_pl rfl rfl) ev_var (gFdiv_i (h1 _))) rfl ev_c rfl) ?_)
    exact eps_ret (ep_pure ev_var ⟨_, rfl, _, rfl, fmod_nn h0, fmod_lt h0, a.fdiv many, b, c, rfl, c0, by omega⟩)
  · refine eps_nx (eps_seq (eps_of (es_put (n := 2) (ev_add (ev_pl rfl rfl) ev_c) rfl ev_c rfl) ?_))
    refine eps_seq (eps_setS (ep_pure (ev_pl (a := a) (b := b) (c := c + 1) rfl rfl) ⟨rfl, ?_⟩))
    have n1 := fmod_nn (i := a) (j := 9999999641) (by decide)
    have n2 := fmod_lt (i := a) (j := 9999999641) (by decide)
    refine eps_seq (eps_of (es_set (ev_mulL (ev_add (ev_mod (ev_pl (a := a) (b := b) (c := c + 1) rfl rfl) ev_c (by decide)) ev_c) (ev_add (ev_mulL ev_c ev_var) ev_c) (by omega))) ?_)
    refine eps_seq (eps_of (es_set (ev_add ev_var (ev_mulR (ev_mulL ev_c ev_var) ev_var (by omega)))) ?_)
    have bM := ((Bt.of_lt (m := 34) (x := a.fmod 9999999641 + 953) (by omega) (by omega)).mul (Bt.of_lt (m := 25) (x := 17 * (c + 1) + 43) (by omega) (by omega))).add (((Bt.of_lt (m := 12) (x := 3413) (by decide) (by decide)).mul (Bt.of_lt (m := 20) (x := c + 1) (by omega) (by omega))).mul (Bt.of_lt (m := 20) (x := c + 1) (by omega) (by omega)))
    generalize (a.fmod 9999999641 + 953) * (17 * (c + 1) + 43) + 3413 * (c + 1) * (c + 1) = M at bM ⊢
    refine eps_seq (eps_of (es_set (ev_mod (ev_binS ev_var ev_var (gMul_i (mulB_bt bM bM))) ev_c (by decide))) ?_)
    have n3 := fmod_nn (i := M * M) (j := 99999999683) (by decide)
    have n4 := fmod_lt (i := M * M) (j := 99999999683) (by decide)
    generalize (M * M).fmod 99999999683 = r at n3 n4 ⊢
    exact eps_ret (ep_pure (ev_mod (ev_fdiv (ev_mod (ev_mulL ev_var (ev_add ev_var ev_c) (by omega)) ev_c (by decide)) ev_c) ev_var (by omega)) ⟨_, rfl, _, rfl, fmod_nn h0, fmod_lt h0, a, b, c + 1, rfl, by omega, by omega⟩)
theorem ep_take {δ : DEnv} {i m : Nat} {t : OT} {as : FA} {many : Int} {Q : PyData → DEnv → Prop} (hi : δ[i]? = some (some t)) (h : Pl m t) (hm : m ≤ 1000000) (ha : EvA as δ [.int many]) (h0 : 0 < many) (h1 : ∀ i, divB i many = true) (q : ∀ r t', 0 ≤ r → r < many → Pl (m + 1) t' → Q (.int r) (δ.set i (some t'))) : EvP (fCallI i F_law_take_cd1a as) δ Q :=
  ep_callI hi (epa_pure ha ⟨t, hi, (take_ok h hm h0 h1).mono fun d t' z => by
    obtain ⟨r, rfl, r0, r1, p⟩ := z
    exact q r t' r0 r1 p⟩)
theorem lstO {as : FA} {δ : DEnv} {ts : List OT} (h : as δ = some (ts, δ)) (hl : ts.length ≤ 1000) : fLst as δ = some (.nd ts, δ) := by
  rw [fLst_ap, h]
  exact if_pos (e := none) (show ts.length ≤ sizeLine by rw [sizeLine_eq]; omega)
theorem consO {e : FE} {as : FA} {δ : DEnv} {o : OT} {ts : List OT} (h : e δ = some (o, δ)) (k : as δ = some (ts, δ)) : aCons e as δ = some (o :: ts, δ) := by
  rw [aCons_ap, h]
  show (as δ).bind _ = _
  rw [k]; rfl
theorem ev_int {e : FE} {δ : DEnv} {i : Int} (h : EvV e δ (.int i)) : e δ = some (.fz (.int i), δ) := by
  obtain ⟨t, e1, e2⟩ := h
  rw [e1, int_data e2]
theorem es_retO {e : FE} {δ : DEnv} {o : OT} (h : e δ = some (o, δ)) : wE e kRet δ = .rt o δ := by rw [wE_ap, h]; rfl
theorem pool_ok (ns : List Int) {k : Nat} (hk : k ≤ 20) : ∃ t, F_law_pool_7d17 [intsL ns, .int k] = .ok t ∧ Pl 1000 t := by
  have key : ∀ c : Int, ∃ t δ', fSeq (fIfS (tV (fBinS gGe (fVar 2) (fBinS gPow (fC (.int 10)) (fC (.int 18))))) (wE (fLst (aCons (fBinS gSb (fVar 2) (fBinS gPow (fC (.int 10)) (fC (.int 18)))) (aCons (fC (.int 1)) (aCons (fC (.int 0)) aNil)))) kRet) fNx) (wE (fLst (aCons (fVar 2) (aCons (fC (.int 0)) (aCons (fBinS gMul (fC (.int 23)) (fVar 1)) aNil)))) kRet) [some (.fz (intsL ns)), some (.fz (.int k)), some (.fz (.int c))] = .rt t δ' ∧ Pl 1000 t := fun c => by
    by_cases h : 1000000000000000000 ≤ c
    · refine ⟨pl (c - 1000000000000000000) 1 0, [some (.fz (intsL ns)), some (.fz (.int k)), some (.fz (.int c))], es_seq_rt (es_if_t (et_V (ev_ge ev_var (ev_binS ev_c ev_c gP18) (decide_eq_true h))) ?_), ⟨_, _, _, rfl, by decide, by decide⟩⟩
      exact es_retO (lstO (consO (ev_int (ev_sub ev_var (ev_binS ev_c ev_c gP18))) (consO (ev_int ev_c) (consO (ev_int ev_c) rfl))) (Nat.le_of_ble_eq_true rfl))
    · refine ⟨pl c 0 (23 * k), [some (.fz (intsL ns)), some (.fz (.int k)), some (.fz (.int c))], es_seq (es_if_f (et_V (ev_ge ev_var (ev_binS ev_c ev_c gP18) (decide_eq_false h))) rfl) ?_, ⟨_, _, _, rfl, by omega, by omega⟩⟩
      exact es_retO (lstO (consO (ev_int ev_var) (consO (ev_int ev_c) (consO (ev_int (ev_mulL ev_c ev_var)) rfl))) (Nat.le_of_ble_eq_true rfl))
  have fin : ∀ c : Int, ∀ {δ0 : DEnv}, S_law_pool_7d17 [some (.fz (intsL ns)), some (.fz (.int k)), none] = fSeq (fIfS (tV (fBinS gGe (fVar 2) (fBinS gPow (fC (.int 10)) (fC (.int 18))))) (wE (fLst (aCons (fBinS gSb (fVar 2) (fBinS gPow (fC (.int 10)) (fC (.int 18)))) (aCons (fC (.int 1)) (aCons (fC (.int 0)) aNil)))) kRet) fNx) (wE (fLst (aCons (fVar 2) (aCons (fC (.int 0)) (aCons (fBinS gMul (fC (.int 23)) (fVar 1)) aNil)))) kRet) [some (.fz (intsL ns)), some (.fz (.int k)), some (.fz (.int c))] → ∃ t, F_law_pool_7d17 [intsL ns, .int k] = .ok t ∧ Pl 1000 t := fun c δ0 e => by
    obtain ⟨t, δ', e2, p⟩ := key c
    refine ⟨t, ?_, p⟩
    unfold F_law_pool_7d17
    rw [runD_ap (np := 2) (by rfl)]
    show (S_law_pool_7d17 [some (.fz (intsL ns)), some (.fz (.int k)), none]).told = _
    rw [e, e2]; rfl
  by_cases h : (k : Int) < ns.length
  · exact fin _ (δ0 := []) (es_seq (es_set ev_c) (es_seq (es_if_t (et_V (ev_lt ev_var (ev_intsLen ev_var) (decide_eq_true h))) (es_set (ev_intsAt ev_var ev_var (by omega) h))) rfl))
  · exact fin 0 (δ0 := []) (es_seq (es_set ev_c) (es_seq (es_if_f (et_V (ev_lt ev_var (ev_intsLen ev_var) (decide_eq_false h))) rfl) rfl))
theorem sh_ints (p : List Int) : Sh 1 (intsL p) := lay_ints p
theorem gNe_ints (a b : List Int) : gNe (intsL a) (intsL b) = some (.bool (!decide (a = b))) := by
  have s : ∀ p, SeqAt.shaped (intsL p) = true := fun p => ((sh_ints p).shp (by omega)).ok
  unfold gNe
  rw [if_pos (by rw [s, s]; rfl)]
  exact congrArg (fun z => some (PyData.bool (!z))) (eqv_intsL a b)
theorem gMem_ints (neg : Bool) (x : Int) (p : List Int) : gMem neg (.int x) (intsL p) = some (.bool (if neg then !decide (x ∈ p) else decide (x ∈ p))) := by
  have e : memS (.int x) (p.map PyData.int) = decide (x ∈ p) := by
    unfold memS
    rw [List.any_map]
    rw [Bool.eq_iff_iff, List.any_eq_true, decide_eq_true_eq]
    constructor
    · rintro ⟨y, hy, h⟩
      have : (y == x) = true := h
      rw [← eq_of_beq this]; exact hy
    · intro h
      exact ⟨x, h, (show (x == x) = true from beq_self_eq_true x)⟩
  have s : (p.map PyData.int).all scD = true := by
    rw [List.all_eq_true]
    intro d hd
    obtain ⟨y, _, rfl⟩ := List.mem_map.mp hd
    rfl
  show (if (scD (.int x) && (p.map PyData.int).all scD) = true then some (PyData.bool (if neg then !memS (.int x) (p.map PyData.int) else memS (.int x) (p.map PyData.int))) else none) = _
  rw [s, e]; rfl
theorem gEq_ints (a b : List Int) : gEq (intsL a) (intsL b) = some (.bool (decide (a = b))) := by
  have s : ∀ p, SeqAt.shaped (intsL p) = true := fun p => ((sh_ints p).shp (by omega)).ok
  unfold gEq
  rw [if_pos (by rw [s, s]; rfl)]
  exact congrArg (fun z => some (PyData.bool z)) (eqv_intsL a b)
noncomputable def sdI (n : Nat) (c : Int → Bool) : List Int := ((List.range n).filter fun i : Nat => c i).map fun i : Nat => (i : Int)
theorem side_ev {n : Nat} (hn : n ≤ 10) {δ : DEnv} {neg : Bool} {ns : List Int} (h0 : δ[0]? = some (some (.fz (.int n)))) (hb : blk 1 [1] δ = [none, some (.fz (intsL ns))]) : EvV (fComp 1 [1] (iRa (aCons (fVar 0) aNil)) (gNm 0) (tV (fBinS (gMem neg) (fVar 0) (fVar 1))) (fVar 0)) δ (intsL (sdI n fun x => if neg then !decide (x ∈ ns) else decide (x ∈ ns))) := by
  have hi : EvI (iRa (aCons (fVar 0) aNil)) δ ((List.range n).map fun i : Nat => PyData.int (0 + (i : Int))) := ei_ra (ea_cons (ev_var h0) ea_nil) (by omega)
  have e0 : (fun i : Nat => PyData.int (0 + (i : Int))) = fun i : Nat => PyData.int (i : Int) := funext fun i => by rw [Int.zero_add]
  rw [e0] at hi
  have := ev_compF (δ := δ) (t := tV (fBinS (gMem neg) (fVar 0) (fVar 1))) (me := fVar 0) (List.range n) (fun i : Nat => PyData.int (i : Int)) (fun i : Nat => if neg then !decide ((i : Int) ∈ ns) else decide ((i : Int) ∈ ns)) hi (by rw [List.length_range]; omega) hb (fun i _ => et_V (ev_binS ev_var ev_var (gMem_ints neg _ _))) fun i _ _ => rfl
  refine this.cast ?_
  unfold intsL sdI
  rw [List.map_map]; rfl
theorem sdI_mem {n : Nat} {c : Int → Bool} {x : Int} : x ∈ sdI n c ↔ 0 ≤ x ∧ x < n ∧ c x = true := by
  unfold sdI
  rw [List.mem_map]
  constructor
  · rintro ⟨i, hi, rfl⟩
    obtain ⟨h1, h2⟩ := List.mem_filter.mp hi
    have := List.mem_range.mp h1
    exact ⟨by omega, by omega, h2⟩
  · rintro ⟨h1, h2, h3⟩
    exact ⟨x.toNat, List.mem_filter.mpr ⟨List.mem_range.mpr (by omega), by rw [Int.toNat_of_nonneg h1]; exact h3⟩, Int.toNat_of_nonneg h1⟩
theorem sdI_sorted (n : Nat) (c : Int → Bool) : (sdI n c).Pairwise (· < ·) := by
  unfold sdI
  exact List.Pairwise.map _ (fun a b h => by omega) ((List.pairwise_lt_range (n := n)).filter _)
theorem sort_side {n : Nat} {ns : List Int} (h : ∀ x ∈ ns, 0 ≤ x ∧ x < n) : isort (dnc ns) = sdI n fun x => decide (x ∈ ns) := by
  have nd : (sdI n fun x => decide (x ∈ ns)).Nodup := (sdI_sorted n _).imp fun h e => by omega
  have o := dnc_of ns
  have pm : (dnc ns).Perm (sdI n fun x => decide (x ∈ ns)) := (List.perm_ext_iff_of_nodup o.1 nd).mpr fun x => by
    rw [o.2, sdI_mem, decide_eq_true_eq]
    exact ⟨fun m => ⟨(h x m).1, (h x m).2, m⟩, fun m => m.2.2⟩
  exact sorted_unique ((isort_perm _).trans pm) (isort_sorted _) ((sdI_sorted n _).imp fun h => Int.le_of_lt h)
noncomputable def inR (n : Nat) (x : Int) : Bool := decide (0 ≤ x) && decide (x < n)
theorem chain_ev {n : Nat} {x : Int} {δ : DEnv} (h0 : δ[0]? = some (some (.fz (.int n)))) (h2 : δ[2]? = some (some (.fz (.int x)))) : EvV (fChain (fun i j => decide (i ≤ j)) (fun i j => decide (i < j)) (fC (.int 0)) (fVar 2) (fVar 0)) δ (.bool (inR n x)) := by
  refine ⟨.fz (.bool (inR n x)), ?_, OT.data_fz _⟩
  have e2 : fVar 2 δ = some (.fz (.int x), δ) := by rw [fVar_ap, h2]; rfl
  have e0 : fVar 0 δ = some (.fz (.int n), δ) := by rw [fVar_ap, h0]; rfl
  unfold fChain
  show (fVar 2 δ).bind _ = _
  rw [e2]
  show (match (PyData.int 0), (OT.fz (.int x)).data with | .int i, .int j => if decide (i ≤ j) = true then (fVar 0 δ).bind fun r => match r.1.data with | .int k => some (OT.fz (.bool (decide (j < k))), r.2) | _ => none else some (OT.fz (.bool false), δ) | _, _ => none) = _
  rw [OT.data_fz]
  dsimp only
  unfold inR
  by_cases c : 0 ≤ x
  · rw [if_pos (decide_eq_true c), e0, decide_eq_true c]; rfl
  · rw [if_neg (by rw [decide_eq_false c]; exact Bool.false_ne_true), decide_eq_false c]; rfl
theorem pt_ev {n : Nat} {x : Int} {δ : DEnv} (h0 : δ[0]? = some (some (.fz (.int n)))) (h2 : δ[2]? = some (some (.fz (.int x)))) : EvT (tO (tNo (tD (fCall F_is_whole_593d (aCons (fVar 2) aNil)))) (tNo (tV (fChain (fun i j => decide (i ≤ j)) (fun i j => decide (i < j)) (fC (.int 0)) (fVar 2) (fVar 0))))) δ (!inR n x) :=
  et_o (et_no (p := true) (et_Db (ev_call (ea_cons (ev_var h2) ea_nil) (Told.of (is_whole_int x) (OT.data_fz _))))) (et_no (et_V (chain_ev h0 h2)))
theorem chk_ok {n : Nat} {ns : List Int} (h : ∀ x ∈ ns, inR n x = true) : F_check_points_cadf [.int n, intsL ns] = .ok (.fz .none) := by
  have key : EpS S_check_points_cadf (startN 3 [.int n, intsL ns]) (fun _ => True) fun _ _ => False := by
    refine eps_for (ds := ns.map PyData.int) (fun _ δ => ∃ z, δ = [some (.fz (.int n)), some (.fz (intsL ns)), z]) (ei_lst ev_var) ⟨none, rfl⟩ (fun k d δ hd q => ?_) fun _ _ => trivial
    obtain ⟨z, rfl⟩ := q
    obtain ⟨x, hx, rfl⟩ := List.mem_map.mp (List.mem_of_getElem? hd)
    exact ⟨_, rfl, eps_of (es_if_f (by have := pt_ev (n := n) (x := x) (δ := [some (.fz (.int n)), some (.fz (intsL ns)), some (.fz (.int x))]) rfl rfl; rwa [h x hx] at this) rfl) ⟨_, rfl⟩⟩
  unfold F_check_points_cadf
  rw [runD_ap (np := 2) (by rfl)]
  rcases key with ⟨δ', e, _⟩ | ⟨o, δ', e, z⟩
  · exact congrArg RS.told e
  · exact z.elim
theorem chk_no {n : Nat} {ns : List Int} (h : ¬ ∀ x ∈ ns, inR n x = true) : F_check_points_cadf [.int n, intsL ns] = .exn "NoCut" := by
  have key : ∀ (ms : List Int) (z : Option OT), (¬ ∀ x ∈ ms, inR n x = true) → ∃ δ', forLoop (gNm 2) (fIfS (tO (tNo (tD (fCall F_is_whole_593d (aCons (fVar 2) aNil)))) (tNo (tV (fChain (fun i j => decide (i ≤ j)) (fun i j => decide (i < j)) (fC (.int 0)) (fVar 2) (fVar 0))))) (fRaise "NoCut") fNx) (ms.map PyData.int) [some (.fz (.int n)), some (.fz (intsL ns)), z] = .ex "NoCut" δ' := by
    intro ms
    induction ms with
    | nil => intro z h; exact absurd (fun x m => nomatch m) h
    | cons x ms ih =>
      intro z h
      have t := pt_ev (n := n) (x := x) (δ := [some (.fz (.int n)), some (.fz (intsL ns)), some (.fz (.int x))]) rfl rfl
      cases c : inR n x with
      | true =>
        rw [c] at t
        obtain ⟨δ', e⟩ := ih (some (.fz (.int x))) fun g => h fun y m => (List.mem_cons.mp m).elim (fun e => e ▸ c) (g y)
        refine ⟨δ', ?_⟩
        rw [List.map_cons, forLoop]
        show (match fIfS _ _ _ [some (.fz (.int n)), some (.fz (intsL ns)), some (.fz (.int x))] with | .nx δ2 => _ | .ct δ2 => _ | .bk δ2 => _ | r => _) = _
        rw [es_if_f t (rfl : fNx _ = _)]
        exact e
      | false =>
        rw [c] at t
        refine ⟨[some (.fz (.int n)), some (.fz (intsL ns)), some (.fz (.int x))], ?_⟩
        rw [List.map_cons, forLoop]
        show (match fIfS _ _ _ [some (.fz (.int n)), some (.fz (intsL ns)), some (.fz (.int x))] with | .nx δ2 => _ | .ct δ2 => _ | .bk δ2 => _ | r => _) = _
        rw [es_if_t t (rfl : fRaise "NoCut" _ = _)]; rfl
  obtain ⟨δ', e⟩ := key ns none h
  unfold F_check_points_cadf
  rw [runD_ap (np := 2) (by rfl)]
  have hi : EvI (iLst (fVar 1)) (startN 3 [.int n, intsL ns]) (ns.map PyData.int) := ei_lst ev_var
  have : S_check_points_cadf (startN 3 [.int n, intsL ns]) = .ex "NoCut" δ' := es_for hi e
  rw [this]; rfl
noncomputable def ndI (l : List Int) : OT := .nd ((l.map PyData.int).map OT.fz)
theorem ndI_data (l : List Int) : (ndI l).data = intsL l := nd_ints l
noncomputable def oth (n : Nat) (ns : List Int) : List Int := sdI n fun x => !decide (x ∈ ns)
noncomputable def sid (n : Nat) (ns : List Int) : List Int := sdI n fun x => decide (x ∈ ns)
theorem oth_eq {n : Nat} (hn : n ≤ 10) {δ : DEnv} {ns : List Int} (h0 : δ[0]? = some (some (.fz (.int n)))) (hb : blk 1 [1] δ = [none, some (.fz (intsL ns))]) : fComp 1 [1] (iRa (aCons (fVar 0) aNil)) (gNm 0) (tV (fBinS (gMem true) (fVar 0) (fVar 1))) (fVar 0) δ = some (ndI (oth n ns), δ) := by
  have hi : EvI (iRa (aCons (fVar 0) aNil)) δ ((List.range n).map fun i : Nat => PyData.int (0 + (i : Int))) := ei_ra (ea_cons (ev_var h0) ea_nil) (by omega)
  have e0 : (fun i : Nat => PyData.int (0 + (i : Int))) = fun i : Nat => PyData.int (i : Int) := funext fun i => by rw [Int.zero_add]
  rw [e0] at hi
  unfold EvI at hi
  have := fComp_fil (δ := δ) (cs := [some (.fz (intsL ns))]) (caps := [1]) (t := tV (fBinS (gMem true) (fVar 0) (fVar 1))) (me := fVar 0) (List.range n) (fun i : Nat => PyData.int (i : Int)) (fun i : Nat => !decide ((i : Int) ∈ ns)) (fun i : Nat => .fz (PyData.int (i : Int))) hi (by rw [List.length_range, sizeLine_eq]; omega) hb (fun i _ => et_V (ev_binS ev_var ev_var (gMem_ints true _ _))) fun i _ _ => rfl
  rw [this]
  unfold ndI oth sdI
  rw [List.map_map, List.map_map]; rfl
theorem srt_eq {δ : DEnv} {i : Nat} {ns : List Int} (h : δ[i]? = some (some (.fz (intsL ns)))) (l : ns.length < 64) : fSortSet (aCons (fVar i) aNil) δ = some (ndI (isort (dnc ns)), δ) := by
  obtain ⟨ts, e1, e2⟩ := ea_cons (ev_var h) (ea_nil (δ := δ))
  unfold fSortSet
  rw [e1, Option.bind_some]
  show (match OT.datas ts with | [.list es] => (intsD es).bind fun ns => if ns.length < 64 then some (OT.nd (((isort (dnc ns)).map PyData.int).map OT.fz), δ) else none | _ => none) = _
  rw [e2]
  show (intsD (ns.map PyData.int)).bind _ = _
  rw [intsD_map, Option.bind_some, if_pos l]; rfl
theorem cut_refuse {n : Nat} {ns : List Int} (h : ¬ ∀ x ∈ ns, inR n x = true) : F_cut_of_5159 [.int n, intsL ns] = .exn "NoCut" := by
  unfold F_cut_of_5159
  rw [runD_ap (np := 2) (by rfl)]
  have e : (wX F_check_points_cadf (aCons (fVar 0) (aCons (fVar 1) aNil)) kDrop) (startN 3 [.int n, intsL ns]) = .ex "NoCut" (startN 3 [.int n, intsL ns]) := by
    rw [wX_ap]
    obtain ⟨ts, e1, e2⟩ := ea_cons (δ := startN 3 [.int n, intsL ns]) (ev_var (i := 0) (d := .int n)) (ea_cons (ev_var (i := 1) (d := intsL ns)) ea_nil)
    rw [e1, onO_some, e2, chk_no h, onF_ex]
  unfold S_cut_of_5159
  rw [fSeq_ap, e, thn_ex, told_ex]
theorem chk_run {n : Nat} {ns : List Int} (h : ∀ x ∈ ns, inR n x = true) : (wX F_check_points_cadf (aCons (fVar 0) (aCons (fVar 1) aNil)) kDrop) [some (.fz (.int n)), some (.fz (intsL ns)), none] = .nx [some (.fz (.int n)), some (.fz (intsL ns)), none] := by
  rw [wX_ap]
  obtain ⟨ts, e1, e2⟩ := ea_cons (δ := [some (.fz (.int n)), some (.fz (intsL ns)), none]) (ev_var (i := 0) (d := .int n)) (ea_cons (ev_var (i := 1) (d := intsL ns)) ea_nil)
  rw [e1, onO_some, e2, chk_ok h, onF_ok]; rfl
theorem cut_mid {n : Nat} (hn : n ≤ 10) {ns : List Int} {b : Bool} (hb : (decide (ns.length = 0) || decide ((oth n ns).length = 0)) = b) : EvT (tO (tV (fBinS gEq (fBlS gLen (aCons (fVar 1) aNil)) (fC (.int 0)))) (tV (fBinS gEq (fBlS gLen (aCons (fOwn 2) aNil)) (fC (.int 0))))) [some (.fz (.int n)), some (.fz (intsL ns)), some (ndI (oth n ns))] b := by
  have t1 : EvT (tV (fBinS gEq (fBlS gLen (aCons (fVar 1) aNil)) (fC (.int 0)))) [some (.fz (.int n)), some (.fz (intsL ns)), some (ndI (oth n ns))] (decide (ns.length = 0)) := et_V (ev_eq (ev_intsLen ev_var) ev_c (decide_eq_decide.mpr (by omega)))
  have t2 : EvT (tV (fBinS gEq (fBlS gLen (aCons (fOwn 2) aNil)) (fC (.int 0)))) [some (.fz (.int n)), some (.fz (intsL ns)), some (ndI (oth n ns))] (decide ((oth n ns).length = 0)) := et_V (ev_eq (ev_intsLen (ev_own rfl (ndI_data _))) ev_c (decide_eq_decide.mpr (by omega)))
  subst hb
  cases c : decide (ns.length = 0) with
  | true => rw [c] at t1; exact et_o_t t1
  | false => rw [c] at t1; exact et_o t1 t2
theorem cut_none {n : Nat} (hn : n ≤ 10) {ns : List Int} (h : ∀ x ∈ ns, inR n x = true) (c : (decide (ns.length = 0) || decide ((oth n ns).length = 0)) = true) : F_cut_of_5159 [.int n, intsL ns] = .exn "NoCut" := by
  unfold F_cut_of_5159
  rw [runD_ap (np := 2) (by rfl)]
  show (S_cut_of_5159 [some (.fz (.int n)), some (.fz (intsL ns)), none]).told = _
  unfold S_cut_of_5159
  rw [fSeq_ap, chk_run h, thn_nx, fSeq_ap, es_setO (oth_eq hn rfl rfl), thn_nx, fSeq_ap]
  show (RS.thn (fIfS _ _ _ [some (.fz (.int n)), some (.fz (intsL ns)), some (ndI (oth n ns))]) _).told = _
  rw [es_if_t (cut_mid hn c) (fRaise_ap _ _), thn_ex, told_ex]
theorem cut_some {n : Nat} (hn : n ≤ 10) {ns : List Int} (hl : ns.length < 64) (h : ∀ x ∈ ns, inR n x = true) (c : (decide (ns.length = 0) || decide ((oth n ns).length = 0)) = false) : F_cut_of_5159 [.int n, intsL ns] = .ok (ndI (if 0 ∈ ns then oth n ns else sid n ns)) := by
  unfold F_cut_of_5159
  rw [runD_ap (np := 2) (by rfl)]
  show (S_cut_of_5159 [some (.fz (.int n)), some (.fz (intsL ns)), none]).told = _
  unfold S_cut_of_5159
  rw [fSeq_ap, chk_run h, thn_nx, fSeq_ap, es_setO (oth_eq hn rfl rfl), thn_nx, fSeq_ap]
  show (RS.thn (fIfS _ _ _ [some (.fz (.int n)), some (.fz (intsL ns)), some (ndI (oth n ns))]) _).told = _
  rw [es_if_f (cut_mid hn c) (fNx_ap _), thn_nx, fSeq_ap]
  have t : ∀ {b : Bool}, decide ((0 : Int) ∈ ns) = b → EvT (tV (fBinS (gMem false) (fC (.int 0)) (fVar 1))) [some (.fz (.int n)), some (.fz (intsL ns)), some (ndI (oth n ns))] b := fun hb => hb ▸ et_V (ev_binS ev_c ev_var (gMem_ints false 0 ns))
  by_cases z : (0 : Int) ∈ ns
  · rw [if_pos z, es_if_t (t (decide_eq_true z)) (rfl : fRetO 2 _ = _)]; rfl
  · rw [if_neg z, es_if_f (t (decide_eq_false z)) (fNx_ap _), thn_nx, wE_ap, srt_eq (i := 1) rfl hl]
    have e : isort (dnc ns) = sid n ns := sort_side fun x m => by
      have := h x m
      unfold inR at this
      rw [Bool.and_eq_true, decide_eq_true_eq, decide_eq_true_eq] at this
      exact this
    rw [e]; rfl
noncomputable def outs (n : Nat) (ns : List Int) : List Int := ns.filter fun x => decide (x < 0) || decide (x ≥ n)
theorem outs_ev {n : Nat} {ns : List Int} (hl : ns.length < 64) {δ : DEnv} (h1 : δ[1]? = some (some (.fz (intsL ns)))) (hb : blk 1 [0] δ = [none, some (.fz (.int n))]) : EvV (fComp 1 [0] (iLst (fVar 1)) (gNm 0) (tO (tV (fBinS gLt (fVar 0) (fC (.int 0)))) (tV (fBinS gGe (fVar 0) (fVar 1)))) (fVar 0)) δ (intsL (outs n ns)) := by
  refine ev_compF (δ := δ) (t := tO (tV (fBinS gLt (fVar 0) (fC (.int 0)))) (tV (fBinS gGe (fVar 0) (fVar 1)))) (me := fVar 0) ns PyData.int (fun x => decide (x < 0) || decide (x ≥ n)) (ei_lst (ev_var h1)) (by omega) hb (fun x _ => ?_) fun x _ _ => rfl
  have t1 : EvT (tV (fBinS gLt (fVar 0) (fC (.int 0)))) [some (.fz (.int x)), some (.fz (.int n))] (decide (x < 0)) := et_V (ev_lt ev_var ev_c rfl)
  have t2 : EvT (tV (fBinS gGe (fVar 0) (fVar 1))) [some (.fz (.int x)), some (.fz (.int n))] (decide (x ≥ n)) := et_V (ev_ge ev_var ev_var rfl)
  cases c : decide (x < 0) with
  | true => rw [c] at t1; exact et_o_t t1
  | false => rw [c] at t1; exact et_o t1 t2
noncomputable def noB (n : Nat) (ns : List Int) : Bool := decide (sid n ns = []) || (decide (oth n ns = []) || !decide (outs n ns = []))
noncomputable def dueD (n : Nat) (ns : List Int) : PyData := if noB n ns = true then .none else intsL (if 0 ∈ ns then oth n ns else sid n ns)
theorem due_ok {n : Nat} (h1 : 1 ≤ n) (hn : n ≤ 10) {ns : List Int} (hl : ns.length < 64) : Told F_law_due_8670 [.int n, intsL ns] (dueD n ns) := by
  have nil : ∀ {δ : DEnv}, EvV (fLst aNil) δ (intsL []) := ev_lst ea_nil (show 0 ≤ 1000 by decide)
  have t1 : EvT (tV (fBinS gEq (fVar 2) (fLst aNil))) [some (.fz (.int n)), some (.fz (intsL ns)), some (.fz (intsL (sid n ns))), some (.fz (intsL (oth n ns)))] (decide (sid n ns = [])) := et_V (ev_binS ev_var nil (gEq_ints _ _))
  have t2 : EvT (tV (fBinS gEq (fVar 3) (fLst aNil))) [some (.fz (.int n)), some (.fz (intsL ns)), some (.fz (intsL (sid n ns))), some (.fz (intsL (oth n ns)))] (decide (oth n ns = [])) := et_V (ev_binS ev_var nil (gEq_ints _ _))
  have t3 : EvT (tV (fBinS gNe (fComp 1 [0] (iLst (fVar 1)) (gNm 0) (tO (tV (fBinS gLt (fVar 0) (fC (.int 0)))) (tV (fBinS gGe (fVar 0) (fVar 1)))) (fVar 0)) (fLst aNil))) [some (.fz (.int n)), some (.fz (intsL ns)), some (.fz (intsL (sid n ns))), some (.fz (intsL (oth n ns)))] (!decide (outs n ns = [])) := et_V (ev_binS (outs_ev hl rfl rfl) nil (gNe_ints _ _))
  have t : EvT (tO (tV (fBinS gEq (fVar 2) (fLst aNil))) (tO (tV (fBinS gEq (fVar 3) (fLst aNil))) (tV (fBinS gNe (fComp 1 [0] (iLst (fVar 1)) (gNm 0) (tO (tV (fBinS gLt (fVar 0) (fC (.int 0)))) (tV (fBinS gGe (fVar 0) (fVar 1)))) (fVar 0)) (fLst aNil))))) [some (.fz (.int n)), some (.fz (intsL ns)), some (.fz (intsL (sid n ns))), some (.fz (intsL (oth n ns)))] (noB n ns) := by
    unfold noB
    cases c : decide (sid n ns = []) with
    | true => rw [c] at t1; exact et_o_t t1
    | false =>
      rw [c] at t1
      refine et_o t1 ?_
      cases c2 : decide (oth n ns = []) with
      | true => rw [c2] at t2; exact et_o_t t2
      | false => rw [c2] at t2; exact et_o t2 t3
  refine told_of rfl <| rt_seq (es_set (side_ev (neg := false) hn rfl rfl)) <| rt_seq (es_set (side_ev (neg := true) hn rfl rfl)) ?_
  unfold dueD
  cases c : noB n ns with
  | true =>
    rw [c] at t
    exact rt_first (rt_if_t t (rt_ret ev_c))
  | false =>
    rw [c] at t
    refine rt_seq (es_if_f t rfl) (rt_ret ?_)
    have z : (0 : Int) ∈ sid n ns ↔ (0 : Int) ∈ ns := by
      unfold sid
      rw [sdI_mem, decide_eq_true_eq]
      exact ⟨fun m => m.2.2, fun m => ⟨by omega, by omega, m⟩⟩
    refine (ev_bin (x := .list [intsL (sid n ns), intsL (oth n ns)]) (y := .int (if (0 : Int) ∈ ns then 1 else 0)) (o := .fz (intsL (if 0 ∈ ns then oth n ns else sid n ns))) (ev_lst (ea_cons ev_var (ea_cons ev_var ea_nil)) (show 2 ≤ 1000 by decide)) (ev_blS (ea_cons (ev_binS ev_c ev_var (gMem_ints false 0 _)) ea_nil) ?_) ?_ (OT.data_fz _)).cast (by rfl)
    · by_cases m : (0 : Int) ∈ ns
      · rw [if_pos m]
        have e : decide ((0 : Int) ∈ sid n ns) = true := decide_eq_true (z.mpr m)
        show gInt [.bool (decide ((0 : Int) ∈ sid n ns))] = _
        rw [e]; rfl
      · rw [if_neg m]
        have e : decide ((0 : Int) ∈ sid n ns) = false := decide_eq_false fun q => m (z.mp q)
        show gInt [.bool (decide ((0 : Int) ∈ sid n ns))] = _
        rw [e]; rfl
    · by_cases m : (0 : Int) ∈ ns
      · rw [if_pos m, if_pos m]; rfl
      · rw [if_neg m, if_neg m]; rfl
theorem inR_outs {n : Nat} {ns : List Int} : (∀ x ∈ ns, inR n x = true) ↔ outs n ns = [] := by
  unfold outs
  rw [List.filter_eq_nil_iff]
  refine forall_congr' fun x => imp_congr_right fun _ => ?_
  unfold inR
  rw [Bool.and_eq_true, decide_eq_true_eq, decide_eq_true_eq, Bool.or_eq_true, decide_eq_true_eq, decide_eq_true_eq]
  omega
theorem sid_nil {n : Nat} {ns : List Int} (h : ∀ x ∈ ns, inR n x = true) : sid n ns = [] ↔ ns.length = 0 := by
  constructor
  · intro e
    cases ns with
    | nil => rfl
    | cons a ns =>
      have ha := h a (.head _)
      unfold inR at ha
      rw [Bool.and_eq_true, decide_eq_true_eq, decide_eq_true_eq] at ha
      have : a ∈ sid n (a :: ns) := sdI_mem.mpr ⟨ha.1, ha.2, decide_eq_true (.head _)⟩
      rw [e] at this
      cases this
  · intro e
    rw [List.length_eq_zero_iff.mp e]
    refine List.eq_nil_iff_forall_not_mem.mpr fun x m => ?_
    have := (sdI_mem.mp m).2.2
    cases of_decide_eq_true this
theorem cut_no {n : Nat} (hn : n ≤ 10) {ns : List Int} (hl : ns.length < 64) (c : noB n ns = true) : F_cut_of_5159 [.int n, intsL ns] = .exn "NoCut" := by
  by_cases h : ∀ x ∈ ns, inR n x = true
  · refine cut_none hn h ?_
    unfold noB at c
    rw [decide_eq_true (inR_outs.mp h), Bool.not_true, Bool.or_false] at c
    rw [Bool.or_eq_true, decide_eq_true_eq, decide_eq_true_eq] at c ⊢
    exact c.imp (sid_nil h).mp fun z => by rw [z]; rfl
  · exact cut_refuse h
theorem cut_yes {n : Nat} (hn : n ≤ 10) {ns : List Int} (hl : ns.length < 64) (c : noB n ns = false) : F_cut_of_5159 [.int n, intsL ns] = .ok (ndI (if 0 ∈ ns then oth n ns else sid n ns)) := by
  unfold noB at c
  rw [Bool.or_eq_false_iff, Bool.or_eq_false_iff, decide_eq_false_iff_not, decide_eq_false_iff_not, Bool.not_eq_false', decide_eq_true_eq] at c
  have h := inR_outs.mpr c.2.2
  refine cut_some hn hl h ?_
  rw [Bool.or_eq_false_iff, decide_eq_false_iff_not, decide_eq_false_iff_not]
  exact ⟨fun z => c.1 ((sid_nil h).mpr z), fun z => c.2.1 (List.length_eq_zero_iff.mp z)⟩
theorem is_ok : Told F_law_is_4dde [exD "NoCut", .int 3] (.bool true) := by
  have v : ∀ {δ : DEnv} {D : Str} {p : Bool}, δ[0]? = some (some (.fz (exD "NoCut"))) → subX "NoCut" D = p → EvV (fIsiX xsL D (fVar 0)) δ (.bool p) := fun h hd => ev_isX (x := "NoCut") (ev_var h) (by decide +kernel) hd
  obtain ⟨ts, e1, e2⟩ : ∃ ts, fLst (aCons (fIsiX xsL "NoNumber" (fVar 0)) (aCons (fIsiX xsL "NoTable" (fVar 0)) (aCons (fIsiX xsL "NoPoint" (fVar 0)) aNil))) [some (.fz (exD "NoCut")), some (.fz (.int 3)), none] = some (.nd ts, [some (.fz (exD "NoCut")), some (.fz (.int 3)), none]) ∧ OT.datas ts = [.bool false, .bool false, .bool false] := by
    obtain ⟨ts, e1, e2⟩ := ea_cons (v (δ := [some (.fz (exD "NoCut")), some (.fz (.int 3)), none]) (D := "NoNumber") (p := false) rfl (by decide +kernel)) (ea_cons (v (D := "NoTable") (p := false) rfl (by decide +kernel)) (ea_cons (v (D := "NoPoint") (p := false) rfl (by decide +kernel)) ea_nil))
    refine ⟨ts, lstO e1 ?_, e2⟩
    have := congrArg List.length e2
    rw [datas_len] at this
    rw [this]
    exact Nat.le_of_ble_eq_true rfl
  have lt : ts.length = 3 := by have := congrArg List.length e2; rwa [datas_len] at this
  have c : EvV (fComp 1 [1] (iRa (aCons (fC (.int 4)) aNil)) (gNm 0) tYes (fBinS gEq (fVar 0) (fVar 1))) [some (.fz (exD "NoCut")), some (.fz (.int 3)), some (.nd (ts ++ [.fz (.bool true)]))] (.list [.bool false, .bool false, .bool false, .bool true]) := by
    have hi : EvI (iRa (aCons (fC (.int 4)) aNil)) [some (.fz (exD "NoCut")), some (.fz (.int 3)), some (.nd (ts ++ [.fz (.bool true)]))] ((List.range 4).map fun i : Nat => PyData.int (0 + (i : Int))) := ei_ra (n := 4) (ea_cons ev_c ea_nil) (by omega)
    exact (ev_comp (cs := [some (.fz (.int 3))]) (List.range 4) (fun i : Nat => PyData.int (0 + (i : Int))) (fun i : Nat => .bool (decide ((0 + (i : Int)) = 3))) hi (by decide) rfl fun i _ => ev_binS ev_var ev_var (gEq_i _ _)).cast (by rfl)
  have o : EvV (fOwn 2) [some (.fz (exD "NoCut")), some (.fz (.int 3)), some (.nd (ts ++ [.fz (.bool true)]))] (.list [.bool false, .bool false, .bool false, .bool true]) := ev_own rfl (by
    rw [OT.data_nd, List.map_append, ← datas_map, e2]; rfl)
  refine told_of rfl <| rt_seq (es_setO e1) <| rt_seq (es_app (v (D := "NoCut") (p := true) rfl (by decide +kernel)) rfl (by omega)) <| rt_seq (es_if_f (et_o (et_no (p := true) (et_Db (v (D := "ValueError") (p := true) rfl (by decide +kernel)))) (et_V (ev_binS (d := .bool false) o c (by rfl)))) rfl) (rt_ret (ev_un (ev_isXT (p := false) (x := "NoCut") ev_var rfl (by decide +kernel)) rfl))
theorem flat_nd (l : List Int) : flatT (ndI l) = true := by
  unfold ndI
  rw [flatT]
  induction l with
  | nil => rfl
  | cons a l ih =>
    show flatTs (OT.fz (.int a) :: (l.map PyData.int).map OT.fz) = true
    rw [flatTs, ih, flatT]; rfl
theorem es_try_nx {S h : FS} {δ δ' : DEnv} {xs : List Str} {D : Str} {k : Nat} (e : S δ = .nx δ') : fTry xs S D k h δ = .nx δ' := by
  unfold fTry
  rw [e]
theorem list_eq {δ : DEnv} {ns : List Int} {i : Nat} (h : δ[i]? = some (some (.fz (intsL ns)))) : fBl gList (aCons (fVar i) aNil) δ = some (ndI ns, δ) := by
  obtain ⟨ts, e1, e2⟩ := ea_cons (ev_var h) (ea_nil (δ := δ))
  unfold fBl
  rw [e1, Option.bind_some]
  show (gList (OT.datas ts)).bind _ = _
  rw [e2]; rfl
theorem bools_ev {l : List Int} (hl : l.length ≤ 1000) {δ : DEnv} {e : FE} (h : EvV e δ (intsL l)) : EvV (fComp 1 [] (iLst e) (gNmS 0) (tD (fIsi "bool" (fVar 0))) (fVar 0)) δ (intsL []) := by
  have key : ∀ (l : List Int) (z : Option OT), ∃ δ', compLoop (gNmS 0) (tD (fIsi "bool" (fVar 0))) (fVar 0) (l.map PyData.int) [z] = some ([], δ') := by
    intro l
    induction l with
    | nil => exact fun z => ⟨_, rfl⟩
    | cons a l ih =>
      intro z
      obtain ⟨δ', e9⟩ := ih (some (.fz (.int a)))
      refine ⟨δ', ?_⟩
      rw [List.map_cons, compLoop]
      have g : gNmS 0 (.int a) [z] = some [some (.fz (.int a))] := by unfold gNmS; rw [if_pos (show flatD (.int a) = true by rw [flatD])]; rfl
      rw [g, Option.bind_some]
      have t : EvT (tD (fIsi "bool" (fVar 0))) [some (.fz (.int a))] false := et_Db (ev_isT ev_var rfl)
      unfold EvT at t
      rw [t]
      exact e9
  obtain ⟨δ', e9⟩ := key l none
  refine ⟨.nd [], ?_, by rw [OT.data_nd]; rfl⟩
  have hi : EvI (iLst e) δ (l.map PyData.int) := ei_lst h
  unfold EvI at hi
  unfold fComp
  rw [hi, Option.bind_some]
  show (if (l.map PyData.int).length ≤ sizeLine then _ else none) = _
  rw [if_pos (by rw [List.length_map, sizeLine_eq]; omega)]
  show (compLoop _ _ _ (l.map PyData.int) [none]).bind _ = _
  rw [e9]; rfl
theorem ndI_app (l : List Int) (x : Int) : OT.nd ((l.map PyData.int).map OT.fz ++ [.fz (.int x)]) = ndI (l ++ [x]) := by
  unfold ndI
  rw [List.map_append, List.map_append]; rfl
theorem ne_self {δ : DEnv} {a b : FE} {l : List Int} (ha : EvV a δ (intsL l)) (hb : EvV b δ (intsL l)) : EvT (tV (fBinS gNe a b)) δ false := et_V (ev_binS ha hb (by rw [gNe_ints, decide_eq_true rfl]; rfl))
theorem sdI_len (n : Nat) (c : Int → Bool) : (sdI n c).length ≤ n := by
  unfold sdI
  rw [List.length_map]
  exact Nat.le_trans (List.length_filter_le _ _) (by rw [List.length_range]; exact Nat.le_refl _)
theorem right_ok {n : Nat} (h1 : 1 ≤ n) (hn : n ≤ 10) {ns : List Int} (hl : ns.length < 63) : Told F_law_right_df52 [.int n, intsL ns] (.bool true) := by
  refine told_of rfl <| rt_seq (es_set (ev_call (ea_cons ev_var (ea_cons ev_var ea_nil)) (due_ok h1 hn (by omega)))) ?_
  refine rt_for (fun _ δ => ∃ z3 z4 z5 z6 z7, δ = [some (.fz (.int n)), some (.fz (intsL ns)), some (.fz (dueD n ns)), z3, z4, z5, z6, z7]) (ei_ra (n := 2) (ea_cons ev_c ea_nil) (by omega)) ⟨none, none, none, none, none, rfl⟩ (fun i d δ hd q => ?_) fun δ' q => ?_
  · obtain ⟨z3, z4, z5, z6, z7, rfl⟩ := q
    cases c : noB n ns with
    | true =>
      have hD : dueD n ns = .none := by unfold dueD; rw [if_pos c]
      rw [hD]
      refine ⟨_, [some (.fz (.int n)), some (.fz (intsL ns)), some (.fz .none), some (.fz d), some (ndI ns), some (.fz (exD "NoCut")), some (.fz .none), none], rfl, .inl ?_, ⟨_, _, _, _, _, rfl⟩⟩
      refine es_seq (es_setO (list_eq rfl)) <| es_seq (es_set ev_c) <| es_seq (es_setO rfl) <| es_seq (es_try (es_x_ex (ea_cons ev_var (ea_cons (ev_own rfl (ndI_data ns)) ea_nil)) (cut_no hn (by omega) c)) (by decide +kernel) (es_set ev_var)) <| es_seq (es_if_f (ne_self (ev_own rfl (ndI_data ns)) ev_var) rfl) ?_
      refine es_if_t (et_V (p := true) (ev_binS ev_var ev_c (gIs_n _))) (es_if_f (et_no (p := true) (et_Db (ev_call (ea_cons ev_var (ea_cons ev_c ea_nil)) is_ok))) ?_)
      rfl
    | false =>
      obtain ⟨l, hD, hc, ll⟩ : ∃ l, dueD n ns = intsL l ∧ F_cut_of_5159 [.int n, intsL ns] = .ok (ndI l) ∧ l.length ≤ 10 := by
        refine ⟨_, by unfold dueD; rw [if_neg (by rw [c]; exact Bool.false_ne_true)], cut_yes hn (by omega) c, ?_⟩
        split
        · exact Nat.le_trans (sdI_len _ _) hn
        · exact Nat.le_trans (sdI_len _ _) hn
      rw [hD]
      refine ⟨_, [some (.fz (.int n)), some (.fz (intsL ns)), some (.fz (intsL l)), some (.fz d), some (ndI (ns ++ [0])), some (.fz .none), some (ndI (l ++ [0])), z7], rfl, .inl ?_, ⟨_, _, _, _, _, rfl⟩⟩
      have e : ∀ δ : DEnv, δ[0]? = some (some (.fz (.int n))) → δ[4]? = some (some (ndI ns)) → (wX F_cut_of_5159 (aCons (fVar 0) (aCons (fOwn 4) aNil)) (kFl (kSetO 6))) δ = .nx (δ.set 6 (some (ndI l))) := fun δ h0 h4 => by
        obtain ⟨ts, e1, e2⟩ := ea_cons (ev_var h0) (ea_cons (ev_own h4 (ndI_data ns)) ea_nil)
        rw [wX_ap, e1, onO_some, e2, hc, onF_ok]
        show (if flatT (ndI l) = true then _ else _) = _
        rw [if_pos (flat_nd l)]; rfl
      refine es_seq (es_setO (list_eq rfl)) <| es_seq (es_set ev_c) <| es_seq (es_setO rfl) <| es_seq (es_try_nx (e _ rfl rfl)) <| es_seq (es_if_f (ne_self (ev_own rfl (ndI_data ns)) ev_var) rfl) ?_
      refine es_if_f (et_V (p := false) (ev_binS ev_var ev_c (gIs_n _))) (es_if_f (et_o (et_V (ev_binS ev_var ev_c (gIsNot_n _))) (et_o (et_no (p := true) (et_Db (ev_isT (ev_own rfl (ndI_data l)) rfl))) (ne_self (ev_own rfl (ndI_data l)) ev_var))) ?_)
      refine es_seq (es_if_f (ne_self (bools_ev (by omega) (ev_own rfl (ndI_data l))) (ev_lst ea_nil (show 0 ≤ 1000 by decide))) rfl) ?_
      refine es_seq (es_app ev_c rfl (by rw [List.length_map, List.length_map]; omega)) ?_
      refine es_seq (es_if_f (ne_self (ev_own rfl (ndI_data ns)) ev_var) rfl) ?_
      refine es_seq (es_app ev_c rfl (by rw [List.length_map, List.length_map]; omega)) ?_
      rw [ndI_app, ndI_app]
      refine es_if_f (ne_self (l := l ++ [0]) (ev_own rfl (ndI_data _)) (EvV.cast (ev_cat (ds := l.map PyData.int) ev_var (ev_lst (ea_cons ev_c ea_nil) (show 1 ≤ 1000 by decide)) (by rw [List.length_map]; exact Nat.le_trans (Nat.succ_le_succ ll) (by decide))) ?_)) rfl
      unfold intsL
      rw [List.map_append]; rfl
  · obtain ⟨z3, z4, z5, z6, z7, rfl⟩ := q
    exact rt_ret ev_c
noncomputable def lw (ns : List Int) (z1 z2 z3 z4 z5 z6 z7 z8 z9 z10 : Option OT) : DEnv := [some (.fz (intsL ns)), z1, z2, z3, z4, z5, z6, z7, z8, z9, z10]
theorem callO {F : FD} {as : FA} {δ : DEnv} {ds : List PyData} {o : OT} (h : EvA as δ ds) (k : F ds = .ok o) : fCall F as δ = some (o, δ) := by
  obtain ⟨ts, e1, e2⟩ := h
  rw [fCall_ap, e1]
  show okO (F (OT.datas ts)) δ = _
  rw [e2, k]; rfl
theorem eps_freeze {S : FS} {δ : DEnv} {i : Nat} {N : DEnv → Prop} {R : PyData → DEnv → Prop} {o : OT} (h : δ[i]? = some (some o)) (g : EpS S (δ.set i (some (.fz o.data))) N R) : EpS (fFreeze i S) δ N R := by
  unfold EpS at g ⊢
  rw [es_freeze h rfl]; exact g
theorem ev_step {e : FE} {st : FO} {δ : DEnv} {ds : List PyData} {k : Int} (h : EvV e δ (.list ds)) (hs : EvO st δ (some k)) (hk : k ≠ 0) : EvV (fStep e oN oN st) δ (.list (pickG ds none none (some k))) := by
  obtain ⟨t, e1, e2⟩ := h
  unfold EvO at hs
  refine ⟨.nd ((pickG ds none none (some k)).map OT.fz), ?_, by rw [OT.data_nd, OT.map_fz]⟩
  unfold fStep
  rw [e1]
  show (st δ).bind _ = _
  rw [hs]
  show (stepOf t.data none none (some k)).bind _ = _
  rw [e2]
  show (if some k = some 0 then none else some _ : Option OT).bind _ = _
  rw [if_neg (fun z => hk (Option.some.inj z))]; rfl
theorem cut_ints (l : List Int) (lo hi : Option Int) : ∃ l' : List Int, cutD (l.map PyData.int) lo hi = l'.map PyData.int ∧ l'.length ≤ l.length := by
  refine ⟨(l.drop (HT.sIx l.length 0 lo)).take (HT.sIx l.length l.length hi - HT.sIx l.length 0 lo), ?_, ?_⟩
  · unfold cutD
    rw [List.length_map, List.map_take, List.map_drop]
  · rw [List.length_take, List.length_drop]; omega
theorem ev_slI {e : FE} {δ : DEnv} {lo hi : FO} {l h : Option Int} {p : List Int} (he : EvV e δ (intsL p)) (hl : EvO lo δ l) (hh : EvO hi δ h) : ∃ q, EvV (fSl e lo hi) δ (intsL q) ∧ q.length ≤ p.length := by
  obtain ⟨q, e1, e2⟩ := cut_ints p l h
  refine ⟨q, ?_, e2⟩
  have := ev_sl (ds := p.map PyData.int) he hl hh
  rwa [e1] at this
theorem ev_catI {a b : FE} {δ : DEnv} {p q : List Int} (ha : EvV a δ (intsL p)) (hb : EvV b δ (intsL q)) (hl : p.length + q.length ≤ 1000000) : EvV (fBin gCat a b) δ (intsL (p ++ q)) := by
  refine (ev_cat (ds := p.map PyData.int) (es := q.map PyData.int) ha hb (by rw [List.length_map, List.length_map]; exact hl)).cast ?_
  unfold intsL
  rw [List.map_append]
theorem eps_setL {as : FA} {δ : DEnv} {i : Nat} {ds : List PyData} {N : DEnv → Prop} {R : PyData → DEnv → Prop} (h : EvA as δ ds) (hl : ds.length ≤ 1000) (q : ∀ ts, OT.datas ts = ds → N (δ.set i (some (.nd ts)))) : EpS (wE (fLst as) (kSetO i)) δ N R := by
  obtain ⟨ts, e1, e2⟩ := h
  exact eps_setO (lstO e1 (by rw [← datas_len, e2]; exact hl)) (q ts e2)
noncomputable def rwD (L : List (List Int)) : PyData := .list (L.map intsL)
theorem points_ok {ns : List Int} {n m : Nat} {t : OT} {z1 z4 z5 z6 z7 z8 z9 z10 : Option OT} (hn : n ≤ 10) (h1 : 1 ≤ n) (h : Pl m t) (hm : m ≤ 700000) : ∃ (c : List Int) (t' : OT) (ts : List OT), fCompI 1 [2, 3] 2 1 (iRa (aCons (fCallI 2 F_law_take_cd1a (aCons (fBinS gAdd (fVar 3) (fC (.int 2))) aNil)) aNil)) (gNm 0) tYes (fCallI 1 F_law_take_cd1a (aCons (fVar 2) aNil)) (lw ns z1 (some t) (some (.fz (.int n))) z4 z5 z6 z7 z8 z9 z10) = some (.nd ts, lw ns z1 (some t') (some (.fz (.int n))) z4 z5 z6 z7 z8 z9 z10) ∧ ts.map OT.data = c.map PyData.int ∧ c.length ≤ 11 ∧ Pl (m + 20) t' := by
  obtain ⟨ds, δ1, e1, w, hw, t1, e2, e3, p1⟩ : EpI (iRa (aCons (fCallI 2 F_law_take_cd1a (aCons (fBinS gAdd (fVar 3) (fC (.int 2))) aNil)) aNil)) (lw ns z1 (some t) (some (.fz (.int n))) z4 z5 z6 z7 z8 z9 z10) fun ds δ' => ∃ w : Nat, w ≤ 11 ∧ ∃ t1, ds = rngD 0 w ∧ δ' = lw ns z1 (some t1) (some (.fz (.int n))) z4 z5 z6 z7 z8 z9 z10 ∧ Pl (m + 1) t1 := by
    refine epi_ra (epa_cons (ep_take rfl h (by omega) (ea_cons (ev_add ev_var ev_c) ea_nil) (by omega) (lg_s (by omega) (by omega)) fun r t1 r0 r1 p1 => epa_nil ⟨r.toNat, ?_, by omega, r.toNat, by omega, t1, rfl, rfl, p1⟩))
    rw [Int.toNat_of_nonneg r0]
  subst e2 e3
  have key := compI (δ := lw ns z1 (some t1) (some (.fz (.int n))) z4 z5 z6 z7 z8 z9 z10) (n := 1) (caps := [2, 3]) (o := 2) (q := 1) (g := gNm 0) (t := tYes) (e := fCallI 1 F_law_take_cd1a (aCons (fVar 2) aNil)) (it := fun δ => some (rngD 0 w, δ)) (t0 := t1) (fun k acc δ => ∃ (c : List Int) (t2 : OT), (∃ z, δ = [z, some t2, some (.fz (.int n))]) ∧ acc = c.map PyData.int ∧ c.length = k ∧ (k ≤ 11 → Pl (m + 1 + k) t2)) (show EvI _ _ _ from rfl) (by rw [rngD_length]; omega) (by rfl) rfl ⟨[], t1, ⟨none, rfl⟩, rfl, rfl, fun _ => p1⟩ (fun k d acc δ hd q => by
    obtain ⟨c, t2, ⟨z, rfl⟩, rfl, rfl, p⟩ := q
    obtain ⟨hk, rfl⟩ := rngD_get hd
    refine ⟨_, rfl, true, _, rfl, fun _ => ?_, (fun z => nomatch z)⟩
    refine ep_take rfl (p (by omega)) (by omega) (ea_cons ev_var ea_nil) (by omega) (lg_s (by omega) (by omega)) fun r t3 r0 r1 p3 => ⟨c ++ [r], t3, ⟨_, rfl⟩, by rw [List.map_append]; rfl, by rw [List.length_append]; rfl, fun _ => p3⟩) (fun acc δ' q => by
    obtain ⟨c, t2, ⟨z, rfl⟩, _⟩ := q
    exact ⟨t2, rfl⟩)
  obtain ⟨ts, t', δ', e4, ⟨c, t2, ⟨z, rfl⟩, ec, lc, p2⟩, e5⟩ := key
  refine ⟨c, t', ts, ?_, ec, ?_, ?_⟩
  · rw [← show fCompI 1 [2, 3] 2 1 (fun δ => some (rngD 0 w, δ)) (gNm 0) tYes (fCallI 1 F_law_take_cd1a (aCons (fVar 2) aNil)) (lw ns z1 (some t1) (some (.fz (.int n))) z4 z5 z6 z7 z8 z9 z10) = some (.nd ts, lw ns z1 (some t') (some (.fz (.int n))) z4 z5 z6 z7 z8 z9 z10) from e4]
    unfold fCompI
    rw [e1]
  · rw [lc, rngD_length]; exact hw
  · have := p2 (by rw [rngD_length]; exact hw)
    rw [rngD_length] at this
    cases e5
    exact this.up (by omega)
theorem gP30 : gPow (.int 10) (.int 30) = some (.int 1000000000000000000000000000000) := rfl
theorem law_true (ns : List Int) (hl : ns.length ≤ 63) : F_law_da55 [.list (ns.map PyData.int)] = .ok (.fz (.bool true)) := by
  show F_law_da55 [intsL ns] = _
  have key : EpS S_law_da55 (lw ns none none none none none none none none none none) (fun _ => False) fun d _ => d = .bool true := by
    refine eps_seq (eps_forP (epi_pure (ei_ra (n := max 1 (min 20 ns.length)) (ea_cons (EvV.cast (ev_blS (ea_cons ev_c (ea_cons (ev_blS (ea_cons ev_c (ea_cons (ev_intsLen ev_var) ea_nil)) rfl) ea_nil)) rfl) ?_) ea_nil) (by omega))
      ⟨fun _ δ => ∃ z1 z2 z3 z4 z5 z6 z7 z8 z9 z10, δ = lw ns z1 z2 z3 z4 z5 z6 z7 z8 z9 z10, ⟨none, none, none, none, none, none, none, none, none, none, rfl⟩, fun k d δ hd q => ?_, fun δ' q => ?_⟩))
    · exact congrArg PyData.int (show (if (if (ns.length : Int) < 20 then (ns.length : Int) else 20) > 1 then if (ns.length : Int) < 20 then (ns.length : Int) else 20 else 1) = ((max 1 (min 20 ns.length) : Nat) : Int) by (repeat' split) <;> omega)
    · obtain ⟨z1, z2, z3, z4, z5, z6, z7, z8, z9, z10, rfl⟩ := q
      obtain ⟨hk, rfl⟩ := rngD_get hd
      rw [Int.zero_add]
      obtain ⟨t0, eP, p0⟩ := pool_ok ns (k := k) (by omega)
      refine ⟨_, rfl, eps_seq (eps_setO (callO (ea_cons ev_var (ea_cons ev_var ea_nil)) eP) ?_)⟩
      -- many
      refine eps_seq (eps_set (ep_bin (ep_lst (epa_cons (ep_binS (ep_pure ev_c (ep_take rfl p0 (by decide) (ea_cons ev_c ea_nil) (by decide) (lg_s (by decide) (by decide)) fun a t1 a0 a1 p1 => ⟨_, rfl, epa_cons (ep_binS (ep_pure ev_c (ep_take rfl p1 (by decide) (ea_cons ev_c ea_nil) (by decide) (lg_s (by decide) (by decide)) fun b t2 b0 b1 p2 => ⟨_, rfl, epa_nil ⟨show 2 ≤ 1000 by decide, ep_blS (epa_cons (ep_binS (ep_take rfl p2 (by decide) (ea_cons ev_c ea_nil) (by decide) (lg_s (by decide) (by decide)) fun r t3 r0 r1 p3 => ep_pure ev_c ⟨_, gGt_i _ _, epa_nil ⟨_, rfl, ?_⟩⟩)))⟩⟩)))⟩)))))))
      obtain ⟨n, ex, h1, hn⟩ : ∃ n : Nat, gIx (.list [.int (1 + a), .int (1 + b)]) (.int (if decide (0 < r) = true then 1 else 0)) = some (.fz (.int n)) ∧ 1 ≤ n ∧ n ≤ 10 := by
        by_cases c : 0 < r
        · rw [if_pos (decide_eq_true c)]
          exact ⟨(1 + b).toNat, by rw [Int.toNat_of_nonneg (by omega)]; rfl, by omega, by omega⟩
        · rw [if_neg (by rw [decide_eq_false c]; exact Bool.false_ne_true)]
          exact ⟨(1 + a).toNat, by rw [Int.toNat_of_nonneg (by omega)]; rfl, by omega, by omega⟩
      refine ⟨_, ex, ?_⟩
      rw [OT.data_fz]
      show EpS _ (lw ns (some (.fz (.int k))) (some t3) (some (.fz (.int n))) z4 z5 z6 z7 z8 z9 z10) _ _
      -- points
      obtain ⟨c, t4, ts, e4, d4, lc, p4⟩ := points_ok (ns := ns) (z1 := some (.fz (.int k))) (z4 := z4) (z5 := z5) (z6 := z6) (z7 := z7) (z8 := z8) (z9 := z9) (z10 := z10) hn h1 p3 (by decide)
      refine eps_seq (eps_set ⟨_, _, e4, ?_⟩)
      rw [show (OT.nd ts).data = intsL c by rw [OT.data_nd, d4]; rfl]
      obtain ⟨al, ea, la⟩ : ∃ al : List Int, pickG (rngD 0 n) none none (some (-1)) = al.map PyData.int ∧ al.length = n := by
        refine ⟨((List.range n).map fun i : Nat => (0 + (i : Int))).reverse, ?_, by rw [List.length_reverse, List.length_map, List.length_range]⟩
        rw [pickG_rev, List.map_reverse, List.map_map]; rfl
      refine eps_seq (eps_set (ep_pure (d := intsL al) ((ev_step (ev_lr (n := n) (ea_cons ev_var ea_nil) (by omega) (by omega)) (eo_I (ev_neg ev_c)) (by decide)).cast (congrArg PyData.list ea)) ?_))
      refine eps_seq (eps_set (ep_take rfl p4 (by decide) (ea_cons ev_var ea_nil) (by omega) (lg_s (by omega) (by omega)) fun one t5 o0 o1 p5 => ?_))
      -- far
      refine eps_seq (eps_set (ep_bin (ep_lst (epa_cons (ep_pure ev_c (epa_cons (ep_pure ev_c (epa_cons (ep_take rfl p5 (by decide) (ea_cons (ev_binS ev_c ev_c gP30) ea_nil) (by decide +kernel) lg_30 fun f t6 _ _ p6 => epa_nil ⟨show 3 ≤ 1000 by decide, ep_take rfl p6 (by decide) (ea_cons ev_c ea_nil) (by decide) (lg_s (by decide) (by decide)) fun r2 t7 r20 r21 p7 => ?_⟩)))))))))
      obtain ⟨far, ef⟩ : ∃ far : Int, gIx (.list [.int 0, .int 1, .int f]) (.int r2) = some (.fz (.int far)) := by
        obtain rfl | rfl | rfl : r2 = 0 ∨ r2 = 1 ∨ r2 = 2 := by omega
        · exact ⟨0, rfl⟩
        · exact ⟨1, rfl⟩
        · exact ⟨f, rfl⟩
      refine ⟨_, ef, ?_⟩
      rw [OT.data_fz]
      clear ef
      refine eps_seq (eps_set (ep_take rfl p7 (by decide) (ea_cons (ev_add (ev_intsLen ev_var) ev_c) ea_nil) (by omega) (lg_s (by omega) (by omega)) fun at9 t8 _ _ p8 => ?_))
      show EpS _ (lw ns (some (.fz (.int k))) (some t8) (some (.fz (.int n))) (some (.fz (intsL c))) (some (.fz (intsL al))) (some (.fz (.int one))) (some (.fz (.int far))) (some (.fz (.int at9))) z9 z10) _ _
      -- rows
      obtain ⟨q1, e5, l5⟩ := ev_slI (e := fVar 5) (lo := oN) (hi := oI (fVar 6)) (δ := lw ns (some (.fz (.int k))) (some t8) (some (.fz (.int n))) (some (.fz (intsL c))) (some (.fz (intsL al))) (some (.fz (.int one))) (some (.fz (.int far))) (some (.fz (.int at9))) z9 z10) ev_var eo_N (eo_I ev_var)
      obtain ⟨q2, e6, l6⟩ := ev_slI (e := fVar 5) (lo := oI (fBinS gAdd (fVar 6) (fC (.int 1)))) (hi := oN) (δ := lw ns (some (.fz (.int k))) (some t8) (some (.fz (.int n))) (some (.fz (intsL c))) (some (.fz (intsL al))) (some (.fz (.int one))) (some (.fz (.int far))) (some (.fz (.int at9))) z9 z10) ev_var (eo_I (ev_add ev_var ev_c)) eo_N
      refine eps_seq (eps_setL (ds := [c, [], al, q1 ++ q2, [one], [one, one]].map intsL) (ea_cons ev_var (ea_cons (ev_lst ea_nil (show 0 ≤ 1000 by decide)) (ea_cons ev_var (ea_cons (ev_catI e5 e6 (by omega)) (ea_cons (ev_lst (ea_cons ev_var ea_nil) (show 1 ≤ 1000 by decide)) (ea_cons (ev_lst (ea_cons ev_var (ea_cons ev_var ea_nil)) (show 2 ≤ 1000 by decide)) ea_nil)))))) (show 6 ≤ 1000 by decide) fun us eu => ?_)
      have lu : us.length = 6 := by have := congrArg List.length eu; rwa [datas_len] at this
      refine eps_seq (eps_of (es_app (d := intsL (c ++ c)) (ev_catI ev_var ev_var (by omega)) rfl (by omega)) ?_)
      refine eps_seq (eps_freeze rfl ?_)
      rw [show (OT.nd (us ++ [.fz (intsL (c ++ c))])).data = rwD [c, [], al, q1 ++ q2, [one], [one, one], c ++ c] by rw [OT.data_nd, List.map_append, ← datas_map, eu]; rfl]
      obtain ⟨M, eM, lM⟩ : ∃ M : List (List Int), EvV (fComp 1 [4, 8] (iLst (fLst (aCons (fBinS gSb (fUn negD (fC (.int 1))) (fVar 7)) (aCons (fBinS gAdd (fVar 3) (fVar 7)) (aCons (fBinS gSb (fC (.int 0)) (fVar 3)) aNil))))) (gNm 0) tYes (fBin gCat (fBin gCat (fSl (fVar 1) oN (oI (fVar 2))) (fLst (aCons (fVar 0) aNil))) (fSl (fVar 1) (oI (fVar 2)) oN))) (lw ns (some (.fz (.int k))) (some t8) (some (.fz (.int n))) (some (.fz (intsL c))) (some (.fz (intsL al))) (some (.fz (.int one))) (some (.fz (.int far))) (some (.fz (.int at9))) (some (.fz (rwD [c, [], al, q1 ++ q2, [one], [one, one], c ++ c]))) z10) (rwD M) ∧ M.length = 3 ∧ ∀ l ∈ M, l.length < 63 := by
        obtain ⟨g1, e7, l7⟩ : ∃ g1 : List Int, (∀ b, EvV (fSl (fVar 1) oN (oI (fVar 2))) [some (.fz (.int b)), some (.fz (intsL c)), some (.fz (.int at9))] (intsL g1)) ∧ g1.length ≤ c.length := by
          obtain ⟨q, e, l⟩ := cut_ints c none (some at9)
          refine ⟨q, fun b => ?_, l⟩
          have := ev_sl (e := fVar 1) (lo := oN) (hi := oI (fVar 2)) (δ := [some (.fz (.int b)), some (.fz (intsL c)), some (.fz (.int at9))]) (ds := c.map PyData.int) ev_var eo_N (eo_I ev_var)
          rwa [e] at this
        obtain ⟨g2, e8, l8⟩ : ∃ g2 : List Int, (∀ b, EvV (fSl (fVar 1) (oI (fVar 2)) oN) [some (.fz (.int b)), some (.fz (intsL c)), some (.fz (.int at9))] (intsL g2)) ∧ g2.length ≤ c.length := by
          obtain ⟨q, e, l⟩ := cut_ints c (some at9) none
          refine ⟨q, fun b => ?_, l⟩
          have := ev_sl (e := fVar 1) (lo := oI (fVar 2)) (hi := oN) (δ := [some (.fz (.int b)), some (.fz (intsL c)), some (.fz (.int at9))]) (ds := c.map PyData.int) ev_var (eo_I ev_var) eo_N
          rwa [e] at this
        refine ⟨[-1 - far, n + far, 0 - n].map fun b => g1 ++ [b] ++ g2, ?_, rfl, fun l hl => ?_⟩
        · refine (ev_comp (cs := [some (.fz (intsL c)), some (.fz (.int at9))]) [-1 - far, n + far, 0 - n] PyData.int (fun b => intsL (g1 ++ [b] ++ g2)) (ei_lst (ev_lst (ea_cons (ev_sub (ev_neg ev_c) ev_var) (ea_cons (ev_add ev_var ev_var) (ea_cons (ev_sub ev_c ev_var) ea_nil))) (show 3 ≤ 1000 by decide))) (show 3 ≤ 1000000 by decide) rfl fun b _ => ?_).cast (by rfl)
          exact ev_catI (ev_catI (e7 b) (ev_lst (ea_cons ev_var ea_nil) (show 1 ≤ 1000 by decide)) (by simp only [List.length_cons, List.length_nil]; omega)) (e8 b) (by simp only [List.length_append, List.length_cons, List.length_nil]; omega)
        · obtain ⟨b, _, rfl⟩ := List.mem_map.mp hl
          simp only [List.length_append, List.length_cons, List.length_nil]; omega
      refine eps_of (es_setCat (ds := [c, [], al, q1 ++ q2, [one], [one, one], c ++ c].map intsL) (es := M.map intsL) ev_var eM (by rw [List.length_map, List.length_map, lM.1]; exact Nat.le_of_ble_eq_true rfl)) ?_
      refine eps_freeze rfl ?_
      rw [show (OT.nd (([c, [], al, q1 ++ q2, [one], [one, one], c ++ c].map intsL ++ M.map intsL).map OT.fz)).data = rwD ([c, [], al, q1 ++ q2, [one], [one, one], c ++ c] ++ M) by rw [OT.data_nd, OT.map_fz]; unfold rwD; rw [List.map_append]]
      have all : ∀ l ∈ [c, [], al, q1 ++ q2, [one], [one, one], c ++ c] ++ M, l.length < 63 := fun l hl => by
        rcases List.mem_append.mp hl with h | h
        · simp only [List.mem_cons, List.not_mem_nil, or_false] at h
          rcases h with rfl | rfl | rfl | rfl | rfl | rfl | rfl <;> (try simp only [List.length_append, List.length_cons, List.length_nil]) <;> omega
        · exact lM.2 l h
      refine eps_for (ds := ([c, [], al, q1 ++ q2, [one], [one, one], c ++ c] ++ M).map intsL) (fun _ δ => ∃ z10, δ = lw ns (some (.fz (.int k))) (some t8) (some (.fz (.int n))) (some (.fz (intsL c))) (some (.fz (intsL al))) (some (.fz (.int one))) (some (.fz (.int far))) (some (.fz (.int at9))) (some (.fz (rwD ([c, [], al, q1 ++ q2, [one], [one, one], c ++ c] ++ M)))) z10) (ei_lst ev_var) ⟨_, rfl⟩ (fun i d δ hd q => ?_) fun δ' q => ?_
      · obtain ⟨z, rfl⟩ := q
        obtain ⟨l, hl, rfl⟩ := List.mem_map.mp (List.mem_of_getElem? hd)
        exact ⟨_, rfl, eps_of (es_if_f (et_no (p := true) (et_Db (ev_call (ea_cons ev_var (ea_cons ev_var ea_nil)) (right_ok h1 hn (all l hl))))) rfl) ⟨_, rfl⟩⟩
      · obtain ⟨z, rfl⟩ := q
        exact ⟨_, _, _, _, _, _, _, _, _, _, rfl⟩
    · obtain ⟨z1, z2, z3, z4, z5, z6, z7, z8, z9, z10, rfl⟩ := q
      exact eps_ret (ep_pure ev_c rfl)
  unfold F_law_da55
  rw [runD_ap (np := 1) (by rfl)]
  rcases key with ⟨_, _, z⟩ | ⟨o, δ', e, q⟩
  · exact z.elim
  · show (S_law_da55 (lw ns none none none none none none none none none none)).told = _
    rw [e, told_rt, bool_data q]
end My
namespace My
open PySem L2 PySem.Spec
theorem len1 {P : List Value → Prop} (h : ∀ a0, P [a0]) : ∀ us : List Value, us.length = 1 → P us := fun us hl => by
  rcases us with _ | ⟨a0, us⟩
  · exact absurd hl (by simp)
  rcases us with _ | ⟨b, us⟩
  · exact h a0
  · exact absurd hl (by simp)
theorem len2 {P : List Value → Prop} (h : ∀ a0 a1, P [a0, a1]) : ∀ us : List Value, us.length = 2 → P us := fun us hl => by
  rcases us with _ | ⟨a0, us⟩
  · exact absurd hl (by simp)
  rcases us with _ | ⟨a1, us⟩
  · exact absurd hl (by simp)
  rcases us with _ | ⟨b, us⟩
  · exact h a0 a1
  · exact absurd hl (by simp)
noncomputable def top (i : Nat) : Stmt := PySem.Challenge.pw_farcuts_k12_cuts_told.main.body.getD i (.Pass ⟨0, 0, 0, 0⟩)
noncomputable abbrev s_law_pool : Stmt := top 18
noncomputable abbrev s_law_due : Stmt := top 21
noncomputable abbrev s_law_is : Stmt := top 20
noncomputable abbrev s_is_whole : Stmt := top 13
noncomputable abbrev s_check_points : Stmt := top 15
noncomputable abbrev s_cut_of : Stmt := top 16
noncomputable abbrev s_law_right : Stmt := top 22
noncomputable abbrev s_law_take : Stmt := top 19
noncomputable abbrev s_law : Stmt := top 23
set_option genInjectivity false in
set_option genSizeOfSpec false in
structure Txt (K : PySem.W.Frag) (mg : Str → Option Value) (f : Nat → Addr) (fd : Nat → FuncData) (cls : Nat → Addr) : Prop where
  F_law_pool : Fun K "_law_pool" "_law_pool" s_law_pool (f 0) (fd 0)
  b_law_pool : Binds K (fd 0) ["script", "k"] []
  m_law_pool : mg "_law_pool" = some (.ref (f 0))
  F_law_due : Fun K "_law_due" "_law_due" s_law_due (f 1) (fd 1)
  b_law_due : Binds K (fd 1) ["many", "points"] []
  m_law_due : mg "_law_due" = some (.ref (f 1))
  F_law_is : Fun K "_law_is" "_law_is" s_law_is (f 2) (fd 2)
  b_law_is : Binds K (fd 2) ["caught", "due"] []
  m_law_is : mg "_law_is" = some (.ref (f 2))
  F_is_whole : Fun K "is_whole" "is_whole" s_is_whole (f 3) (fd 3)
  b_is_whole : Binds K (fd 3) ["thing"] []
  m_is_whole : mg "is_whole" = some (.ref (f 3))
  F_check_points : Fun K "check_points" "check_points" s_check_points (f 4) (fd 4)
  b_check_points : Binds K (fd 4) ["n", "points"] []
  m_check_points : mg "check_points" = some (.ref (f 4))
  F_cut_of : Fun K "cut_of" "cut_of" s_cut_of (f 5) (fd 5)
  b_cut_of : Binds K (fd 5) ["n", "points"] []
  m_cut_of : mg "cut_of" = some (.ref (f 5))
  F_law_right : Fun K "_law_right" "_law_right" s_law_right (f 6) (fd 6)
  b_law_right : Binds K (fd 6) ["many", "points"] []
  m_law_right : mg "_law_right" = some (.ref (f 6))
  F_law_take : Fun K "_law_take" "_law_take" s_law_take (f 7) (fd 7)
  b_law_take : Binds K (fd 7) ["pool", "many"] []
  m_law_take : mg "_law_take" = some (.ref (f 7))
  F_law : Fun K "law" "law" s_law (f 8) (fd 8)
  b_law : Binds K (fd 8) ["script"] []
  m_law : mg "law" = some (.ref (f 8))
  z_ValueError : mg "ValueError" = none
  z_bool : mg "bool" = none
  z_int : mg "int" = none
  z_isinstance : mg "isinstance" = none
  z_len : mg "len" = none
  z_list : mg "list" = none
  z_max : mg "max" = none
  z_min : mg "min" = none
  z_range : mg "range" = none
  z_set : mg "set" = none
  z_sorted : mg "sorted" = none
  mC_CutError : mg "CutError" = some (.ref (cls 0))
  ca_CutError : ClsAt K "CutError" (cls 0)
  mC_NoCut : mg "NoCut" = some (.ref (cls 1))
  ca_NoCut : ClsAt K "NoCut" (cls 1)
  mC_NoName : mg "NoName" = some (.ref (cls 2))
  ca_NoName : ClsAt K "NoName" (cls 2)
  mC_NoNumber : mg "NoNumber" = some (.ref (cls 3))
  ca_NoNumber : ClsAt K "NoNumber" (cls 3)
  mC_NoOrder : mg "NoOrder" = some (.ref (cls 4))
  ca_NoOrder : ClsAt K "NoOrder" (cls 4)
  mC_NoPoint : mg "NoPoint" = some (.ref (cls 5))
  ca_NoPoint : ClsAt K "NoPoint" (cls 5)
  mC_NoRow : mg "NoRow" = some (.ref (cls 6))
  ca_NoRow : ClsAt K "NoRow" (cls 6)
  mC_NoTable : mg "NoTable" = some (.ref (cls 7))
  ca_NoTable : ClsAt K "NoTable" (cls 7)
  mC_NoText : mg "NoText" = some (.ref (cls 8))
  ca_NoText : ClsAt K "NoText" (cls 8)
  mC_NoWeb : mg "NoWeb" = some (.ref (cls 9))
  ca_NoWeb : ClsAt K "NoWeb" (cls 9)
  mC_TooMany : mg "TooMany" = some (.ref (cls 10))
  ca_TooMany : ClsAt K "TooMany" (cls 10)
  r_CutError : RsCls K (cls 0)
  r_NoCut : RsCls K (cls 1)
  x_NoCut_ga : PySem.W.findIn K (.ref (cls 1)) "__getattribute__" = some (some (.builtin "BaseException.__getattribute__"))
  x_NoCut_gt : PySem.W.findIn K (.ref (cls 1)) "__getattr__" = some none
  x_NoCut_cl : PySem.W.findIn K (.ref (cls 1)) "__class__" = some (some (.builtin "object.__class__"))
  x_NoCut_isB : PySem.W.subIn K (.ref (cls 1)) (.type "BaseException") = some true
  x_NoCut_isO : PySem.W.subIn K (.ref (cls 1)) (.type "object") = some true
  x_NoCut_isC : PySem.W.isClsIn K (cls 1) = true
  x_NoCut_k1 : PySem.W.kitOne K (.ref (cls 1)) (.type "int") = some false
  x_NoCut_k2 : PySem.W.kitOne K (.ref (cls 1)) (.type "bool") = some false
  x_NoCut_k3 : PySem.W.kitOne K (.ref (cls 1)) (.type "str") = some false
  x_NoCut_k4 : PySem.W.kitOne K (.ref (cls 1)) (.type "list") = some false
  x_NoCut_k5 : PySem.W.kitOne K (.ref (cls 1)) (.type "tuple") = some false
  u_NoCut_CutError : PySem.W.subIn K (.ref (cls 1)) (.ref (cls 0)) = some true
  kt_NoCut_NoCut : PySem.W.kitOne K (.ref (cls 1)) (.ref (cls 1)) = some true
  kt_NoCut_NoNumber : PySem.W.kitOne K (.ref (cls 1)) (.ref (cls 3)) = some false
  kt_NoCut_NoPoint : PySem.W.kitOne K (.ref (cls 1)) (.ref (cls 5)) = some false
  kt_NoCut_NoTable : PySem.W.kitOne K (.ref (cls 1)) (.ref (cls 7)) = some false
  kt_NoCut_ValueError : PySem.W.kitOne K (.ref (cls 1)) (.type "ValueError") = some true
  ka_NoCut_0 : PySem.W.kitAny K (.ref (cls 1)) [.ref (cls 4), .ref (cls 10), .ref (cls 9), .ref (cls 8), .ref (cls 2), .ref (cls 6)] = some false
theorem Txt.x_NoCut {K : PySem.W.Frag} {mg : Str → Option Value} {f : Nat → Addr} {fd : Nat → FuncData} {cls : Nat → Addr} (T : Txt K mg f fd cls) : ExCls K (cls 1) := ⟨T.x_NoCut_ga, T.x_NoCut_gt, T.x_NoCut_cl, T.x_NoCut_isB, T.x_NoCut_isO, T.x_NoCut_isC, T.x_NoCut_k1, T.x_NoCut_k2, T.x_NoCut_k3, T.x_NoCut_k4, T.x_NoCut_k5⟩
theorem Txt.kx_NoCut {K : PySem.W.Frag} {mg : Str → Option Value} {f : Nat → Addr} {fd : Nat → FuncData} {cls : Nat → Addr} (T : Txt K mg f fd cls) : ∀ x ∈ xsL, ∃ C, ClsAt K x C ∧ PySem.W.kitOne K (.ref C) (.ref (cls 1)) = some (subX x "NoCut") := fun x hx => by
  simp only [xsL, List.mem_cons, List.not_mem_nil, or_false] at hx
  rcases hx with rfl
  · exact ⟨_, T.ca_NoCut, T.kt_NoCut_NoCut.trans (congrArg some (by decide +kernel))⟩
theorem Txt.kx_NoNumber {K : PySem.W.Frag} {mg : Str → Option Value} {f : Nat → Addr} {fd : Nat → FuncData} {cls : Nat → Addr} (T : Txt K mg f fd cls) : ∀ x ∈ xsL, ∃ C, ClsAt K x C ∧ PySem.W.kitOne K (.ref C) (.ref (cls 3)) = some (subX x "NoNumber") := fun x hx => by
  simp only [xsL, List.mem_cons, List.not_mem_nil, or_false] at hx
  rcases hx with rfl
  · exact ⟨_, T.ca_NoCut, T.kt_NoCut_NoNumber.trans (congrArg some (by decide +kernel))⟩
theorem Txt.kx_NoPoint {K : PySem.W.Frag} {mg : Str → Option Value} {f : Nat → Addr} {fd : Nat → FuncData} {cls : Nat → Addr} (T : Txt K mg f fd cls) : ∀ x ∈ xsL, ∃ C, ClsAt K x C ∧ PySem.W.kitOne K (.ref C) (.ref (cls 5)) = some (subX x "NoPoint") := fun x hx => by
  simp only [xsL, List.mem_cons, List.not_mem_nil, or_false] at hx
  rcases hx with rfl
  · exact ⟨_, T.ca_NoCut, T.kt_NoCut_NoPoint.trans (congrArg some (by decide +kernel))⟩
theorem Txt.kx_NoTable {K : PySem.W.Frag} {mg : Str → Option Value} {f : Nat → Addr} {fd : Nat → FuncData} {cls : Nat → Addr} (T : Txt K mg f fd cls) : ∀ x ∈ xsL, ∃ C, ClsAt K x C ∧ PySem.W.kitOne K (.ref C) (.ref (cls 7)) = some (subX x "NoTable") := fun x hx => by
  simp only [xsL, List.mem_cons, List.not_mem_nil, or_false] at hx
  rcases hx with rfl
  · exact ⟨_, T.ca_NoCut, T.kt_NoCut_NoTable.trans (congrArg some (by decide +kernel))⟩
theorem Txt.kx_ValueError {K : PySem.W.Frag} {mg : Str → Option Value} {f : Nat → Addr} {fd : Nat → FuncData} {cls : Nat → Addr} (T : Txt K mg f fd cls) : ∀ x ∈ xsL, ∃ C, ClsAt K x C ∧ PySem.W.kitOne K (.ref C) (.type "ValueError") = some (subX x "ValueError") := fun x hx => by
  simp only [xsL, List.mem_cons, List.not_mem_nil, or_false] at hx
  rcases hx with rfl
  · exact ⟨_, T.ca_NoCut, T.kt_NoCut_ValueError.trans (congrArg some (by decide +kernel))⟩
theorem Txt.kxt_0 {K : PySem.W.Frag} {mg : Str → Option Value} {f : Nat → Addr} {fd : Nat → FuncData} {cls : Nat → Addr} (T : Txt K mg f fd cls) : ∀ x ∈ xsL, ∃ C, ClsAt K x C ∧ PySem.W.kitAny K (.ref C) [.ref (cls 4), .ref (cls 10), .ref (cls 9), .ref (cls 8), .ref (cls 2), .ref (cls 6)] = some ((["NoOrder", "TooMany", "NoWeb", "NoText", "NoName", "NoRow"] : List Str).any (subX x)) := fun x hx => by
  simp only [xsL, List.mem_cons, List.not_mem_nil, or_false] at hx
  rcases hx with rfl
  · exact ⟨_, T.ca_NoCut, T.ka_NoCut_0.trans (congrArg some (by decide +kernel))⟩
theorem Txt.ku_CutError {K : PySem.W.Frag} {mg : Str → Option Value} {f : Nat → Addr} {fd : Nat → FuncData} {cls : Nat → Addr} (T : Txt K mg f fd cls) : ∀ x ∈ xsL, subX x "CutError" = true → ∃ C, ClsAt K x C ∧ ExCls K C ∧ PySem.W.subIn K (.ref C) (.ref (cls 0)) = some true := fun x hx => by
  simp only [xsL, List.mem_cons, List.not_mem_nil, or_false] at hx
  rcases hx with rfl
  · exact fun _ => ⟨_, T.ca_NoCut, T.x_NoCut, T.u_NoCut_CutError⟩
section
variable {P : Program} {w : World} {K : PySem.W.Frag} {mg : Str → Option Value} {base : Heap}
theorem sc_law_pool : FnScope ["script", "k", "cell"] ["script", "k"] (defScope s_law_pool) := ⟨rfl, rfl, rfl, by decide +kernel, rfl, by decide +kernel, by decide +kernel⟩
theorem ok_law_pool {f : Nat → Addr} {fd : Nat → FuncData} {cls : Nat → Addr} (T : Txt K mg f fd cls) : FnOk P w K mg base CX0 1 (f 0) (fd 0) ["script", "k"] (spD K (sD F_law_pool_7d17)) := by
  refine fn_okD T.F_law_pool sc_law_pool (S := S_law_pool_7d17) rfl rfl (fun cdv A outer s H E hr => ?_)
  have hu := hr.units
  exact (fs_seq (mss_cons (fs_set (ms_set (i := 2) sc_law_pool.nd rfl (Or.inl rfl) (fe_c mc_int)))
      (fs_seq (mss_cons (fs_if (ms_if (ft_cmp b_lt (mt_cmp op_lt p2_cmp (fe_var (mv 1)) (fe_blS b_len (m_blS pn_len (call_lenK rfl) (by rfl) T.z_len L2.B.boot_len (fa_cons2 (fe_var (mv 0)) (fa_nil ma_nil)))) (hm := (nomark _)))) (mss_one (fs_set (ms_set (i := 2) sc_law_pool.nd rfl (Or.inl rfl) (fe_as (fe_bin b_ix (m_ix (ix_seqK rfl) p2_ix (fe_var (mv 0)) (fe_var (mv 1)) (hs := fun _ _ => rfl))))))) (fss_nil mss_nil)))
      (fs_seq (mss_cons (fs_if (ms_if (ft_cmp b_ge (mt_cmp op_ge p2_cmp (fe_var (mv 2)) (fe_binS b_pow (m_opS op_powG p2_pow (fe_c mc_int) (fe_c mc_int))) (hm := (nomark _)))) (mss_one (fs_ret (ms_ret (fe_lst (m_lst (fa_cons2 (fe_binS b_sub (m_opS op_sub p2_int0 (fe_var (mv 2)) (fe_binS b_pow (m_opS op_powG p2_pow (fe_c mc_int) (fe_c mc_int))))) (fa_cons2 (fe_c mc_int) (fa_cons2 (fe_c mc_int) (fa_nil ma_nil))))))))) (fss_nil mss_nil)))
      (mss_one (fs_ret (ms_ret (fe_lst (m_lst (fa_cons2 (fe_var (mv 2)) (fa_cons2 (fe_c mc_int) (fa_cons2 (fe_binS b_mul (m_opS op_mulG p2_mul (fe_c mc_int) (fe_var (mv 1)))) (fa_nil ma_nil)))))))))))))))
theorem sc_law_due : FnScope ["many", "points", "side", "others"] ["many", "points"] (defScope s_law_due) := ⟨rfl, rfl, rfl, by decide +kernel, rfl, by decide +kernel, by decide +kernel⟩
theorem ok_law_due {f : Nat → Addr} {fd : Nat → FuncData} {cls : Nat → Addr} (T : Txt K mg f fd cls) : FnOk P w K mg base CX0 1 (f 1) (fd 1) ["many", "points"] (spD K (sD F_law_due_8670)) := by
  refine fn_okD T.F_law_due sc_law_due (S := S_law_due_8670) rfl rfl (fun cdv A outer s H E hr => ?_)
  have hu := hr.units
  exact (fs_seq (mss_cons (fs_setc (ms_setcomp (i := 2) (own := ["point"]) (caps := [1]) (N' := ["point", "points"])  false sc_law_due.nd rfl (Or.inl rfl) (by exact ⟨rfl, by decide +kernel, rfl, by decide +kernel, rfl, rfl⟩) (by rfl) (by decide) (fi_r1 (mi_range1 (by rfl) T.z_range (fa_cons2 (fe_var (mv 0)) (fa_nil ma_nil)))) (fun _ _ _ _ _ => (fg_name (mg_name (i := 0) (by show List.Nodup (["point", "points"] : List Str); decide +kernel)))) (fun _ _ _ _ _ => (mif_one (ft_cmp b_mem (mt_cmp (op_inK rfl) p2_in (fe_var (mv 0)) (fe_var (mv 1)) (hm := (by with_unfolding_all rfl)))))) (fun _ _ _ _ _ => (fe_var (mv 0)))))
      (fs_seq (mss_cons (fs_setc (ms_setcomp (i := 3) (own := ["point"]) (caps := [1]) (N' := ["point", "points"])  false sc_law_due.nd rfl (Or.inl rfl) (by exact ⟨rfl, by decide +kernel, rfl, by decide +kernel, rfl, rfl⟩) (by rfl) (by decide) (fi_r1 (mi_range1 (by rfl) T.z_range (fa_cons2 (fe_var (mv 0)) (fa_nil ma_nil)))) (fun _ _ _ _ _ => (fg_name (mg_name (i := 0) (by show List.Nodup (["point", "points"] : List Str); decide +kernel)))) (fun _ _ _ _ _ => (mif_one (ft_cmp b_mem (mt_cmp (op_notInK rfl) p2_in (fe_var (mv 0)) (fe_var (mv 1)) (hm := (by with_unfolding_all rfl)))))) (fun _ _ _ _ _ => (fe_var (mv 0)))))
      (fs_seq (mss_cons (fs_if (ms_if (MW.mt (ft_or (mw_or (ft_cmp b_eq (mt_cmp (op_eqA hu) p2_eq (fe_var (mv 2)) (fe_lst (m_lst (fa_nil ma_nil))) (hm := (nomark _)))) (ft_or (mw_or (ft_cmp b_eq (mt_cmp (op_eqA hu) p2_eq (fe_var (mv 3)) (fe_lst (m_lst (fa_nil ma_nil))) (hm := (nomark _)))) (mw_or1 (ft_cmp b_ne (mt_cmp (op_neA hu) p2_ne (fe_comp (m_comp (own := ["point"]) (caps := [0]) (N' := ["point", "many"]) (by exact ⟨rfl, by decide +kernel, rfl, by decide +kernel, rfl, rfl⟩) (by rfl) (by decide) (fi_list (mi_list (fe_var (mv 1)))) (fun _ _ _ _ _ => (fg_name (mg_name (i := 0) (by show List.Nodup (["point", "many"] : List Str); decide +kernel)))) (fun _ _ _ _ _ => (mif_one (MW.mt (ft_or (mw_or (ft_cmp b_lt (mt_cmp op_lt p2_cmp (fe_var (mv 0)) (fe_c mc_int) (hm := (nomark _)))) (mw_or1 (ft_cmp b_ge (mt_cmp op_ge p2_cmp (fe_var (mv 0)) (fe_var (mv 1)) (hm := (nomark _)))))))))) (fun _ _ _ _ _ => (fe_var (mv 0))))) (fe_lst (m_lst (fa_nil ma_nil))) (hm := (nomark _)))))))))) (mss_one (fs_ret (ms_ret (fe_c mc_non)))) (fss_nil mss_nil)))
      (mss_one (fs_ret (ms_ret (fe_as (fe_bin b_ix (m_ix (ix_seqK rfl) p2_ix (fe_lst (m_lst (fa_cons2 (fe_var (mv 2)) (fa_cons2 (fe_var (mv 3)) (fa_nil ma_nil))))) (fe_blS b_int (m_tyS pn_int call_int1 (by rfl) T.z_int L2.B.boot_int (fa_cons2 (fe_binS b_mem (m_cmp (op_inK rfl) p2_in (fe_c mc_int) (fe_var (mv 2)) (hm := (by with_unfolding_all rfl)))) (fa_nil ma_nil)))) (hs := fun _ _ => rfl)))))))))))))
theorem sc_law_is : FnScope ["caught", "due", "kinds"] ["caught", "due"] (defScope s_law_is) := ⟨rfl, rfl, rfl, by decide +kernel, rfl, by decide +kernel, by decide +kernel⟩
theorem ok_law_is {f : Nat → Addr} {fd : Nat → FuncData} {cls : Nat → Addr} (T : Txt K mg f fd cls) : FnOk P w K mg base CX0 1 (f 2) (fd 2) ["caught", "due"] (spD K (sD F_law_is_4dde)) := by
  refine fn_okD T.F_law_is sc_law_is (S := S_law_is_4dde) rfl rfl (fun cdv A outer s H E hr => ?_)
  have hu := hr.units
  exact (fs_seq (mss_cons (fs_setO (ms_setO (i := 2) sc_law_is.nd rfl (Or.inl rfl) (fe_lst (m_lst (fa_cons2 (fe_isiX T.kx_NoNumber (m_isiX (pe_glob (v := .ref (cls 3)) (by rfl) T.mC_NoNumber rfl) (.own _) (by rfl) T.z_isinstance L2.B.boot_isinstance (fe_var (mv 0)))) (fa_cons2 (fe_isiX T.kx_NoTable (m_isiX (pe_glob (v := .ref (cls 7)) (by rfl) T.mC_NoTable rfl) (.own _) (by rfl) T.z_isinstance L2.B.boot_isinstance (fe_var (mv 0)))) (fa_cons2 (fe_isiX T.kx_NoPoint (m_isiX (pe_glob (v := .ref (cls 5)) (by rfl) T.mC_NoPoint rfl) (.own _) (by rfl) T.z_isinstance L2.B.boot_isinstance (fe_var (mv 0)))) (fa_nil ma_nil))))))))
      (fs_seq (mss_cons (fs_append (ms_append 2 (fe_isiX T.kx_NoCut (m_isiX (pe_glob (v := .ref (cls 1)) (by rfl) T.mC_NoCut rfl) (.own _) (by rfl) T.z_isinstance L2.B.boot_isinstance (fe_var (mv 0))))))
      (fs_seq (mss_cons (fs_if (ms_if (MW.mt (ft_or (mw_or (ft_not (mt_not (ft_tru (mt_tru (fe_isiX T.kx_ValueError (m_isiX (pe_bltn (v := .ty "ValueError") (by rfl) T.z_ValueError PyProof.Rows.Boot.«ValueError» rfl) (.ty _) (by rfl) T.z_isinstance L2.B.boot_isinstance (fe_var (mv 0)))) (fun _ => rfl))))) (mw_or1 (ft_cmp b_ne (mt_cmp (op_neA hu) p2_ne (fe_own (mo 2)) (fe_comp (m_comp (own := ["k"]) (caps := [1]) (N' := ["k", "due"]) (by exact ⟨rfl, by decide +kernel, rfl, by decide +kernel, rfl, rfl⟩) (by rfl) (by decide) (fi_r1 (mi_range1 (by rfl) T.z_range (fa_cons2 (fe_c mc_int) (fa_nil ma_nil)))) (fun _ _ _ _ _ => (fg_name (mg_name (i := 0) (by show List.Nodup (["k", "due"] : List Str); decide +kernel)))) (fun _ _ _ _ _ => (fif_nil mif_nil)) (fun _ _ _ _ _ => (fe_binS b_eq (m_cmp (op_eqA hu) p2_eq (fe_var (mv 0)) (fe_var (mv 1)) (hm := (nomark _))))))) (hm := (nomark _)))))))) (mss_one (fs_ret (ms_ret (fe_c mc_bl)))) (fss_nil mss_nil)))
      (mss_one (fs_ret (ms_ret (fe_notV (m_not (fe_isiXT T.kxt_0 (m_isiXT (pa_cons (pe_glob (v := .ref (cls 4)) (by rfl) T.mC_NoOrder rfl) (pa_cons (pe_glob (v := .ref (cls 10)) (by rfl) T.mC_TooMany rfl) (pa_cons (pe_glob (v := .ref (cls 9)) (by rfl) T.mC_NoWeb rfl) (pa_cons (pe_glob (v := .ref (cls 8)) (by rfl) T.mC_NoText rfl) (pa_cons (pe_glob (v := .ref (cls 2)) (by rfl) T.mC_NoName rfl) (pa_cons (pe_glob (v := .ref (cls 6)) (by rfl) T.mC_NoRow rfl) pa_nil)))))) (fun _ _ _ h => h) (.cons (.own _) (.cons (.own _) (.cons (.own _) (.cons (.own _) (.cons (.own _) (.cons (.own _) .nil)))))) (by show 6 ≤ sizeLine; decide) (by rfl) T.z_isinstance L2.B.boot_isinstance (fe_var (mv 0)))))))))))))))
theorem sc_is_whole : FnScope ["thing"] ["thing"] (defScope s_is_whole) := ⟨rfl, rfl, rfl, by decide +kernel, rfl, by decide +kernel, by decide +kernel⟩
theorem ok_is_whole {f : Nat → Addr} {fd : Nat → FuncData} {cls : Nat → Addr} (T : Txt K mg f fd cls) : FnOk P w K mg base CX0 1 (f 3) (fd 3) ["thing"] (spD K (sD F_is_whole_593d)) := by
  refine fn_okD T.F_is_whole sc_is_whole (S := S_is_whole_593d) rfl rfl (fun cdv A outer s H E hr => ?_)
  have hu := hr.units
  exact (mss_one (fs_ret (ms_ret (fe_andV (m_and (fe_isi (m_isi (by decide) (by rfl) T.z_isinstance L2.B.boot_isinstance (by rfl) T.z_int L2.B.boot_int (fe_var (mv 0)))) (m_one (fe_notV (m_not (fe_isi (m_isi (by decide) (by rfl) T.z_isinstance L2.B.boot_isinstance (by rfl) T.z_bool L2.B.boot_bool (fe_var (mv 0))))))))))))
theorem sc_check_points : FnScope ["n", "points", "point"] ["n", "points"] (defScope s_check_points) := ⟨rfl, rfl, rfl, by decide +kernel, rfl, by decide +kernel, by decide +kernel⟩
theorem ok_check_points {f : Nat → Addr} {fd : Nat → FuncData} {cls : Nat → Addr} (T : Txt K mg f fd cls) : FnOk P w K mg base CX0 2 (f 4) (fd 4) ["n", "points"] (spD K (sD F_check_points_cadf)) := by
  have G_is_whole := ok_is_whole (P := P) (w := w) (base := base) T
  refine fn_okD T.F_check_points sc_check_points (S := S_check_points_cadf) rfl rfl (fun cdv A outer s H E hr => ?_)
  have hu := hr.units
  exact (mss_one (fs_for (ms_for PassesOwn.never rfl (fi_list (mi_list (fe_var (mv 1)))) (fg_name (mg_name (i := 2) sc_check_points.nd))
      (mss_one (fs_if (ms_if (MW.mt (ft_or (mw_or (ft_not (mt_not (ft_tru (mt_tru (fe_call (m_call G_is_whole (hr.mono (by decide)) (by rfl) T.m_is_whole T.F_is_whole.kp T.b_is_whole pass0 (fa_cons2 (fe_var (mv 2)) (fa_nil ma_nil)))) (fun _ => rfl))))) (mw_or1 (ft_not (mt_not (ft_chain (mt_chain op_le op_lt (fe_c mc_int) (fe_var (mv 2)) (fe_var (mv 0)))))))))) (mss_one fs_raise) (fss_nil mss_nil)))))))
theorem okx_check_points {f : Nat → Addr} {fd : Nat → FuncData} {cls : Nat → Addr} (T : Txt K mg f fd cls) : FnOk P w K mg base (CX1 P w) 2 (f 4) (fd 4) ["n", "points"] (spX K (sX K F_check_points_cadf)) := by
  have G_is_whole := ok_is_whole (P := P) (w := w) (base := base) T
  refine fn_okX T.F_check_points sc_check_points (S := S_check_points_cadf) rfl rfl (fun cdv A outer s H E hr => ?_)
  have hu := hr.units
  exact (fxs_one (fx_for (xs_for rfl (fi_list (mi_list (fe_var (mv 1)))) (fg_name (mg_name (i := 2) sc_check_points.nd))
      (mss_one (fs_if (ms_if (MW.mt (ft_or (mw_or (ft_not (mt_not (ft_tru (mt_tru (fe_call (m_call G_is_whole (hr.mono (by decide)) (by rfl) T.m_is_whole T.F_is_whole.kp T.b_is_whole pass0 (fa_cons2 (fe_var (mv 2)) (fa_nil ma_nil)))) (fun _ => rfl))))) (mw_or1 (ft_not (mt_not (ft_chain (mt_chain op_le op_lt (fe_c mc_int) (fe_var (mv 2)) (fe_var (mv 0)))))))))) (mss_one fs_raise) (fss_nil mss_nil))))
      (fxs_one (fx_if (xs_if (MW.mt (ft_or (mw_or (ft_not (mt_not (ft_tru (mt_tru (fe_call (m_call G_is_whole (hr.mono (by decide)) (by rfl) T.m_is_whole T.F_is_whole.kp T.b_is_whole pass0 (fa_cons2 (fe_var (mv 2)) (fa_nil ma_nil)))) (fun _ => rfl))))) (mw_or1 (ft_not (mt_not (ft_chain (mt_chain op_le op_lt (fe_c mc_int) (fe_var (mv 2)) (fe_var (mv 0)))))))))) (fxs_one (fx_raise T.ca_NoCut (xs_raise rfl hr.hd (by rfl) T.mC_NoCut T.r_NoCut))) (fxs_no _)))))))
theorem sc_cut_of : FnScope ["n", "points", "others"] ["n", "points"] (defScope s_cut_of) := ⟨rfl, rfl, rfl, by decide +kernel, rfl, by decide +kernel, by decide +kernel⟩
theorem ok_cut_of {f : Nat → Addr} {fd : Nat → FuncData} {cls : Nat → Addr} (T : Txt K mg f fd cls) : FnOk P w K mg base CX0 3 (f 5) (fd 5) ["n", "points"] (spD K (sD F_cut_of_5159)) := by
  have G_check_points := ok_check_points (P := P) (w := w) (base := base) T
  have GX_check_points := okx_check_points (P := P) (w := w) (base := base) T
  refine fn_okD T.F_cut_of sc_cut_of (S := S_cut_of_5159) rfl rfl (fun cdv A outer s H E hr => ?_)
  have hu := hr.units
  exact (fs_seq (mss_cons (fs_x (fs_drop (ms_expr (fe_call (m_call G_check_points (hr.mono (by decide)) (by rfl) T.m_check_points T.F_check_points.kp T.b_check_points pass0 (fa_cons2 (fe_var (mv 0)) (fa_cons2 (fe_var (mv 1)) (fa_nil ma_nil))))))))
      (fs_seq (mss_cons (fs_setcO (ms_setcomp (i := 2) (own := ["point"]) (caps := [1]) (N' := ["point", "points"])  true sc_cut_of.nd rfl (Or.inl rfl) (by exact ⟨rfl, by decide +kernel, rfl, by decide +kernel, rfl, rfl⟩) (by rfl) (by decide) (fi_r1 (mi_range1 (by rfl) T.z_range (fa_cons2 (fe_var (mv 0)) (fa_nil ma_nil)))) (fun _ _ _ _ _ => (fg_name (mg_name (i := 0) (by show List.Nodup (["point", "points"] : List Str); decide +kernel)))) (fun _ _ _ _ _ => (mif_one (ft_cmp b_mem (mt_cmp (op_notInK rfl) p2_in (fe_var (mv 0)) (fe_var (mv 1)) (hm := (by with_unfolding_all rfl)))))) (fun _ _ _ _ _ => (fe_var (mv 0)))))
      (fs_seq (mss_cons (fs_if (ms_if (MW.mt (ft_or (mw_or (ft_cmp b_eq (mt_cmp (op_eqA hu) p2_eq (fe_blS b_len (m_blS pn_len (call_lenK rfl) (by rfl) T.z_len L2.B.boot_len (fa_cons2 (fe_var (mv 1)) (fa_nil ma_nil)))) (fe_c mc_int) (hm := (nomark _)))) (mw_or1 (ft_cmp b_eq (mt_cmp (op_eqA hu) p2_eq (fe_blS b_len (m_blS pn_len (call_lenK rfl) (by rfl) T.z_len L2.B.boot_len (fa_cons2 (fe_own (mo 2)) (fa_nil ma_nil)))) (fe_c mc_int) (hm := (nomark _)))))))) (mss_one fs_raise) (fss_nil mss_nil)))
      (fs_seq (mss_cons (fs_if (ms_if (ft_cmp b_mem (mt_cmp (op_inK rfl) p2_in (fe_c mc_int) (fe_var (mv 1)) (hm := (by with_unfolding_all rfl)))) (mss_one (fs_retO (ms_retO 2))) (fss_nil mss_nil)))
      (mss_one (fs_ret (ms_ret (fe_sortset (m_sortset (by rfl) (by rfl) T.z_sorted L2.B.boot_sorted (by rfl) T.z_set L2.B.boot_set (fa_cons2 (fe_var (mv 1)) (fa_nil ma_nil)))))))))))))))
theorem okx_cut_of {f : Nat → Addr} {fd : Nat → FuncData} {cls : Nat → Addr} (T : Txt K mg f fd cls) : FnOk P w K mg base (CX1 P w) 3 (f 5) (fd 5) ["n", "points"] (spX K (sX K F_cut_of_5159)) := by
  have G_check_points := ok_check_points (P := P) (w := w) (base := base) T
  have GX_check_points := okx_check_points (P := P) (w := w) (base := base) T
  refine fn_okX T.F_cut_of sc_cut_of (S := S_cut_of_5159) rfl rfl (fun cdv A outer s H E hr => ?_)
  have hu := hr.units
  exact (fx_seq (xs_expr (fx_call (xe_call GX_check_points (hr.mono (by decide)) (by rfl) T.m_check_points T.F_check_points.kp T.b_check_points (fa_cons2 (fe_var (mv 0)) (fa_cons2 (fe_var (mv 1)) (fa_nil ma_nil)))))) (fs_x (fs_drop (ms_expr (fe_call (m_call G_check_points (hr.mono (by decide)) (by rfl) T.m_check_points T.F_check_points.kp T.b_check_points pass0 (fa_cons2 (fe_var (mv 0)) (fa_cons2 (fe_var (mv 1)) (fa_nil ma_nil)))))))) (fx_seq (fx_no _) (fs_setcO (ms_setcomp (i := 2) (own := ["point"]) (caps := [1]) (N' := ["point", "points"])  true sc_cut_of.nd rfl (Or.inl rfl) (by exact ⟨rfl, by decide +kernel, rfl, by decide +kernel, rfl, rfl⟩) (by rfl) (by decide) (fi_r1 (mi_range1 (by rfl) T.z_range (fa_cons2 (fe_var (mv 0)) (fa_nil ma_nil)))) (fun _ _ _ _ _ => (fg_name (mg_name (i := 0) (by show List.Nodup (["point", "points"] : List Str); decide +kernel)))) (fun _ _ _ _ _ => (mif_one (ft_cmp b_mem (mt_cmp (op_notInK rfl) p2_in (fe_var (mv 0)) (fe_var (mv 1)) (hm := (by with_unfolding_all rfl)))))) (fun _ _ _ _ _ => (fe_var (mv 0))))) (fx_seq (fx_if (xs_if (MW.mt (ft_or (mw_or (ft_cmp b_eq (mt_cmp (op_eqA hu) p2_eq (fe_blS b_len (m_blS pn_len (call_lenK rfl) (by rfl) T.z_len L2.B.boot_len (fa_cons2 (fe_var (mv 1)) (fa_nil ma_nil)))) (fe_c mc_int) (hm := (nomark _)))) (mw_or1 (ft_cmp b_eq (mt_cmp (op_eqA hu) p2_eq (fe_blS b_len (m_blS pn_len (call_lenK rfl) (by rfl) T.z_len L2.B.boot_len (fa_cons2 (fe_own (mo 2)) (fa_nil ma_nil)))) (fe_c mc_int) (hm := (nomark _)))))))) (fxs_one (fx_raise T.ca_NoCut (xs_raise rfl hr.hd (by rfl) T.mC_NoCut T.r_NoCut))) (fxs_no _))) (fs_if (ms_if (MW.mt (ft_or (mw_or (ft_cmp b_eq (mt_cmp (op_eqA hu) p2_eq (fe_blS b_len (m_blS pn_len (call_lenK rfl) (by rfl) T.z_len L2.B.boot_len (fa_cons2 (fe_var (mv 1)) (fa_nil ma_nil)))) (fe_c mc_int) (hm := (nomark _)))) (mw_or1 (ft_cmp b_eq (mt_cmp (op_eqA hu) p2_eq (fe_blS b_len (m_blS pn_len (call_lenK rfl) (by rfl) T.z_len L2.B.boot_len (fa_cons2 (fe_own (mo 2)) (fa_nil ma_nil)))) (fe_c mc_int) (hm := (nomark _)))))))) (mss_one fs_raise) (fss_nil mss_nil))) (fxs_no _))))
theorem sc_law_right : FnScope ["many", "points", "due", "again", "handed", "caught", "found", "e"] ["many", "points"] (defScope s_law_right) := ⟨rfl, rfl, rfl, by decide +kernel, rfl, by decide +kernel, by decide +kernel⟩
theorem ok_law_right {f : Nat → Addr} {fd : Nat → FuncData} {cls : Nat → Addr} (T : Txt K mg f fd cls) : FnOk P w K mg base CX0 4 (f 6) (fd 6) ["many", "points"] (spD K (sD F_law_right_df52)) := by
  have G_law_due := ok_law_due (P := P) (w := w) (base := base) T
  have G_law_is := ok_law_is (P := P) (w := w) (base := base) T
  have G_cut_of := ok_cut_of (P := P) (w := w) (base := base) T
  have GX_cut_of := okx_cut_of (P := P) (w := w) (base := base) T
  refine fn_okD T.F_law_right sc_law_right (S := S_law_right_df52) rfl rfl (fun cdv A outer s H E hr => ?_)
  have hu := hr.units
  exact (fs_seq (mss_cons (fs_set (ms_set (i := 2) sc_law_right.nd rfl (Or.inl rfl) (fe_call (m_call G_law_due (hr.mono (by decide)) (by rfl) T.m_law_due T.F_law_due.kp T.b_law_due pass0 (fa_cons2 (fe_var (mv 0)) (fa_cons2 (fe_var (mv 1)) (fa_nil ma_nil)))))))
      (fs_seq (mss_cons (fs_for (ms_for PassesOwn.never rfl (fi_r1 (mi_range1 (by rfl) T.z_range (fa_cons2 (fe_c mc_int) (fa_nil ma_nil)))) (fg_name (mg_name (i := 3) sc_law_right.nd))
      (fs_seq (mss_cons (fs_setO (ms_setO (i := 4) sc_law_right.nd rfl (Or.inl rfl) (fe_bl b_list (m_ty pn_list (call_listK rfl) (by rfl) T.z_list L2.B.boot_list (fa_cons2 (fe_var (mv 1)) (fa_nil ma_nil))))))
      (fs_seq (mss_cons (fs_set (ms_set (i := 5) sc_law_right.nd rfl (Or.inl rfl) (fe_c mc_non)))
      (fs_seq (mss_cons (fs_setO (ms_setO (i := 6) sc_law_right.nd rfl (Or.inl rfl) (fe_c mc_non)))
      (fs_seq (mss_cons (fs_try T.ku_CutError (ms_try (i := 7) sc_law_right.nd rfl rfl (by rfl) T.mC_CutError T.r_CutError
      (mss_one (fs_xF (fs_setO (ms_setO (i := 6) sc_law_right.nd rfl (Or.inl rfl) (fe_flatT (m_flatT (fe_call (m_call G_cut_of (hr.mono (by decide)) (by rfl) T.m_cut_of T.F_cut_of.kp T.b_cut_of pass0 (fa_cons2 (fe_var (mv 0)) (fa_cons2 (fe_own (mo 4)) (fa_nil ma_nil)))))))))))
      (fxs_one (xs_set (fx_call (xe_call GX_cut_of (hr.mono (by decide)) (by rfl) T.m_cut_of T.F_cut_of.kp T.b_cut_of (fa_cons2 (fe_var (mv 0)) (fa_cons2 (fe_own (mo 4)) (fa_nil ma_nil)))))))
      (fun _ => (mss_one (fs_set (ms_set (i := 5) sc_law_right.nd rfl (Or.inl rfl) (fe_var (mv 7))))))))
      (fs_seq (mss_cons (fs_if (ms_if (ft_cmp b_ne (mt_cmp (op_neA hu) p2_ne (fe_own (mo 4)) (fe_var (mv 1)) (hm := (nomark _)))) (mss_one (fs_ret (ms_ret (fe_c mc_bl)))) (fss_nil mss_nil)))
      (mss_one (fs_if (ms_if (ft_cmp b_is (mt_cmp op_isN p2_isN (fe_var (mv 2)) (fe_c mc_non) (hm := (nomark _)))) (mss_one (fs_if (ms_if (ft_not (mt_not (ft_tru (mt_tru (fe_call (m_call G_law_is (hr.mono (by decide)) (by rfl) T.m_law_is T.F_law_is.kp T.b_law_is pass0 (fa_cons2 (fe_var (mv 5)) (fa_cons2 (fe_c mc_int) (fa_nil ma_nil))))) (fun _ => rfl))))) (mss_one (fs_ret (ms_ret (fe_c mc_bl)))) (fss_nil mss_nil)))) (mss_one (fs_if (ms_if (MW.mt (ft_or (mw_or (ft_cmp b_isnot (mt_cmp op_notN p2_notN (fe_var (mv 5)) (fe_c mc_non) (hm := (nomark _)))) (ft_or (mw_or (ft_not (mt_not (ft_tru (mt_tru (fe_isi (m_isi (by decide) (by rfl) T.z_isinstance L2.B.boot_isinstance (by rfl) T.z_list L2.B.boot_list (fe_own (mo 6)))) (fun _ => rfl))))) (mw_or1 (ft_cmp b_ne (mt_cmp (op_neA hu) p2_ne (fe_own (mo 6)) (fe_var (mv 2)) (hm := (nomark _)))))))))) (mss_one (fs_ret (ms_ret (fe_c mc_bl)))) (fs_seq (mss_cons (fs_if (ms_if (ft_cmp b_ne (mt_cmp (op_neA hu) p2_ne (fe_comp (m_comp (own := ["one"]) (caps := []) (N' := ["one"]) (by exact ⟨rfl, by decide +kernel, rfl, by decide +kernel, rfl, rfl⟩) (by rfl) (by decide) (fi_list (mi_list (fe_own (mo 6)))) (fun _ _ _ _ _ => (fg_nameS (mg_nameS (i := 0) (by show List.Nodup (["one"] : List Str); decide +kernel)))) (fun _ _ _ _ _ => (mif_one (ft_tru (mt_tru (fe_isi (m_isi (by decide) (by rfl) T.z_isinstance L2.B.boot_isinstance (by rfl) T.z_bool L2.B.boot_bool (fe_var (mv 0)))) (fun _ => rfl))))) (fun _ _ _ _ _ => (fe_var (mv 0))))) (fe_lst (m_lst (fa_nil ma_nil))) (hm := (nomark _)))) (mss_one (fs_ret (ms_ret (fe_c mc_bl)))) (fss_nil mss_nil)))
      (fs_seq (mss_cons (fs_append (ms_append 6 (fe_c mc_int)))
      (fs_seq (mss_cons (fs_if (ms_if (ft_cmp b_ne (mt_cmp (op_neA hu) p2_ne (fe_own (mo 4)) (fe_var (mv 1)) (hm := (nomark _)))) (mss_one (fs_ret (ms_ret (fe_c mc_bl)))) (fss_nil mss_nil)))
      (fs_seq (mss_cons (fs_append (ms_append 4 (fe_c mc_int)))
      (mss_one (fs_if (ms_if (ft_cmp b_ne (mt_cmp (op_neA hu) p2_ne (fe_own (mo 6)) (fe_as (fe_bin b_cat (m_op (op_catR rfl) p2_cat (fe_var (mv 2)) (fe_lst (m_lst (fa_cons2 (fe_c mc_int) (fa_nil ma_nil))))))) (hm := (nomark _)))) (mss_one (fs_ret (ms_ret (fe_c mc_bl)))) (fss_nil mss_nil))))))))))))))))))))))))))))))
      (mss_one (fs_ret (ms_ret (fe_c mc_bl))))))))
theorem sc_law_take : FnScope ["pool", "many", "found", "step", "mark"] ["pool", "many"] (defScope s_law_take) := ⟨rfl, rfl, rfl, by decide +kernel, rfl, by decide +kernel, by decide +kernel⟩
theorem ok_law_take {f : Nat → Addr} {fd : Nat → FuncData} {cls : Nat → Addr} (T : Txt K mg f fd cls) : FnOk P w K mg base CX0 1 (f 7) (fd 7) ["pool", "many"] (spI K (sI F_law_take_cd1a)) := by
  refine fn_okI T.F_law_take sc_law_take (S := S_law_take_cd1a) rfl rfl (fun cdv A outer s H E hr => ?_)
  have hu := hr.units
  exact (fs_seq (mss_cons (fs_if (ms_if (ft_cmp b_eq (mt_cmp (op_eqA hu) p2_eq (fe_as (fe_bin b_ix (m_ix (ix_seqK rfl) p2_ix (fe_own (mo 0)) (fe_c mc_int) (hs := fun _ _ => rfl)))) (fe_c mc_int) (hm := (nomark _)))) (fs_seq (mss_cons (fs_set (ms_set (i := 2) sc_law_take.nd rfl (Or.inl rfl) (fe_binS b_mod (m_opS op_modN p2_int (fe_as (fe_bin b_ix (m_ix (ix_seqK rfl) p2_ix (fe_own (mo 0)) (fe_c mc_int) (hs := fun _ _ => rfl)))) (fe_var (mv 1))))))
      (fs_seq (mss_cons (fs_put (ms_put 0 (fe_binS b_fdiv (m_opS op_fdivG p2_div (fe_as (fe_bin b_ix (m_ix (ix_seqK rfl) p2_ix (fe_own (mo 0)) (fe_c mc_int) (hs := fun _ _ => rfl)))) (fe_var (mv 1)))) (fe_c mc_int)))
      (mss_one (fs_ret (ms_ret (fe_var (mv 2))))))))) (fss_nil mss_nil)))
      (fs_seq (mss_cons (fs_put (ms_put 0 (fe_binS b_add (m_opS op_add p2_int0 (fe_as (fe_bin b_ix (m_ix (ix_seqK rfl) p2_ix (fe_own (mo 0)) (fe_c mc_int) (hs := fun _ _ => rfl)))) (fe_c mc_int))) (fe_c mc_int)))
      (fs_seq (mss_cons (fs_setS (ms_setS (i := 3) sc_law_take.nd rfl (Or.inl rfl) (fe_as (fe_bin b_ix (m_ix (ix_seqK rfl) p2_ix (fe_own (mo 0)) (fe_c mc_int) (hs := fun _ _ => rfl))))))
      (fs_seq (mss_cons (fs_set (ms_set (i := 4) sc_law_take.nd rfl (Or.inl rfl) (fe_binS b_mul (m_opS op_mulG p2_mul (fe_binS b_add (m_opS op_add p2_int0 (fe_binS b_mod (m_opS op_modN p2_int (fe_as (fe_bin b_ix (m_ix (ix_seqK rfl) p2_ix (fe_own (mo 0)) (fe_c mc_int) (hs := fun _ _ => rfl)))) (fe_c mc_int))) (fe_c mc_int))) (fe_binS b_add (m_opS op_add p2_int0 (fe_binS b_mul (m_opS op_mulG p2_mul (fe_c mc_int) (fe_var (mv 3)))) (fe_c mc_int)))))))
      (fs_seq (mss_cons (fs_set (ms_set (i := 4) sc_law_take.nd rfl (Or.inl rfl) (fe_binS b_add (m_opS op_add p2_int0 (fe_var (mv 4)) (fe_binS b_mul (m_opS op_mulG p2_mul (fe_binS b_mul (m_opS op_mulG p2_mul (fe_c mc_int) (fe_var (mv 3)))) (fe_var (mv 3))))))))
      (fs_seq (mss_cons (fs_set (ms_set (i := 4) sc_law_take.nd rfl (Or.inl rfl) (fe_binS b_mod (m_opS op_modN p2_int (fe_binS b_mul (m_opS op_mulG p2_mul (fe_var (mv 4)) (fe_var (mv 4)))) (fe_c mc_int)))))
      (mss_one (fs_ret (ms_ret (fe_binS b_mod (m_opS op_modN p2_int (fe_binS b_fdiv (m_opS op_fdivG p2_div (fe_binS b_mod (m_opS op_modN p2_int (fe_binS b_mul (m_opS op_mulG p2_mul (fe_var (mv 4)) (fe_binS b_add (m_opS op_add p2_int0 (fe_var (mv 4)) (fe_c mc_int))))) (fe_c mc_int))) (fe_c mc_int))) (fe_var (mv 1)))))))))))))))))))
theorem sc_law : FnScope ["script", "k", "pool", "many", "points", "all_points", "one", "far", "at", "rows", "some"] ["script"] (defScope s_law) := ⟨rfl, rfl, rfl, by decide +kernel, rfl, by decide +kernel, by decide +kernel⟩
theorem ok_law {f : Nat → Addr} {fd : Nat → FuncData} {cls : Nat → Addr} (T : Txt K mg f fd cls) : FnOk P w K mg base CX0 5 (f 8) (fd 8) ["script"] (spD K (sD F_law_da55)) := by
  have G_law_pool := ok_law_pool (P := P) (w := w) (base := base) T
  have G_law_right := ok_law_right (P := P) (w := w) (base := base) T
  have G_law_take := ok_law_take (P := P) (w := w) (base := base) T
  refine fn_okD T.F_law sc_law (S := S_law_da55) rfl rfl (fun cdv A outer s H E hr => ?_)
  have hu := hr.units
  exact (fs_seq (mss_cons (fs_for (ms_for PassesOwn.never rfl (fi_r1 (mi_range1 (by rfl) T.z_range (fa_cons2 (fe_blS b_max (m_blS pn_max2 (call_max2 (by rfl)) (by rfl) T.z_max L2.B.boot_max (fa_cons2 (fe_c mc_int) (fa_cons2 (fe_blS b_min (m_blS pn_min2 (call_min2 (by rfl)) (by rfl) T.z_min L2.B.boot_min (fa_cons2 (fe_c mc_int) (fa_cons2 (fe_blS b_len (m_blS pn_len (call_lenK rfl) (by rfl) T.z_len L2.B.boot_len (fa_cons2 (fe_var (mv 0)) (fa_nil ma_nil)))) (fa_nil ma_nil))))) (fa_nil ma_nil))))) (fa_nil ma_nil)))) (fg_name (mg_name (i := 1) sc_law.nd))
      (fs_seq (mss_cons (fs_setO (ms_setO (i := 2) sc_law.nd rfl (Or.inr rfl) (fe_call (m_call G_law_pool (hr.mono (by decide)) (by rfl) T.m_law_pool T.F_law_pool.kp T.b_law_pool pass0 (fa_cons2 (fe_var (mv 0)) (fa_cons2 (fe_var (mv 1)) (fa_nil ma_nil)))))))
      (fs_seq (mss_cons (fs_set (ms_set (i := 3) sc_law.nd rfl (Or.inr rfl) (fe_as (fe_bin b_ix (m_ix (ix_seqK rfl) p2_ix (fe_lst (m_lst (fa_cons2 (fe_binS b_add (m_opS op_add p2_int0 (fe_c mc_int) (fe_callI (m_callI (i := 2) G_law_take (hr.mono (by decide)) (by rfl) T.m_law_take T.F_law_take.kp T.b_law_take pass0 (fa_cons2 (fe_c mc_int) (fa_nil ma_nil)))))) (fa_cons2 (fe_binS b_add (m_opS op_add p2_int0 (fe_c mc_int) (fe_callI (m_callI (i := 2) G_law_take (hr.mono (by decide)) (by rfl) T.m_law_take T.F_law_take.kp T.b_law_take pass0 (fa_cons2 (fe_c mc_int) (fa_nil ma_nil)))))) (fa_nil ma_nil))))) (fe_blS b_int (m_tyS pn_int call_int1 (by rfl) T.z_int L2.B.boot_int (fa_cons2 (fe_binS b_gt (m_cmp op_gt p2_cmp (fe_callI (m_callI (i := 2) G_law_take (hr.mono (by decide)) (by rfl) T.m_law_take T.F_law_take.kp T.b_law_take pass0 (fa_cons2 (fe_c mc_int) (fa_nil ma_nil)))) (fe_c mc_int) (hm := (nomark _)))) (fa_nil ma_nil)))) (hs := fun _ _ => rfl))))))
      (fs_seq (mss_cons (fs_set (ms_set (i := 4) sc_law.nd rfl (Or.inr rfl) (fe_compI (m_compI (own := ["turn"]) (caps := [2, 3]) (N' := ["turn", "pool", "many"]) (o := 2) (q := 1) (by exact ⟨rfl, by decide +kernel, rfl, by decide +kernel, rfl, rfl⟩) (by rfl) (by decide) rfl (by decide) (fi_r1 (mi_range1 (by rfl) T.z_range (fa_cons2 (fe_callI (m_callI (i := 2) G_law_take (hr.mono (by decide)) (by rfl) T.m_law_take T.F_law_take.kp T.b_law_take pass0 (fa_cons2 (fe_binS b_add (m_opS op_add p2_int0 (fe_var (mv 3)) (fe_c mc_int))) (fa_nil ma_nil)))) (fa_nil ma_nil)))) (fun _ _ _ _ _ => (fg_name (mg_name (i := 0) (by show List.Nodup (["turn", "pool", "many"] : List Str); decide +kernel)))) (fun _ _ _ _ _ => (fif_nil mif_nil)) (fun _ _ _ _ _ => (fe_callI (m_callI (i := 1) G_law_take (hr.mono (by decide)) (by rfl) T.m_law_take T.F_law_take.kp T.b_law_take pass0 (fa_cons2 (fe_var (mv 2)) (fa_nil ma_nil)))))))))
      (fs_seq (mss_cons (fs_set (ms_set (i := 5) sc_law.nd rfl (Or.inl rfl) (fe_step (m_step (fe_lr1 (m_lrange1 (by rfl) (by rfl) T.z_list L2.B.boot_list (by rfl) T.z_range L2.B.boot_range (fa_cons2 (fe_var (mv 3)) (fa_nil ma_nil)))) (fo_none mo_none) (fo_none mo_none) (fo_some (mo_some (fe_neg (m_neg (fe_c mc_int)))))))))
      (fs_seq (mss_cons (fs_set (ms_set (i := 6) sc_law.nd rfl (Or.inl rfl) (fe_callI (m_callI (i := 2) G_law_take (hr.mono (by decide)) (by rfl) T.m_law_take T.F_law_take.kp T.b_law_take pass0 (fa_cons2 (fe_var (mv 3)) (fa_nil ma_nil))))))
      (fs_seq (mss_cons (fs_set (ms_set (i := 7) sc_law.nd rfl (Or.inl rfl) (fe_as (fe_bin b_ix (m_ix (ix_seqK rfl) p2_ix (fe_lst (m_lst (fa_cons2 (fe_c mc_int) (fa_cons2 (fe_c mc_int) (fa_cons2 (fe_callI (m_callI (i := 2) G_law_take (hr.mono (by decide)) (by rfl) T.m_law_take T.F_law_take.kp T.b_law_take pass0 (fa_cons2 (fe_binS b_pow (m_opS op_powG p2_pow (fe_c mc_int) (fe_c mc_int))) (fa_nil ma_nil)))) (fa_nil ma_nil)))))) (fe_callI (m_callI (i := 2) G_law_take (hr.mono (by decide)) (by rfl) T.m_law_take T.F_law_take.kp T.b_law_take pass0 (fa_cons2 (fe_c mc_int) (fa_nil ma_nil)))) (hs := fun _ _ => rfl))))))
      (fs_seq (mss_cons (fs_set (ms_set (i := 8) sc_law.nd rfl (Or.inr rfl) (fe_callI (m_callI (i := 2) G_law_take (hr.mono (by decide)) (by rfl) T.m_law_take T.F_law_take.kp T.b_law_take pass0 (fa_cons2 (fe_binS b_add (m_opS op_add p2_int0 (fe_blS b_len (m_blS pn_len (call_lenK rfl) (by rfl) T.z_len L2.B.boot_len (fa_cons2 (fe_var (mv 4)) (fa_nil ma_nil)))) (fe_c mc_int))) (fa_nil ma_nil))))))
      (fs_seq (mss_cons (fs_setO (ms_setO (i := 9) sc_law.nd rfl (Or.inl rfl) (fe_lst (m_lst (fa_cons2 (fe_var (mv 4)) (fa_cons2 (fe_lst (m_lst (fa_nil ma_nil))) (fa_cons2 (fe_var (mv 5)) (fa_cons2 (fe_as (fe_bin b_cat (m_op (op_catR rfl) p2_cat (fe_sl (m_slL (fe_var (mv 5)) (fo_none mo_none) (fo_some (mo_some (fe_var (mv 6)))))) (fe_sl (m_slL (fe_var (mv 5)) (fo_some (mo_some (fe_binS b_add (m_opS op_add p2_int0 (fe_var (mv 6)) (fe_c mc_int))))) (fo_none mo_none)))))) (fa_cons2 (fe_lst (m_lst (fa_cons2 (fe_var (mv 6)) (fa_nil ma_nil)))) (fa_cons2 (fe_lst (m_lst (fa_cons2 (fe_var (mv 6)) (fa_cons2 (fe_var (mv 6)) (fa_nil ma_nil))))) (fa_nil ma_nil)))))))))))
      (fs_seq (mss_cons (fs_append (ms_append 9 (fe_as (fe_bin b_cat (m_op (op_catR rfl) p2_cat (fe_var (mv 4)) (fe_var (mv 4)))))))
      (fs_seq (mss_cons (fs_freeze (ms_freeze 9 (fs_setO (ms_setO (i := 9) sc_law.nd rfl (Or.inl rfl) (fe_as (fe_bin b_cat (m_op (op_catR rfl) p2_cat (fe_var (mv 9)) (fe_comp (m_comp (own := ["bad"]) (caps := [4, 8]) (N' := ["bad", "points", "at"]) (by exact ⟨rfl, by decide +kernel, rfl, by decide +kernel, rfl, rfl⟩) (by rfl) (by decide) (fi_list (mi_list (fe_lst (m_lst (fa_cons2 (fe_binS b_sub (m_opS op_sub p2_int0 (fe_neg (m_neg (fe_c mc_int))) (fe_var (mv 7)))) (fa_cons2 (fe_binS b_add (m_opS op_add p2_int0 (fe_var (mv 3)) (fe_var (mv 7)))) (fa_cons2 (fe_binS b_sub (m_opS op_sub p2_int0 (fe_c mc_int) (fe_var (mv 3)))) (fa_nil ma_nil)))))))) (fun _ _ _ _ _ => (fg_name (mg_name (i := 0) (by show List.Nodup (["bad", "points", "at"] : List Str); decide +kernel)))) (fun _ _ _ _ _ => (fif_nil mif_nil)) (fun _ _ _ _ _ => (fe_as (fe_bin b_cat (m_op (op_catR rfl) p2_cat (fe_as (fe_bin b_cat (m_op (op_catR rfl) p2_cat (fe_sl (m_slL (fe_var (mv 1)) (fo_none mo_none) (fo_some (mo_some (fe_var (mv 2)))))) (fe_lst (m_lst (fa_cons2 (fe_var (mv 0)) (fa_nil ma_nil))))))) (fe_sl (m_slL (fe_var (mv 1)) (fo_some (mo_some (fe_var (mv 2)))) (fo_none mo_none))))))))))))))))
      (mss_one (fs_freeze (ms_freeze 9 (fs_for (ms_for PassesOwn.never rfl (fi_list (mi_list (fe_var (mv 9)))) (fg_name (mg_name (i := 10) sc_law.nd))
      (mss_one (fs_if (ms_if (ft_not (mt_not (ft_tru (mt_tru (fe_call (m_call G_law_right (hr.mono (by decide)) (by rfl) T.m_law_right T.F_law_right.kp T.b_law_right pass0 (fa_cons2 (fe_var (mv 3)) (fa_cons2 (fe_var (mv 10)) (fa_nil ma_nil))))) (fun _ => rfl))))) (mss_one (fs_ret (ms_ret (fe_c mc_bl)))) (fss_nil mss_nil)))))))))))))))))))))))))))))))
      (mss_one (fs_ret (ms_ret (fe_c mc_bl))))))
theorem ok_lawS {f : Nat → Addr} {fd : Nat → FuncData} {cls : Nat → Addr} (T : Txt K mg f fd cls) : FnOk P w K mg base CX0 5 (f 8) (fd 8) ["script"] (spD K SLaw) := (ok_law T).imp fun vs H Q E q => by
  obtain ⟨L, ds, k, h1, ⟨ns, e, hl, hk⟩, h3⟩ := q
  exact ⟨L, ds, k, h1, ⟨_, by rw [e]; exact law_true ns hl, hk⟩, h3⟩
end
theorem all_mk {l : PySem.W.OpenLaw} {w : World} {K : PySem.W.Frag} {h : Heap} {mg : Str → Option Value} {fa : Addr} {C_CutError : Addr} {C_NoCut : Addr} {C_NoName : Addr} {C_NoNumber : Addr} {C_NoOrder : Addr} {C_NoPoint : Addr} {C_NoRow : Addr} {C_NoTable : Addr} {C_NoText : Addr} {C_NoWeb : Addr} {C_TooMany : Addr} (X : K.In h) (G : h.Ns mainGlobals mg) (hfa : mg "law" = some (.ref fa))
    {f1 : Addr} {od1 an1 : Option Addr} {sl1 : Array (Option Value)} {oc1 kV1 dc1 pm1 cd1 ct1 : Value}
    {f2 : Addr} {od2 an2 : Option Addr} {sl2 : Array (Option Value)} {oc2 kV2 dc2 pm2 cd2 ct2 : Value}
    {f3 : Addr} {od3 an3 : Option Addr} {sl3 : Array (Option Value)} {oc3 kV3 dc3 pm3 cd3 ct3 : Value}
    {f4 : Addr} {od4 an4 : Option Addr} {sl4 : Array (Option Value)} {oc4 kV4 dc4 pm4 cd4 ct4 : Value}
    {f5 : Addr} {od5 an5 : Option Addr} {sl5 : Array (Option Value)} {oc5 kV5 dc5 pm5 cd5 ct5 : Value}
    {f6 : Addr} {od6 an6 : Option Addr} {sl6 : Array (Option Value)} {oc6 kV6 dc6 pm6 cd6 ct6 : Value}
    {f7 : Addr} {od7 an7 : Option Addr} {sl7 : Array (Option Value)} {oc7 kV7 dc7 pm7 cd7 ct7 : Value}
    {f8 : Addr} {od8 an8 : Option Addr} {sl8 : Array (Option Value)} {oc8 kV8 dc8 pm8 cd8 ct8 : Value}
    {f9 : Addr} {od9 an9 : Option Addr} {sl9 : Array (Option Value)} {oc9 kV9 dc9 pm9 cd9 ct9 : Value}
    (a1 : PySem.W.nsIn K mainGlobals "_law_pool" = some (some (.ref f1))) (l1 : K.lookup f1 = some ⟨oc1, od1, .func (PySem.W.fnOf "_law_pool" "_law_pool" (defArgs s_law_pool) (defBody s_law_pool) (defScope s_law_pool) .none kV1 dc1 pm1 an1 cd1 ct1), sl1⟩) (c1 : PySem.W.codeIn K cd1 "_law_pool" = true) (k1 : PySem.W.keepIn K (.ref f1) = true)
    (a2 : PySem.W.nsIn K mainGlobals "_law_due" = some (some (.ref f2))) (l2 : K.lookup f2 = some ⟨oc2, od2, .func (PySem.W.fnOf "_law_due" "_law_due" (defArgs s_law_due) (defBody s_law_due) (defScope s_law_due) .none kV2 dc2 pm2 an2 cd2 ct2), sl2⟩) (c2 : PySem.W.codeIn K cd2 "_law_due" = true) (k2 : PySem.W.keepIn K (.ref f2) = true)
    (a3 : PySem.W.nsIn K mainGlobals "_law_is" = some (some (.ref f3))) (l3 : K.lookup f3 = some ⟨oc3, od3, .func (PySem.W.fnOf "_law_is" "_law_is" (defArgs s_law_is) (defBody s_law_is) (defScope s_law_is) .none kV3 dc3 pm3 an3 cd3 ct3), sl3⟩) (c3 : PySem.W.codeIn K cd3 "_law_is" = true) (k3 : PySem.W.keepIn K (.ref f3) = true)
    (a4 : PySem.W.nsIn K mainGlobals "is_whole" = some (some (.ref f4))) (l4 : K.lookup f4 = some ⟨oc4, od4, .func (PySem.W.fnOf "is_whole" "is_whole" (defArgs s_is_whole) (defBody s_is_whole) (defScope s_is_whole) .none kV4 dc4 pm4 an4 cd4 ct4), sl4⟩) (c4 : PySem.W.codeIn K cd4 "is_whole" = true) (k4 : PySem.W.keepIn K (.ref f4) = true)
    (a5 : PySem.W.nsIn K mainGlobals "check_points" = some (some (.ref f5))) (l5 : K.lookup f5 = some ⟨oc5, od5, .func (PySem.W.fnOf "check_points" "check_points" (defArgs s_check_points) (defBody s_check_points) (defScope s_check_points) .none kV5 dc5 pm5 an5 cd5 ct5), sl5⟩) (c5 : PySem.W.codeIn K cd5 "check_points" = true) (k5 : PySem.W.keepIn K (.ref f5) = true)
    (a6 : PySem.W.nsIn K mainGlobals "cut_of" = some (some (.ref f6))) (l6 : K.lookup f6 = some ⟨oc6, od6, .func (PySem.W.fnOf "cut_of" "cut_of" (defArgs s_cut_of) (defBody s_cut_of) (defScope s_cut_of) .none kV6 dc6 pm6 an6 cd6 ct6), sl6⟩) (c6 : PySem.W.codeIn K cd6 "cut_of" = true) (k6 : PySem.W.keepIn K (.ref f6) = true)
    (a7 : PySem.W.nsIn K mainGlobals "_law_right" = some (some (.ref f7))) (l7 : K.lookup f7 = some ⟨oc7, od7, .func (PySem.W.fnOf "_law_right" "_law_right" (defArgs s_law_right) (defBody s_law_right) (defScope s_law_right) .none kV7 dc7 pm7 an7 cd7 ct7), sl7⟩) (c7 : PySem.W.codeIn K cd7 "_law_right" = true) (k7 : PySem.W.keepIn K (.ref f7) = true)
    (a8 : PySem.W.nsIn K mainGlobals "_law_take" = some (some (.ref f8))) (l8 : K.lookup f8 = some ⟨oc8, od8, .func (PySem.W.fnOf "_law_take" "_law_take" (defArgs s_law_take) (defBody s_law_take) (defScope s_law_take) .none kV8 dc8 pm8 an8 cd8 ct8), sl8⟩) (c8 : PySem.W.codeIn K cd8 "_law_take" = true) (k8 : PySem.W.keepIn K (.ref f8) = true)
    (a9 : PySem.W.nsIn K mainGlobals "law" = some (some (.ref f9))) (l9 : K.lookup f9 = some ⟨oc9, od9, .func (PySem.W.fnOf "law" "law" (defArgs s_law) (defBody s_law) (defScope s_law) .none kV9 dc9 pm9 an9 cd9 ct9), sl9⟩) (c9 : PySem.W.codeIn K cd9 "law" = true) (k9 : PySem.W.keepIn K (.ref f9) = true)
    (z_ValueError : PySem.W.nsIn K mainGlobals "ValueError" = some none)
    (z_bool : PySem.W.nsIn K mainGlobals "bool" = some none)
    (z_int : PySem.W.nsIn K mainGlobals "int" = some none)
    (z_isinstance : PySem.W.nsIn K mainGlobals "isinstance" = some none)
    (z_len : PySem.W.nsIn K mainGlobals "len" = some none)
    (z_list : PySem.W.nsIn K mainGlobals "list" = some none)
    (z_max : PySem.W.nsIn K mainGlobals "max" = some none)
    (z_min : PySem.W.nsIn K mainGlobals "min" = some none)
    (z_range : PySem.W.nsIn K mainGlobals "range" = some none)
    (z_set : PySem.W.nsIn K mainGlobals "set" = some none)
    (z_sorted : PySem.W.nsIn K mainGlobals "sorted" = some none)
    (cc_CutError : PySem.W.nsIn K mainGlobals "CutError" = some (some (.ref C_CutError)))
    (cc_NoCut : PySem.W.nsIn K mainGlobals "NoCut" = some (some (.ref C_NoCut)))
    (cc_NoName : PySem.W.nsIn K mainGlobals "NoName" = some (some (.ref C_NoName)))
    (cc_NoNumber : PySem.W.nsIn K mainGlobals "NoNumber" = some (some (.ref C_NoNumber)))
    (cc_NoOrder : PySem.W.nsIn K mainGlobals "NoOrder" = some (some (.ref C_NoOrder)))
    (cc_NoPoint : PySem.W.nsIn K mainGlobals "NoPoint" = some (some (.ref C_NoPoint)))
    (cc_NoRow : PySem.W.nsIn K mainGlobals "NoRow" = some (some (.ref C_NoRow)))
    (cc_NoTable : PySem.W.nsIn K mainGlobals "NoTable" = some (some (.ref C_NoTable)))
    (cc_NoText : PySem.W.nsIn K mainGlobals "NoText" = some (some (.ref C_NoText)))
    (cc_NoWeb : PySem.W.nsIn K mainGlobals "NoWeb" = some (some (.ref C_NoWeb)))
    (cc_TooMany : PySem.W.nsIn K mainGlobals "TooMany" = some (some (.ref C_TooMany)))
    (r_CutError : RsCls K C_CutError)
    (r_NoCut : RsCls K C_NoCut)
    (x_NoCut_ga : PySem.W.findIn K (.ref C_NoCut) "__getattribute__" = some (some (.builtin "BaseException.__getattribute__")))
    (x_NoCut_gt : PySem.W.findIn K (.ref C_NoCut) "__getattr__" = some none)
    (x_NoCut_cl : PySem.W.findIn K (.ref C_NoCut) "__class__" = some (some (.builtin "object.__class__")))
    (x_NoCut_isB : PySem.W.subIn K (.ref C_NoCut) (.type "BaseException") = some true)
    (x_NoCut_isO : PySem.W.subIn K (.ref C_NoCut) (.type "object") = some true)
    (x_NoCut_isC : PySem.W.isClsIn K C_NoCut = true)
    (x_NoCut_k1 : PySem.W.kitOne K (.ref C_NoCut) (.type "int") = some false)
    (x_NoCut_k2 : PySem.W.kitOne K (.ref C_NoCut) (.type "bool") = some false)
    (x_NoCut_k3 : PySem.W.kitOne K (.ref C_NoCut) (.type "str") = some false)
    (x_NoCut_k4 : PySem.W.kitOne K (.ref C_NoCut) (.type "list") = some false)
    (x_NoCut_k5 : PySem.W.kitOne K (.ref C_NoCut) (.type "tuple") = some false)
    (u_NoCut_CutError : PySem.W.subIn K (.ref C_NoCut) (.ref C_CutError) = some true)
    (kt_NoCut_NoCut : PySem.W.kitOne K (.ref C_NoCut) (.ref C_NoCut) = some true)
    (kt_NoCut_NoNumber : PySem.W.kitOne K (.ref C_NoCut) (.ref C_NoNumber) = some false)
    (kt_NoCut_NoPoint : PySem.W.kitOne K (.ref C_NoCut) (.ref C_NoPoint) = some false)
    (kt_NoCut_NoTable : PySem.W.kitOne K (.ref C_NoCut) (.ref C_NoTable) = some false)
    (kt_NoCut_ValueError : PySem.W.kitOne K (.ref C_NoCut) (.type "ValueError") = some true)
    (ka_NoCut_0 : PySem.W.kitAny K (.ref C_NoCut) [.ref C_NoOrder, .ref C_TooMany, .ref C_NoWeb, .ref C_NoText, .ref C_NoName, .ref C_NoRow] = some false)
    : ∃ fd : FuncData, (∀ (s : Shared) (v : Value), BindsTo s fd ⟨[v], []⟩ [("script", v)]) ∧ ∀ base : Heap, K.In base → base.Ns mainGlobals mg → FnOk l.prog w K mg base CX0 5 fa fd ["script"] (spD K SLaw) := by
  have e := hfa.symm.trans (PySem.W.mg_of X G a9)
  cases e
  have F1 := fun_mk (st := s_law_pool) l1 c1 k1
  have b1 := F1.binds (ps := ["script", "k"]) fun _ _ _ _ _ _ us hl => len2 (P := fun us => PySem.bindArgs _ { pos := us } = pure (List.zip _ us)) (fun _ _ => rfl) us hl
  have F2 := fun_mk (st := s_law_due) l2 c2 k2
  have b2 := F2.binds (ps := ["many", "points"]) fun _ _ _ _ _ _ us hl => len2 (P := fun us => PySem.bindArgs _ { pos := us } = pure (List.zip _ us)) (fun _ _ => rfl) us hl
  have F3 := fun_mk (st := s_law_is) l3 c3 k3
  have b3 := F3.binds (ps := ["caught", "due"]) fun _ _ _ _ _ _ us hl => len2 (P := fun us => PySem.bindArgs _ { pos := us } = pure (List.zip _ us)) (fun _ _ => rfl) us hl
  have F4 := fun_mk (st := s_is_whole) l4 c4 k4
  have b4 := F4.binds (ps := ["thing"]) fun _ _ _ _ _ _ us hl => len1 (P := fun us => PySem.bindArgs _ { pos := us } = pure (List.zip _ us)) (fun _ => rfl) us hl
  have F5 := fun_mk (st := s_check_points) l5 c5 k5
  have b5 := F5.binds (ps := ["n", "points"]) fun _ _ _ _ _ _ us hl => len2 (P := fun us => PySem.bindArgs _ { pos := us } = pure (List.zip _ us)) (fun _ _ => rfl) us hl
  have F6 := fun_mk (st := s_cut_of) l6 c6 k6
  have b6 := F6.binds (ps := ["n", "points"]) fun _ _ _ _ _ _ us hl => len2 (P := fun us => PySem.bindArgs _ { pos := us } = pure (List.zip _ us)) (fun _ _ => rfl) us hl
  have F7 := fun_mk (st := s_law_right) l7 c7 k7
  have b7 := F7.binds (ps := ["many", "points"]) fun _ _ _ _ _ _ us hl => len2 (P := fun us => PySem.bindArgs _ { pos := us } = pure (List.zip _ us)) (fun _ _ => rfl) us hl
  have F8 := fun_mk (st := s_law_take) l8 c8 k8
  have b8 := F8.binds (ps := ["pool", "many"]) fun _ _ _ _ _ _ us hl => len2 (P := fun us => PySem.bindArgs _ { pos := us } = pure (List.zip _ us)) (fun _ _ => rfl) us hl
  have F9 := fun_mk (st := s_law) l9 c9 k9
  have b9 := F9.binds (ps := ["script"]) fun _ _ _ _ _ _ us hl => len1 (P := fun us => PySem.bindArgs _ { pos := us } = pure (List.zip _ us)) (fun _ => rfl) us hl
  have T : Txt K mg (fun k => [_, _, _, _, _, _, _, _, _].getD k 0) (fun k => [_, _, _, _, _, _, _, _, _].getD k (PySem.W.fnOf "law" "law" (defArgs s_law) (defBody s_law) (defScope s_law) .none kV9 dc9 pm9 an9 cd9 ct9)) (fun k => [C_CutError, C_NoCut, C_NoName, C_NoNumber, C_NoOrder, C_NoPoint, C_NoRow, C_NoTable, C_NoText, C_NoWeb, C_TooMany].getD k 0) := { F_law_pool := F1, b_law_pool := b1, m_law_pool := PySem.W.mg_of X G a1, F_law_due := F2, b_law_due := b2, m_law_due := PySem.W.mg_of X G a2, F_law_is := F3, b_law_is := b3, m_law_is := PySem.W.mg_of X G a3, F_is_whole := F4, b_is_whole := b4, m_is_whole := PySem.W.mg_of X G a4, F_check_points := F5, b_check_points := b5, m_check_points := PySem.W.mg_of X G a5, F_cut_of := F6, b_cut_of := b6, m_cut_of := PySem.W.mg_of X G a6, F_law_right := F7, b_law_right := b7, m_law_right := PySem.W.mg_of X G a7, F_law_take := F8, b_law_take := b8, m_law_take := PySem.W.mg_of X G a8, F_law := F9, b_law := b9, m_law := PySem.W.mg_of X G a9, z_ValueError := PySem.W.mg_none_of X G z_ValueError, z_bool := PySem.W.mg_none_of X G z_bool, z_int := PySem.W.mg_none_of X G z_int, z_isinstance := PySem.W.mg_none_of X G z_isinstance, z_len := PySem.W.mg_none_of X G z_len, z_list := PySem.W.mg_none_of X G z_list, z_max := PySem.W.mg_none_of X G z_max, z_min := PySem.W.mg_none_of X G z_min, z_range := PySem.W.mg_none_of X G z_range, z_set := PySem.W.mg_none_of X G z_set, z_sorted := PySem.W.mg_none_of X G z_sorted, mC_CutError := PySem.W.mg_of X G cc_CutError, ca_CutError := cc_CutError, mC_NoCut := PySem.W.mg_of X G cc_NoCut, ca_NoCut := cc_NoCut, mC_NoName := PySem.W.mg_of X G cc_NoName, ca_NoName := cc_NoName, mC_NoNumber := PySem.W.mg_of X G cc_NoNumber, ca_NoNumber := cc_NoNumber, mC_NoOrder := PySem.W.mg_of X G cc_NoOrder, ca_NoOrder := cc_NoOrder, mC_NoPoint := PySem.W.mg_of X G cc_NoPoint, ca_NoPoint := cc_NoPoint, mC_NoRow := PySem.W.mg_of X G cc_NoRow, ca_NoRow := cc_NoRow, mC_NoTable := PySem.W.mg_of X G cc_NoTable, ca_NoTable := cc_NoTable, mC_NoText := PySem.W.mg_of X G cc_NoText, ca_NoText := cc_NoText, mC_NoWeb := PySem.W.mg_of X G cc_NoWeb, ca_NoWeb := cc_NoWeb, mC_TooMany := PySem.W.mg_of X G cc_TooMany, ca_TooMany := cc_TooMany, r_CutError := r_CutError, r_NoCut := r_NoCut, x_NoCut_ga := x_NoCut_ga, x_NoCut_gt := x_NoCut_gt, x_NoCut_cl := x_NoCut_cl, x_NoCut_isB := x_NoCut_isB, x_NoCut_isO := x_NoCut_isO, x_NoCut_isC := x_NoCut_isC, x_NoCut_k1 := x_NoCut_k1, x_NoCut_k2 := x_NoCut_k2, x_NoCut_k3 := x_NoCut_k3, x_NoCut_k4 := x_NoCut_k4, x_NoCut_k5 := x_NoCut_k5, u_NoCut_CutError := u_NoCut_CutError, kt_NoCut_NoCut := kt_NoCut_NoCut, kt_NoCut_NoNumber := kt_NoCut_NoNumber, kt_NoCut_NoPoint := kt_NoCut_NoPoint, kt_NoCut_NoTable := kt_NoCut_NoTable, kt_NoCut_ValueError := kt_NoCut_ValueError, ka_NoCut_0 := ka_NoCut_0 }
  exact ⟨PySem.W.fnOf "law" "law" (defArgs s_law) (defBody s_law) (defScope s_law) .none kV9 dc9 pm9 an9 cd9 ct9, fun s v => .of_eq rfl, fun base _ _ => ok_lawS (P := l.prog) (w := w) (base := base) T⟩
theorem walk {l : PySem.W.OpenLaw} {q : Program} {loose : List Str} {XP : (Str → Option Value) → Heap → Prop} {YP : World → Heap → Prop} {d : DefRec} {K : Params → PySem.W.Frag} (hn : l.most = some 63) (hdf : d.params.defaults = [])
    (hY : ∀ (w : World) (h : Heap), YP w h → (K w.params).In h)
    (F : ∀ (w : World) (mg : Str → Option Value) (fa : Addr) (h : Heap), (K w.params).In h → h.Ns mainGlobals mg → mg d.name = some (.ref fa) →
      ∃ fd : FuncData, (∀ (s : Shared) (u : Value), BindsTo s fd ⟨[u], []⟩ [("script", u)]) ∧ ∀ base : Heap, (K w.params).In base → base.Ns mainGlobals mg → FnOk l.prog w (K w.params) mg base CX0 5 fa fd ["script"] (spD (K w.params) SLaw)) :
    PySem.W.WalkO q loose XP YP l.row.toRowW d [] (fun f vs => PySem.call f vs) :=
  L2.walk_of (n := 63) (k := 5) (x := "script") (CX := fun _ => CX0) (sp := fun w => spD (K w.params) SLaw) hn (by decide) hdf ⟨rfl, by decide, by decide⟩ hY F (fun _ _ a ns hl _ hS => law_sp hl hS) fun _ _ _ _ _ z => z
end My
open PySem PySem.W PyProof.Rows
set_option maxRecDepth 100000 in
set_option maxHeartbeats 0 in
theorem PySem.Challenge.cw_farcuts_k12_cuts_told_holds : PySem.Challenge.rw_farcuts_k12_cuts_told.Holds := by
  w_on; o_law; k_head; (case hw => w_witness2)
  k_fill
  refine My.walk (l := PySem.Challenge.rw_farcuts_k12_cuts_told) rfl rfl (fun w h Y => PySem.W.kIn_of Y) ?F
  case F =>
    intro w mg fa h KX G hmg
    refine' My.all_mk KX G hmg ?a1 ?l1 ?c1 ?k1 ?a2 ?l2 ?c2 ?k2 ?a3 ?l3 ?c3 ?k3 ?a4 ?l4 ?c4 ?k4 ?a5 ?l5 ?c5 ?k5 ?a6 ?l6 ?c6 ?k6 ?a7 ?l7 ?c7 ?k7 ?a8 ?l8 ?c8 ?k8 ?a9 ?l9 ?c9 ?k9 ?z_ValueError ?z_bool ?z_int ?z_isinstance ?z_len ?z_list ?z_max ?z_min ?z_range ?z_set ?z_sorted ?cc_CutError ?cc_NoCut ?cc_NoName ?cc_NoNumber ?cc_NoOrder ?cc_NoPoint ?cc_NoRow ?cc_NoTable ?cc_NoText ?cc_NoWeb ?cc_TooMany ?r_CutError ?r_NoCut ?x_NoCut_ga ?x_NoCut_gt ?x_NoCut_cl ?x_NoCut_isB ?x_NoCut_isO ?x_NoCut_isC ?x_NoCut_k1 ?x_NoCut_k2 ?x_NoCut_k3 ?x_NoCut_k4 ?x_NoCut_k5 ?u_NoCut_CutError ?kt_NoCut_NoCut ?kt_NoCut_NoNumber ?kt_NoCut_NoPoint ?kt_NoCut_NoTable ?kt_NoCut_ValueError ?ka_NoCut_0
    (case a1 => k_is)
    (case l1 => k_is)
    (case c1 => k_is)
    (case k1 => k_is)
    (case a2 => k_is)
    (case l2 => k_is)
    (case c2 => k_is)
    (case k2 => k_is)
    (case a3 => k_is)
    (case l3 => k_is)
    (case c3 => k_is)
    (case k3 => k_is)
    (case a4 => k_is)
    (case l4 => k_is)
    (case c4 => k_is)
    (case k4 => k_is)
    (case a5 => k_is)
    (case l5 => k_is)
    (case c5 => k_is)
    (case k5 => k_is)
    (case a6 => k_is)
    (case l6 => k_is)
    (case c6 => k_is)
    (case k6 => k_is)
    (case a7 => k_is)
    (case l7 => k_is)
    (case c7 => k_is)
    (case k7 => k_is)
    (case a8 => k_is)
    (case l8 => k_is)
    (case c8 => k_is)
    (case k8 => k_is)
    (case a9 => k_is)
    (case l9 => k_is)
    (case c9 => k_is)
    (case k9 => k_is)
    (case z_ValueError => k_is)
    (case z_bool => k_is)
    (case z_int => k_is)
    (case z_isinstance => k_is)
    (case z_len => k_is)
    (case z_list => k_is)
    (case z_max => k_is)
    (case z_min => k_is)
    (case z_range => k_is)
    (case z_set => k_is)
    (case z_sorted => k_is)
    (case cc_CutError => k_is)
    (case cc_NoCut => k_is)
    (case cc_NoName => k_is)
    (case cc_NoNumber => k_is)
    (case cc_NoOrder => k_is)
    (case cc_NoPoint => k_is)
    (case cc_NoRow => k_is)
    (case cc_NoTable => k_is)
    (case cc_NoText => k_is)
    (case cc_NoWeb => k_is)
    (case cc_TooMany => k_is)
    (case r_CutError => show PySem.W.excIn _ _ _ _ = true; k_exc)
    (case r_NoCut => show PySem.W.excIn _ _ _ _ = true; k_exc)
    (case x_NoCut_ga => k_is)
    (case x_NoCut_gt => k_is)
    (case x_NoCut_cl => k_is)
    (case x_NoCut_isB => k_is)
    (case x_NoCut_isO => k_is)
    (case x_NoCut_isC => k_is)
    (case x_NoCut_k1 => kit_is)
    (case x_NoCut_k2 => kit_is)
    (case x_NoCut_k3 => kit_is)
    (case x_NoCut_k4 => kit_is)
    (case x_NoCut_k5 => kit_is)
    (case u_NoCut_CutError => k_is)
    (case kt_NoCut_NoCut => kit_is)
    (case kt_NoCut_NoNumber => kit_is)
    (case kt_NoCut_NoPoint => kit_is)
    (case kt_NoCut_NoTable => kit_is)
    (case kt_NoCut_ValueError => kit_is)
    (case ka_NoCut_0 => kit_is)
#print axioms PySem.Challenge.cw_farcuts_k12_cuts_told_holds
