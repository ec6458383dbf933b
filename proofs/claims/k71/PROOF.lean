import PyProof.Rows.All
import Wide.All
import OpenK.AllK
import Wide.FinOn
import PyProof.EqAt
import PyProof.EqKinds
import PyProof.TupleCall
import PyProof.P3In
import PyProof.ZipIter
import PyProof.ListRange
import PyProof.SetRoads
import PyProof.Rows.SetFrom
import PyProof.Rows.SeqMore2
import KE.RegKIsAll
import PySem.Challenge.RW_farcuts_k71_faults_of_cuts
set_option Elab.async false
set_option linter.all false
set_option maxRecDepth 100000
/-! THE HAND LAYER, for ints, bools, texts, own classes, LISTS and tuples (index, slices, in, append, pop ..), calls, loops. Paste it whole ahead of your own text; what your proof does not reach may be deleted. -/
namespace L2
open PySem PySem.Spec PyProof.Rows
noncomputable abbrev Key := Sum Int Str
noncomputable def Z04 : Key → Value → Bool
  | .inl k, v => Value.isInt k v
  | .inr x, v => Value.isStrOf x v
noncomputable def Z7c (w : World) : Key → Int
  | .inl k => hashInt k
  | .inr x => hashStr w x
theorem Wu : ∀ {k : Key} {v : Value}, Z04 k v = true → (∃ i t, k = Sum.inl i ∧ v = Value.int i t) ∨ (∃ x t, k = Sum.inr x ∧ v = Value.str x t)
  | .inl i, v, h => by
    obtain ⟨t, e⟩ := Value.isInt_shape (k := i) (v := v) h
    exact .inl ⟨i, t, rfl, e⟩
  | .inr x, v, h => by
    obtain ⟨t, e⟩ := Value.isStrOf_shape (x := x) (v := v) h
    exact .inr ⟨x, t, rfl, e⟩
theorem Zy8 (a b : Int) : decide ((Sum.inl a : Key) = Sum.inl b) = (a == b) := by
  by_cases e : a = b
  · subst e; simp
  · have h : ¬ (Sum.inl a : Key) = Sum.inl b := fun q => e (Sum.inl.inj q)
    rw [decide_eq_false h]
    exact (beq_eq_false_iff_ne.mpr e).symm
theorem Zzo (a b : Str) : decide ((Sum.inr a : Key) = Sum.inr b) = decide (a = b) := by
  by_cases e : a = b
  · subst e; simp
  · have h : ¬ (Sum.inr a : Key) = Sum.inr b := fun q => e (Sum.inr.inj q)
    rw [decide_eq_false h, decide_eq_false e]
theorem Zyj (a : Int) (b : Str) : decide ((Sum.inl a : Key) = Sum.inr b) = false := decide_eq_false (fun q => nomatch q)
theorem Zzv (a : Str) (b : Int) : decide ((Sum.inr a : Key) = Sum.inl b) = false := decide_eq_false (fun q => nomatch q)
noncomputable def Zlk (prog : Program) (w : World) : PySem.KeyKind prog w Key where
  is := Z04
  hash := Z7c w
  inj := fun v a b ha hb => by
    rcases Wu ha with ⟨i, t, rfl, rfl⟩ | ⟨x, t, rfl, rfl⟩
    · rcases Wu hb with ⟨j, u, rfl, e⟩ | ⟨y, u, rfl, e⟩
      · injection e with e1 _; rw [e1]
      · exact nomatch e
    · rcases Wu hb with ⟨j, u, rfl, e⟩ | ⟨y, u, rfl, e⟩
      · exact nomatch e
      · injection e with e1 _; rw [e1]
  byValue := fun k v h => by
    rcases Wu h with ⟨i, t, rfl, rfl⟩ | ⟨x, t, rfl, rfl⟩ <;> rfl
  pyHash := fun hv h => by
    rcases Wu hv with ⟨i, t, rfl, rfl⟩ | ⟨x, t, rfl, rfl⟩
    · exact wpAny_pyHash_int h
    · exact wpAny_pyHash_str h
  eqBool := fun hu hv h => by
    rcases Wu hu with ⟨i, t, rfl, rfl⟩ | ⟨x, t, rfl, rfl⟩
    · rcases Wu hv with ⟨j, u, rfl, rfl⟩ | ⟨y, u, rfl, rfl⟩
      · rw [Zy8] at h; exact wpAny_eqBool_int h
      · rw [Zyj] at h; exact SeqAt.EqAt.int_str i t y u _ _ _ _ h
    · rcases Wu hv with ⟨j, u, rfl, rfl⟩ | ⟨y, u, rfl, rfl⟩
      · rw [Zzv] at h; exact SeqAt.EqAt.str_int x t j u _ _ _ _ h
      · rw [Zzo] at h; exact wpAny_eqBool_str h
  «strs» := fun k x t v h => by
    rcases Wu h with ⟨i, u, rfl, e⟩ | ⟨y, u, rfl, e⟩
    · exact nomatch e
    · injection e with e1 _
      subst e1
      cases v <;> rfl
end L2
namespace L2
open PySem PySem.Spec PyProof.Rows
inductive V where
  | non | bl (b : Bool) | int (i : Int) | str (x : Str) | byt (b : Array UInt8) | flt (b : UInt64) | ref (a : Addr) | ty (n : String)
noncomputable def RelV : V → Value → Prop
  | .non, u => u = Value.none
  | .bl b, u => u = Value.bool b
  | .int i, u => ∃ t, u = Value.int i t
  | .str x, u => ∃ t, u = Value.str x t
  | .byt b, u => ∃ t, u = Value.bytes b t
  | .flt b, u => ∃ t, u = Value.float b t
  | .ref a, u => u = Value.ref a
  | .ty n, u => u = Value.type n
noncomputable abbrev Vals : List V → List Value → Prop := Paired RelV
theorem Vals.length {xs : List V} {us : List Value} (r : Vals xs us) : xs.length = us.length := Paired.length r
theorem Vals.get {xs : List V} {us : List Value} {i : Nat} {x : V} (h : Vals xs us) (e : xs[i]? = some x) : ∃ u, us[i]? = some u ∧ RelV x u := by
  induction h generalizing i with
  | nil => exact (Option.some_ne_none _ (e.symm.trans List.getElem?_nil)).elim
  | cons r t ih =>
    cases i with
    | zero => exact ⟨_, rfl, Option.some.inj e ▸ r⟩
    | succ i => exact ih e
theorem Vals.set {x : V} {u : Value} (r : RelV x u) {xs : List V} {us : List Value} (i : Nat) (h : Vals xs us) : Vals (xs.set i x) (us.set i u) := by
  induction h generalizing i with
  | nil => exact .nil
  | cons q t ih =>
    cases i with
    | zero => exact .cons r t
    | succ i => exact .cons q (ih i)
theorem Vals.append {xs ys : List V} {us ws : List Value} (h : Vals xs us) (s : Vals ys ws) : Vals (xs ++ ys) (us ++ ws) := by
  induction h with
  | nil => exact s
  | cons r t ih => exact .cons r ih
theorem Vals.take {xs : List V} {us : List Value} (n : Nat) (h : Vals xs us) : Vals (xs.take n) (us.take n) := by
  induction h generalizing n with
  | nil => rw [List.take_nil, List.take_nil]; exact .nil
  | cons r t ih =>
    cases n with
    | zero => exact .nil
    | succ n => exact .cons r (ih n)
theorem Vals.drop {xs : List V} {us : List Value} (n : Nat) (h : Vals xs us) : Vals (xs.drop n) (us.drop n) := by
  induction h generalizing n with
  | nil => rw [List.drop_nil, List.drop_nil]; exact .nil
  | cons r t ih =>
    cases n with
    | zero => exact .cons r t
    | succ n => exact ih n
noncomputable def Z4n : Option V → Option Value → Prop
  | some v, some u => RelV v u
  | none, none => True
  | _, _ => False
noncomputable def KV {κ : Type} : List (κ × V) → List (κ × Value) → Prop := Paired fun (p : κ × V) (q : κ × Value) => p.1 = q.1 ∧ RelV p.2 q.2
noncomputable def kV : Key → V
  | .inl i => .int i
  | .inr x => .str x
inductive HO where
    | lst (xs : List V)
    | tup (xs : List V)
    | dK (kvs : List (Key × V)) | dT (kvs : List (List Key × V))
    | set (S : Int → Bool) (n : Nat)
    | ins (C dx : Addr) (fs : List (Str × V))
    | own (x : Addr)
    | xd (fs : List (Str × V))
    | met (f x : Addr)
    | rng (lo hi : Int)
    | frz (o : Obj) (u : HO)
    | tbl (ps : Array Value)
    | ext (φ : Heap → Prop)
noncomputable abbrev Hp := Addr → Option HO
noncomputable def upd (H : Hp) (a : Addr) (o : HO) : Hp := fun b => if b = a then some o else H b
theorem Y7 {H : Hp} {a : Addr} {o : HO} : upd H a o a = some o := by unfold upd; rw [if_pos rfl]
theorem Yl {H : Hp} {a b : Addr} {o : HO} (h : b ≠ a) : upd H a o b = H b := by unfold upd; rw [if_neg h]
theorem Ws {H : Hp} {a b : Addr} {o : HO} (h : H a = some o) (h' : H b = none) : a ≠ b := by
  intro e; subst e; rw [h] at h'; cases h'
section
variable (P : Program) (w : World)
noncomputable def ObjOk (H : Hp) (h : Heap) (a : Addr) : HO → Prop
  | .lst xs => xs.length ≤ sizeLine ∧ ∃ (its : List Value) (n : Nat), Vals xs its ∧ h.get? a = some { cls := .type "list", data := .seq its.toArray n }
  | .tup xs => xs.length ≤ sizeLine ∧ ∃ its : List Value, Vals xs its ∧ IsTup h a its.toArray
  | .dK kvs => kvs.length ≤ sizeLine ∧ (a == sysModules) = false ∧ ∃ vs, KV kvs vs ∧ h.DictOf (Zlk P w) a vs
  | .dT kvs => kvs.length ≤ sizeLine ∧ (a == sysModules) = false ∧ ∃ xs : List (List Key × Addr × Value),
      Paired (fun (p : List Key × V) (q : List Key × Addr × Value) => p.1 = q.1 ∧ H q.2.1 = some (.tup (p.1.map kV)) ∧ RelV p.2 q.2.2) kvs xs ∧
      ∃ o es ep, h.get? a = some o ∧ o.ExactDict ∧ o.data = .dict es ep ∧ es.toList = xs.map (entryOfKey (tupleKind (Zlk P w))) ∧ (xs.map (·.1)).Nodup
  | .set S n => h.SetOf (intKind P w) a S n
  | .ins C dx fs => H dx = some (.own a) ∧ fs.length ≤ 1000 ∧ dx ≠ a ∧ h.get? a = some (PySem.W.instObj C dx) ∧
      ∃ mA, h.Ns1 dx mA ∧ (∀ f, Z4n (fs.lookup f) (mA f)) ∧ PySem.Within mA (fs.map (·.1))
  | .own _ => ∃ o, h.get? a = some o
  | .xd fs => ∃ mA, h.Ns1 a mA ∧ ∀ f, Z4n (fs.lookup f) (mA f)
  | .rng lo hi => ∃ t u v, h.get? a = some { cls := .type "range", data := .fields #[.int lo t, .int hi u, .int 1 v] }
  | .frz o u => h.get? a = some o ∧ ObjOk H h a u
  | .tbl ps => h.get? a = some { cls := .none, data := .fields ps }
  | .met f x => h.get? a = some (PySem.W.methodObj (.ref f) (.ref x))
  | .ext φ => φ h ∧ (∃ o, h.get? a = some o) ∧ ∀ h1 h2 : Heap, φ h1 → (∀ o, h1.get? a = some o → h2.get? a = some o) → φ h2
noncomputable def HOk (H : Hp) (h : Heap) : Prop := ∀ a o, H a = some o → ObjOk P w H h a o
end
section
variable {P : Program} {w : World} {H H' : Hp} {h h' : Heap} {a : Addr} {o : HO}
theorem ObjOk.lt (x : ObjOk P w H h a o) : a < h.objs.size := by
  cases o with
  | lst xs => obtain ⟨_, _, _, _, e⟩ := x; exact Heap.lt_size e
  | tup xs => obtain ⟨_, _, _, p⟩ := x; exact p.lt
  | dK kvs => obtain ⟨_, _, _, _, o, _, _, e, _⟩ := x; exact Heap.lt_size e
  | dT kvs => obtain ⟨_, _, _, _, o, _, _, e, _⟩ := x; exact Heap.lt_size e
  | set S n => obtain ⟨o, _, _, _, e, _⟩ := x; exact Heap.lt_size e
  | ins C dx fs => obtain ⟨_, _, _, e, _⟩ := x; exact Heap.lt_size e
  | own y => obtain ⟨_, e⟩ := x; exact Heap.lt_size e
  | xd fs => obtain ⟨_, ⟨_, _, _, e, _⟩, _⟩ := x; exact Heap.lt_size e
  | rng lo hi => obtain ⟨_, _, _, e⟩ := x; exact Heap.lt_size e
  | frz ob u => obtain ⟨e, _⟩ := x; exact Heap.lt_size e
  | tbl ps => exact Heap.lt_size (show h.get? a = some _ from x)
  | met f y => exact Heap.lt_size (show h.get? a = some _ from x)
  | ext φ => obtain ⟨_, ⟨_, e⟩, _⟩ := x; exact Heap.lt_size e
theorem Paired.mapP {α β : Type} {F G : α → β → Prop} {l₁ : List α} {l₂ : List β} (h : Paired F l₁ l₂) (f : ∀ a b, F a b → G a b) : Paired G l₁ l₂ := by
  induction h with
  | nil => exact .nil
  | cons r t ih => exact .cons (f _ _ r) ih
theorem ObjOk.stay (x : ObjOk P w H h a o) (k : ∀ b u, (b = a ∨ H b = some (.own a)) → h.get? b = some u → h'.get? b = some u)
    (ho : ∀ b, H b = some (.own a) → H' b = some (.own a)) (ht : ∀ b xs, H b = some (.tup xs) → H' b = some (.tup xs)) : ObjOk P w H' h' a o := by
  induction o with
  | lst xs => obtain ⟨z, its, n, r, e⟩ := x; exact ⟨z, its, n, r, k _ _ (.inl rfl) e⟩
  | tup xs => obtain ⟨z, its, r, ob, e, c⟩ := x; exact ⟨z, its, r, ob, k _ _ (.inl rfl) e, c⟩
  | dK kvs => obtain ⟨z, y, vs, r, ob, es, ep, e, c⟩ := x; exact ⟨z, y, vs, r, ob, es, ep, k _ _ (.inl rfl) e, c⟩
  | dT kvs =>
    obtain ⟨z, y, xs, r, ob, es, ep, e, c⟩ := x
    exact ⟨z, y, xs, Paired.mapP r fun p q z => ⟨z.1, ht _ _ z.2.1, z.2.2⟩, ob, es, ep, k _ _ (.inl rfl) e, c⟩
  | set S n => obtain ⟨ob, es, ep, t, e, c⟩ := x; exact ⟨ob, es, ep, t, k _ _ (.inl rfl) e, c⟩
  | ins C dx fs =>
    obtain ⟨d, z, ne, e, mA, ⟨od, es, ep, e2, c⟩, r⟩ := x
    exact ⟨ho _ d, z, ne, k _ _ (.inl rfl) e, mA, ⟨od, es, ep, k _ _ (.inr d) e2, c⟩, r⟩
  | own y => obtain ⟨ob, e⟩ := x; exact ⟨ob, k _ _ (.inl rfl) e⟩
  | xd fs => obtain ⟨mA, ⟨od, es, ep, e, c⟩, r⟩ := x; exact ⟨mA, ⟨od, es, ep, k _ _ (.inl rfl) e, c⟩, r⟩
  | rng lo hi => obtain ⟨t, u, v, e⟩ := x; exact ⟨t, u, v, k _ _ (.inl rfl) e⟩
  | frz ob u ih => obtain ⟨e, q⟩ := x; exact ⟨k _ _ (.inl rfl) e, ih q⟩
  | tbl ps =>
    have e : h.get? a = some { cls := .none, data := .fields ps } := x
    show h'.get? a = some { cls := .none, data := .fields ps }
    exact k a _ (.inl rfl) e
  | met f y =>
    have e : h.get? a = some (PySem.W.methodObj (.ref f) (.ref y)) := x
    show h'.get? a = some (PySem.W.methodObj (.ref f) (.ref y))
    exact k a _ (.inl rfl) e
  | ext φ => obtain ⟨p, ⟨o, e⟩, st⟩ := x; exact ⟨st _ _ p fun o q => k _ _ (.inl rfl) q, ⟨o, k _ _ (.inl rfl) e⟩, st⟩
theorem HOk.lt (x : HOk P w H h) (e : H a = some o) : a < h.objs.size := (x a o e).lt
theorem HOk.fresh (x : HOk P w H h) (e : h.objs.size ≤ a) : H a = none := by
  cases q : H a with
  | none => rfl
  | some u => exact absurd (Nat.lt_of_lt_of_le (x.lt q) e) (Nat.lt_irrefl _)
theorem HOk.kept (x : HOk P w H h) (k : ∀ b u, h.get? b = some u → h'.get? b = some u) : HOk P w H h' := fun a o e =>
  (x a o e).stay (fun b u _ q => k b u q) (fun _ q => q) fun _ _ q => q
theorem HOk.laid (x : HOk P w H h) (k : ∀ b u, h.get? b = some u → h'.get? b = some u) (hp : h.objs.size ≤ a) (new : ObjOk P w (upd H a o) h' a o) : HOk P w (upd H a o) h' := fun b u e => by
  have hn := x.fresh hp
  by_cases hb : b = a
  · subst hb; rw [Y7] at e; cases e; exact new
  · rw [Yl hb] at e
    exact (x b u e).stay (fun c v _ q => k c v q) (fun c q => by rw [Yl (Ws q hn)]; exact q) fun c xs q => by rw [Yl (Ws q hn)]; exact q
end
noncomputable def Rd (H : Hp) (a : Addr) (u : HO) : Prop := H a = some u ∨ ∃ o, H a = some (.frz o u)
theorem Rd.ok {P : Program} {w : World} {H : Hp} {h : Heap} {a : Addr} {u : HO} (r : Rd H a u) (x : HOk P w H h) : ObjOk P w H h a u := by
  rcases r with r | ⟨o, r⟩
  · exact x a u r
  · obtain ⟨_, q⟩ := x a _ r
    exact q
noncomputable def Mut : Option HO → Prop
  | some (.lst _) => True
  | some (.dK _) => True
  | some (.dT _) => True
  | some (.set _ _) => True
  | some (.ins _ _ _) => True
  | some (.ext _) => True
  | _ => False
section
variable {P : Program} {w : World} {H : Hp} {h h' : Heap} {x e : Addr} {o' : HO}
theorem HOk.write (ok : HOk P w H h) (mu : Mut (H x)) (he : e = x ∨ H e = some (.own x)) (k : ∀ b u, b ≠ e → h.get? b = some u → h'.get? b = some u) (heo : ∃ u, h'.get? e = some u)
    (new : ObjOk P w (upd H x o') h' x o') : HOk P w (upd H x o') h' := fun b u q => by
  have nown : ∀ c y, H c = some (.own y) → c ≠ x := fun c y r z => by subst z; rw [r] at mu; exact mu
  have ntup : ∀ c xs, H c = some (.tup xs) → c ≠ x := fun c xs r z => by subst z; rw [r] at mu; exact mu
  by_cases hb : b = x
  · subst hb; rw [Y7] at q; cases q; exact new
  · rw [Yl hb] at q
    by_cases hbe : b = e
    · have q' : H b = some (.own x) := by
        rcases he with z | z
        · exact absurd (hbe.trans z) hb
        · rw [hbe]; exact z
      rw [q] at q'; cases q'
      obtain ⟨v, hv⟩ := heo
      exact ⟨v, by rw [hbe]; exact hv⟩
    · refine (ok b u q).stay (fun c v hc r => k c v ?_ r) (fun c r => by rw [Yl (nown c b r)]; exact r) fun c xs r => by rw [Yl (ntup c xs r)]; exact r
      rcases hc with rfl | hc
      · exact hbe
      · rintro rfl
        rcases he with z | z
        · exact nown c b hc z
        · rw [hc] at z; cases z; exact hb rfl
end
structure Un (fs ex : List Addr) (H H' : Hp) (h h' : Heap) : Prop where
  keep : ∀ b o, h.get? b = some o → H b = none → b ∉ fs → b ∉ ex → h'.get? b = some o
  slot : ∀ b o, h.get? b = some o → H b = none → b ∈ fs → b ∉ ex → ∃ sl, h'.get? b = some { o with slots := sl }
  free : ∀ b o, h.get? b = some o → H b = none → b ∉ ex → H' b = none
  there : ∀ b o, h.get? b = some o → b ∉ ex → ∃ o', h'.get? b = some o'
  tups : ∀ b xs, H b = some (.tup xs) → H' b = some (.tup xs)
  frzs : ∀ b o u, H b = some (.frz o u) → H' b = some (.frz o u)
  tbls : ∀ b ps, H b = some (.tbl ps) → ∃ more, H' b = some (.tbl (ps ++ more))
section
variable {fs fs' ex ex' : List Addr} {H H1 H2 : Hp} {h h1 h2 h' : Heap} {a x e : Addr} {o : HO}
theorem Un.any (u : Un fs ex H H1 h h1) {b : Addr} {ob : Obj} (q : h.get? b = some ob) (n : H b = none) (hx : b ∉ ex) : ∃ sl, h1.get? b = some { ob with slots := sl } := by
  by_cases hb : b ∈ fs
  · exact u.slot b ob q n hb hx
  · exact ⟨ob.slots, u.keep b ob q n hb hx⟩
theorem Un.kept (k : ∀ b u, h.get? b = some u → h'.get? b = some u) : Un fs ex H H h h' :=
  ⟨fun b ob q _ _ _ => k b ob q, fun b ob q _ _ _ => ⟨ob.slots, k b ob q⟩, fun _ _ _ n _ => n, fun b ob q _ => ⟨ob, k b ob q⟩, fun _ _ q => q, fun _ _ _ q => q, fun _ ps q => ⟨#[], by rw [q]; simp⟩⟩
theorem Un.refl : Un fs ex H H h h := Un.kept fun _ _ q => q
theorem Un.laid (k : ∀ b u, h.get? b = some u → h'.get? b = some u) (hp : h.objs.size ≤ a) (hn : H a = none) : Un fs ex H (upd H a o) h h' where
  keep := fun b u q _ _ _ => k b u q
  slot := fun b u q _ _ _ => ⟨u.slots, k b u q⟩
  free := fun b u q n _ => by rw [Yl (Nat.ne_of_lt (Nat.lt_of_lt_of_le (Heap.lt_size q) hp))]; exact n
  there := fun b u q _ => ⟨u, k b u q⟩
  tups := fun b xs q => by rw [Yl (Ws q hn)]; exact q
  frzs := fun b u xs q => by rw [Yl (Ws q hn)]; exact q
  tbls := fun b ps q => ⟨#[], by rw [Yl (Ws q hn), q]; simp⟩
theorem Un.write (mu : Mut (H x)) (he : e = x ∨ H e = some (.own x)) (k : ∀ b u, b ≠ e → h.get? b = some u → h'.get? b = some u) (heo : ∃ u, h'.get? e = some u) : Un fs ex H (upd H x o) h h' := by
  have hx : ∀ b, H b = none → b ≠ x := fun b n z => by subst z; rw [n] at mu; exact mu
  have hb : ∀ b, H b = none → b ≠ e := fun b n z => by
    subst z
    rcases he with r | r
    · exact hx b n r
    · rw [n] at r; cases r
  have hm : ∀ b u, H b = some u → ¬ Mut (some u) → b ≠ x := fun b u q nm z => by subst z; rw [q] at mu; exact nm mu
  refine ⟨fun b u q n _ _ => k b u (hb b n) q, fun b u q n _ _ => ⟨u.slots, k b u (hb b n) q⟩, fun b u q n _ => by rw [Yl (hx b n)]; exact n, fun b u q _ => ?_,
    fun b xs q => by rw [Yl (hm b _ q fun z => z)]; exact q, fun b u xs q => by rw [Yl (hm b _ q fun z => z)]; exact q, fun b ps q => ⟨#[], by rw [Yl (hm b _ q fun z => z), q]; simp⟩⟩
  by_cases hbe : b = e
  · subst hbe; exact heo
  · exact ⟨u, k b u hbe q⟩
end
noncomputable def trk (h : Heap) (H : Hp) : List Addr := (List.range h.objs.size).filter fun a => (H a).isSome
noncomputable def Zsp (h : Heap) (H : Hp) : Heap := PySem.W.hideAll h (trk h H)
theorem Zpb (h : Heap) (H : Hp) : (Zsp h H).objs.size = h.objs.size := PySem.W.hideAll_size _ _
theorem Zs6 {h : Heap} {H : Hp} {b : Addr} {o : Obj} (e : h.get? b = some o) (n : H b = none) : (Zsp h H).get? b = some o :=
  PySem.W.hideAll_get _ e fun hm => by
    have q : (H b).isSome = true := (List.mem_filter.mp hm).2
    rw [n] at q; simp at q
theorem Zut {h : Heap} {H : Hp} {b : Addr} {o : Obj} (e : (Zsp h H).get? b = some o) : h.get? b = some o ∧ H b = none := by
  have e' : h.get? b = some o := PySem.W.of_hideAll (trk h H) e
  refine ⟨e', ?_⟩
  cases q : H b with
  | none => rfl
  | some x =>
    have hm : b ∈ trk h H := List.mem_filter.mpr ⟨List.mem_range.mpr (Heap.lt_size e'), by simp [q]⟩
    have z : (Zsp h H).get? b = none := PySem.W.hideAll_none (trk h H) hm
    rw [z] at e; cases e
noncomputable def Zu9 (g h : Heap) (L : Addr) : List (Addr × Obj) := (List.range h.objs.size).filterMap fun a => if a = L ∨ (g.get? a).isSome = true then none else (h.get? a).map fun o => (a, o)
noncomputable def rest (g h : Heap) (L d : Addr) : List (Addr × Obj) := (Zu9 g h L).filter fun p => decide (p.1 ≠ d)
end L2
namespace L2
open PySem PySem.Spec PyProof.Rows
structure Mod (K : PySem.W.Frag) (mg : Str → Option Value) (base : Heap) : Prop where
  kin : K.In base
  glob : base.Ns mainGlobals mg
  blt : ∃ mb, base.Ns builtinsNs mb ∧ ∀ x : Str, x ≠ "__name__" → mb x = bootBuiltins x
  nolimit : base.NoLimit
set_option genInjectivity false in
structure Cx where
  prog : Program
  w : World
  K : PySem.W.Frag
  mg : Str → Option Value
  base : Heap
  A : Around
  N : List Str
  s₀ : Shared
  H₀ : Hp
  env : Env
  outer : List Env
  stack : List Env
  ex : List Addr
  fn : Str → Bool
  calm : Bool
  pn : List (Addr × Obj)
  xe : Value → Shared → Prop
noncomputable def frs (l : List Env) : List Addr := l.filterMap (·.frame)
noncomputable abbrev Cx.fs (X : Cx) : List Addr := frs X.outer
noncomputable def Vis (sc : Scope) (x : Str) : Prop := sc.names.lookup x = some .local ∨ sc.names.lookup x = some .cell ∨ sc.names.lookup x = some .free
noncomputable def Loc (sc : Scope) (x : Str) : Prop := sc.names.lookup x = some .local ∨ sc.names.lookup x = some .cell
noncomputable def Look (env : Env) (h : Heap) (m : Str → Option Value) (x : Str) (u : Value) : Prop :=
  (env.kindOf x = some .local ∧ m x = some u) ∨ ((env.kindOf x = some .cell ∨ env.kindOf x = some .free) ∧ ∃ c, env.cells.lookup x = some c ∧ h.IsCell c (some u))
structure Cx.Ok (X : Cx) : Prop where
  mod : Mod X.K X.mg X.base
  kind : X.env.scope.kind = .function
  glob : X.env.globals = mainGlobals
  blt : X.env.builtins = builtinsNs
  above : X.s₀.heap.objs.size ≤ X.env.locals
  inj : ∀ x y c, X.env.cells.lookup x = some c → X.env.cells.lookup y = some c → x = y
  has : ∀ x, (X.env.kindOf x = some .cell ∨ X.env.kindOf x = some .free) → ∃ c, X.env.cells.lookup x = some c
  cab : ∀ x c, X.fn x = true → X.env.cells.lookup x = some c → X.s₀.heap.objs.size ≤ c
  hd : X.calm = true → X.A.handled = none
  frames : X.A.frames = some X.stack
  stk : X.stack = X.outer ∨ (X.stack = X.env :: X.outer ∧ X.env.frame = some X.env.locals)
  exf : ∀ b ∈ X.ex, b ≠ X.env.locals ∧ ∀ x c, X.env.cells.lookup x = some c → c ≠ b
  bs : ∀ b o, X.base.get? b = some o → X.s₀.heap.get? b = some o ∧ X.H₀ b = none
  bsz : X.base.objs.size ≤ X.s₀.heap.objs.size
  noex : ∀ b o, X.base.get? b = some o → b ∉ X.ex
  exfs : ∀ b ∈ X.ex, b ∉ X.fs
  funs : X.s₀.heap.FunFrames X.base X.outer
  frf : ∀ b ∈ X.fs, X.H₀ b = none
structure Inv (X : Cx) (pins : List (Addr × Obj)) (σ : List (Option V)) (H : Hp) (s : Shared) : Prop where
  ok : X.Ok
  os : s.os = X.s₀.os
  bare : AllBare s.gens
  base : Un X.fs X.ex X.H₀ H X.s₀.heap s.heap
  loc : ∃ m, s.heap.Ns X.env.locals m ∧ ∀ (i : Nat) (x : Str) (v : V), X.N[i]? = some x → σ[i]? = some (some v) → Vis X.env.scope x → ∃ u, RelV v u ∧ Look X.env s.heap m x u
  cell : ∀ x c, X.env.cells.lookup x = some c → ∃ v, s.heap.IsCell c v
  free : H X.env.locals = none
  freeC : ∀ x c, X.env.cells.lookup x = some c → H c = none
  pin : ∀ p ∈ X.pn ++ pins, s.heap.get? p.1 = some p.2 ∧ H p.1 = none ∧ p.1 ≠ X.env.locals ∧ p.1 ∉ X.fs ∧ ∀ v, p.2.data ≠ .cell v
  hok : HOk X.prog X.w H s.heap
  len : σ.length = X.N.length
section
variable {X : Cx} {pins : List (Addr × Obj)} {σ : List (Option V)} {H H' : Hp} {s : Shared} {h' : Heap}
theorem Cx.Ok.nofr (ok : X.Ok) {b : Addr} {o : Obj} (e : X.base.get? b = some o) : b ∉ X.fs := fun hb => by
  have := (ok.funs.mem hb).1
  rw [e] at this; cases this
theorem Inv.bs (I : Inv X pins σ H s) : ∀ b o, X.base.get? b = some o → s.heap.get? b = some o ∧ H b = none := fun b o e =>
  ⟨I.base.keep b o (I.ok.bs b o e).1 (I.ok.bs b o e).2 (I.ok.nofr e) (I.ok.noex b o e), I.base.free b o (I.ok.bs b o e).1 (I.ok.bs b o e).2 (I.ok.noex b o e)⟩
theorem Inv.bk (I : Inv X pins σ H s) : ∀ b o, X.base.get? b = some o → s.heap.get? b = some o := fun b o e => (I.bs b o e).1
theorem Inv.mod (I : Inv X pins σ H s) : Mod X.K X.mg X.base := I.ok.mod
theorem Inv.kIn (I : Inv X pins σ H s) : X.K.In s.heap := I.ok.mod.kin.keeps I.bk
theorem Inv.lt (I : Inv X pins σ H s) : X.env.locals < s.heap.objs.size := let ⟨_, hn, _⟩ := I.loc; hn.lt
theorem Inv.sz (I : Inv X pins σ H s) : X.s₀.heap.objs.size ≤ s.heap.objs.size := Nat.le_trans I.ok.above (Nat.le_of_lt I.lt)
theorem Inv.nofs (I : Inv X pins σ H s) {a : Addr} (h : s.heap.objs.size ≤ a) : a ∉ X.fs := fun hb => by
  obtain ⟨_, o, ho, _⟩ := I.ok.funs.mem hb
  exact absurd (Nat.lt_of_lt_of_le (Heap.lt_size ho) (Nat.le_trans I.sz h)) (Nat.lt_irrefl _)
theorem Inv.cne (I : Inv X pins σ H s) : ∀ x c, X.env.cells.lookup x = some c → c ≠ X.env.locals := fun x c e z => by
  obtain ⟨v, o, ho, hd⟩ := I.cell x c e
  obtain ⟨m, ⟨o', es, ep, ho', hd', _⟩, _⟩ := I.loc
  rw [z, ho'] at ho; cases ho; rw [hd'] at hd; cases hd
theorem Inv.funs (I : Inv X pins σ H s) : s.heap.FunFrames X.base X.outer := by
  have all : ∀ (l : List Env), (∀ b ∈ frs l, b ∈ X.fs) → X.s₀.heap.FunFrames X.base l → s.heap.FunFrames X.base l := by
    intro l
    induction l with
    | nil => intro _ _; trivial
    | cons env r ih =>
      intro hs hl
      obtain ⟨hk, ⟨L, o, hf, hn, ho, hd⟩, hr⟩ := hl
      have hL : L ∈ X.fs := hs L (by unfold frs; rw [List.filterMap_cons, hf]; exact List.mem_cons_self)
      obtain ⟨sl, e⟩ := I.base.slot L o ho (I.ok.frf L hL) hL fun z => I.ok.exfs L z hL
      exact ⟨hk, ⟨L, _, hf, hn, e, hd⟩, ih (fun b hb => hs b (by unfold frs; rw [List.filterMap_cons, hf]; exact List.mem_cons_of_mem _ hb)) hr⟩
  exact all X.outer (fun _ hb => hb) I.ok.funs
theorem Inv.stack (I : Inv X pins σ H s) : s.heap.FunFrames X.base X.stack := by
  rcases I.ok.stk with e | ⟨e, hf⟩
  · rw [e]; exact I.funs
  · rw [e]
    obtain ⟨m, hn, _⟩ := I.loc
    refine .cons (by rw [I.ok.kind]; decide) hf hn ?_ I.funs
    exact Heap.get?_none_of_le (Nat.le_trans I.ok.bsz I.ok.above)
theorem Inv.stkSub (I : Inv X pins σ H s) : ∀ b ∈ frs X.stack, b ∈ X.env.locals :: X.fs := fun b hb => by
  rcases I.ok.stk with e | ⟨e, hf⟩
  · rw [e] at hb; exact List.mem_cons_of_mem _ hb
  · rw [e] at hb
    unfold frs at hb
    rw [List.filterMap_cons, hf] at hb
    exact hb
theorem Inv.stkFree (I : Inv X pins σ H s) : ∀ b ∈ frs X.stack, H b = none := fun b hb => by
  rcases List.mem_cons.mp (I.stkSub b hb) with e | hb
  · rw [e]; exact I.free
  · obtain ⟨_, o, ho, _⟩ := I.ok.funs.mem hb
    exact I.base.free b o ho (I.ok.frf b hb) fun z => I.ok.exfs b z hb
theorem Inv.step {g' : Array GenState} {t' : Nat} {d' : Drawn} {ch : List Addr} (I : Inv X pins σ H s)
    (hch : ∀ b ∈ ch, (b ∈ X.ex ∨ X.s₀.heap.objs.size ≤ b) ∧ b ≠ X.env.locals ∧ (∀ x c, X.env.cells.lookup x = some c → c ≠ b) ∧ ∀ p ∈ X.pn ++ pins, p.1 ≠ b)
    (keep : ∀ b o, b ≠ X.env.locals → b ∉ X.fs → b ∉ ch → s.heap.get? b = some o → H b = none → h'.get? b = some o)
    (slot : ∀ b o, b ≠ X.env.locals → b ∈ X.fs → b ∉ ch → s.heap.get? b = some o → H b = none → ∃ sl, h'.get? b = some { o with slots := sl }) (free : ∀ b o, b ∉ ch → s.heap.get? b = some o → H b = none → H' b = none)
    (there : ∀ b o, b ∉ ch → s.heap.get? b = some o → ∃ o', h'.get? b = some o')
    (tups : ∀ b xs, H b = some (.tup xs) → H' b = some (.tup xs)) (frzs : ∀ b o u, H b = some (.frz o u) → H' b = some (.frz o u)) (tbls : ∀ b ps, H b = some (.tbl ps) → ∃ more, H' b = some (.tbl (ps ++ more)))
    (ns : ∀ m, s.heap.Ns X.env.locals m → h'.Ns X.env.locals m) (hok : HOk X.prog X.w H' h') (hg : AllBare g') :
    Inv X pins σ H' { s with heap := h', gens := g', drawn := d', toks := t' } := by
  have neL : ∀ b o, X.s₀.heap.get? b = some o → b ≠ X.env.locals := fun b o e => Nat.ne_of_lt (Nat.lt_of_lt_of_le (Heap.lt_size e) I.ok.above)
  have neC : ∀ b o, X.s₀.heap.get? b = some o → b ∉ X.ex → b ∉ ch := fun b o e hx hb => by
    rcases (hch b hb).1 with z | z
    · exact hx z
    · exact absurd (Nat.lt_of_lt_of_le (Heap.lt_size e) z) (Nat.lt_irrefl _)
  have cellK : ∀ x c, X.env.cells.lookup x = some c → ∀ v, s.heap.IsCell c v → h'.IsCell c v := fun x c e v ⟨o, ho, hd⟩ => by
    have nch : c ∉ ch := fun z => (hch c z).2.2.1 x c e rfl
    by_cases hc : c ∈ X.fs
    · obtain ⟨sl, q⟩ := slot c o (I.cne x c e) hc nch ho (I.freeC x c e)
      exact ⟨_, q, hd⟩
    · exact ⟨o, keep c o (I.cne x c e) hc nch ho (I.freeC x c e), hd⟩
  refine ⟨I.ok, I.os, hg, ⟨fun b o e n hb hx => ?_, fun b o e n hb hx => ?_, fun b o e n hx => ?_, fun b o e hx => ?_, fun b xs e => tups b xs (I.base.tups b xs e), fun b o xs e => frzs b o xs (I.base.frzs b o xs e), fun b ps e => ?_⟩, ?_, fun x c e => ?_, ?_, fun x c e => ?_, fun p hp => ?_, hok, I.len⟩
  · exact keep b o (neL b o e) hb (neC b o e hx) (I.base.keep b o e n hb hx) (I.base.free b o e n hx)
  · obtain ⟨sl, e1⟩ := I.base.slot b o e n hb hx
    obtain ⟨sl', e2⟩ := slot b _ (neL b o e) hb (neC b o e hx) e1 (I.base.free b o e n hx)
    exact ⟨sl', e2⟩
  · obtain ⟨o', e1⟩ := I.base.there b o e hx
    exact free b o' (neC b o e hx) e1 (I.base.free b o e n hx)
  · obtain ⟨o', e1⟩ := I.base.there b o e hx
    exact there b o' (neC b o e hx) e1
  · obtain ⟨m1, e1⟩ := I.base.tbls b ps e
    obtain ⟨m2, e2⟩ := tbls b _ e1
    exact ⟨m1 ++ m2, by rw [e2, Array.append_assoc]⟩
  · obtain ⟨m, hn, hl⟩ := I.loc
    refine ⟨m, ns m hn, fun i x v e1 e2 e3 => ?_⟩
    obtain ⟨u, r, l⟩ := hl i x v e1 e2 e3
    refine ⟨u, r, ?_⟩
    rcases l with l | ⟨k, c, e, z⟩
    · exact .inl l
    · exact .inr ⟨k, c, e, cellK x c e _ z⟩
  · obtain ⟨v, z⟩ := I.cell x c e
    exact ⟨v, cellK x c e v z⟩
  · obtain ⟨m, ⟨o, _, _, ho, _⟩, _⟩ := I.loc
    exact free _ o (fun z => (hch _ z).2.1 rfl) ho I.free
  · obtain ⟨v, o, ho, hd⟩ := I.cell x c e
    exact free c o (fun z => (hch c z).2.2.1 x c e rfl) ho (I.freeC x c e)
  · obtain ⟨e, n, ne, nf, d⟩ := I.pin p hp
    have nch : p.1 ∉ ch := fun z => (hch p.1 z).2.2.2 p hp rfl
    exact ⟨keep p.1 p.2 ne nf nch e n, free p.1 p.2 nch e n, ne, nf, d⟩
theorem Inv.un {t' : Nat} (I : Inv X pins σ H s) (u : Un X.fs [] H H' s.heap h') (hok : HOk X.prog X.w H' h') : Inv X pins σ H' { s with heap := h', toks := t' } := by
  obtain ⟨m, ⟨o, es, ep, ho, r⟩, _⟩ := id I.loc
  obtain ⟨sl, hL⟩ := u.any ho I.free (by simp)
  exact I.step (g' := s.gens) (d' := s.drawn) (ch := []) (fun _ z => nomatch z) (fun b o _ hb _ e n => u.keep b o e n hb (by simp)) (fun b o _ hb _ e n => u.slot b o e n hb (by simp)) (fun b o _ e n => u.free b o e n (by simp)) (fun b o _ e => u.there b o e (by simp)) u.tups u.frzs u.tbls (fun m' hm => by
    obtain ⟨o', es', ep', ho', r'⟩ := hm
    rw [ho] at ho'; cases ho'
    exact ⟨_, es', ep', hL, r'⟩) hok I.bare
theorem Inv.call {g' : Array GenState} {t' : Nat} {d' : Drawn} {ch : List Addr} (I : Inv X pins σ H s) (u : Un (frs X.stack) ch H H' s.heap h') (hok : HOk X.prog X.w H' h') (hg : AllBare g')
    (hch : ∀ b ∈ ch, (b ∈ X.ex ∨ X.s₀.heap.objs.size ≤ b) ∧ b ≠ X.env.locals ∧ (∀ x c, X.env.cells.lookup x = some c → c ≠ b) ∧ ∀ p ∈ X.pn ++ pins, p.1 ≠ b) :
    Inv X pins σ H' { s with heap := h', gens := g', drawn := d', toks := t' } := by
  obtain ⟨m, ⟨o, es, ep, ho, r⟩, _⟩ := id I.loc
  obtain ⟨sl, hL⟩ := u.any ho I.free fun z => (hch _ z).2.1 rfl
  exact I.step (ch := ch) hch (fun b o hL hb hc e n => u.keep b o e n (fun z => (List.mem_cons.mp (I.stkSub b z)).elim hL hb) hc) (fun b o _ _ hc e n => u.any e n hc) (fun b o hc e n => u.free b o e n hc) (fun b o hc e => u.there b o e hc) u.tups u.frzs u.tbls (fun m' hm => by
    obtain ⟨o', es', ep', ho', r'⟩ := hm
    rw [ho] at ho'; cases ho'
    exact ⟨_, es', ep', hL, r'⟩) hok hg
theorem Inv.turned {t' : Nat} {it : Addr} (I : Inv X pins σ H s) (k : ∀ b o, b ≠ it → s.heap.get? b = some o → h'.get? b = some o) (hn : H it = none) (hL : it ≠ X.env.locals)
    (h1 : it ∈ X.ex ∨ X.s₀.heap.objs.size ≤ it) (h2 : ∀ x c, X.env.cells.lookup x = some c → c ≠ it) (h3 : ∀ p ∈ X.pn ++ pins, p.1 ≠ it) : Inv X pins σ H { s with heap := h', toks := t' } := by
  have nit : ∀ b u, H b = some u → b ≠ it := fun b u e z => by rw [z, hn] at e; cases e
  refine I.step (g' := s.gens) (d' := s.drawn) (ch := [it]) (fun b hb => ?_) (fun b o _ _ hc e _ => k b o (fun z => hc (by simp [z])) e) (fun b o _ _ hc e _ => ⟨o.slots, k b o (fun z => hc (by simp [z])) e⟩) (fun _ _ _ _ n => n)
    (fun b o hc e => ⟨o, k b o (fun z => hc (by simp [z])) e⟩) (fun _ _ e => e) (fun _ _ _ e => e) (fun b ps e => ⟨#[], by rw [e]; simp⟩) (fun m hm => ?_) (fun b u e => ?_) I.bare
  · have e : b = it := by simpa using hb
    subst e
    exact ⟨h1, hL, h2, h3⟩
  · obtain ⟨o, es, ep, ho, r⟩ := hm
    exact ⟨o, es, ep, k _ o (Ne.symm hL) ho, r⟩
  · refine (I.hok b u e).stay (fun c v hc q => k c v ?_ q) (fun _ q => q) fun _ _ q => q
    rcases hc with z | z
    · rw [z]; exact nit b u e
    · exact nit c _ z
theorem Inv.tok (I : Inv X pins σ H s) (t : Nat) : Inv X pins σ H { s with toks := t } := I.un (h' := s.heap) (t' := t) Un.refl I.hok
theorem Inv.kept {t' : Nat} (I : Inv X pins σ H s) (k : ∀ b u, s.heap.get? b = some u → h'.get? b = some u) : Inv X pins σ H { s with heap := h', toks := t' } := I.un (Un.kept k) (I.hok.kept k)
theorem Inv.laid {a : Addr} {o : HO} {t' : Nat} (I : Inv X pins σ H s) (k : ∀ b u, s.heap.get? b = some u → h'.get? b = some u) (hp : s.heap.objs.size ≤ a) (new : ObjOk X.prog X.w (upd H a o) h' a o) :
    Inv X pins σ (upd H a o) { s with heap := h', toks := t' } := I.un (Un.laid k hp (I.hok.fresh hp)) (I.hok.laid k hp new)
theorem Inv.write {x e : Addr} {o : HO} {t' : Nat} (I : Inv X pins σ H s) (mu : Mut (H x)) (he : e = x ∨ H e = some (.own x)) (k : ∀ b u, b ≠ e → s.heap.get? b = some u → h'.get? b = some u) (heo : ∃ u, h'.get? e = some u)
    (new : ObjOk X.prog X.w (upd H x o) h' x o) : Inv X pins σ (upd H x o) { s with heap := h', toks := t' } := I.un (Un.write mu he k heo) (I.hok.write mu he k heo new)
theorem Inv.pins_of {pins' : List (Addr × Obj)} (I : Inv X pins σ H s) (h : ∀ p ∈ pins', s.heap.get? p.1 = some p.2 ∧ H p.1 = none ∧ p.1 ≠ X.env.locals ∧ p.1 ∉ X.fs ∧ ∀ v, p.2.data ≠ .cell v) : Inv X pins' σ H s :=
  ⟨I.ok, I.os, I.bare, I.base, I.loc, I.cell, I.free, I.freeC, fun p hp => (List.mem_append.mp hp).elim (fun z => I.pin p (List.mem_append_left _ z)) (h p), I.hok, I.len⟩
theorem Zmd {N : List Str} (hN : N.Nodup) {i j : Nat} {x : Str} (a : N[i]? = some x) (b : N[j]? = some x) : i = j := by
  obtain ⟨h1, e1⟩ := List.getElem?_eq_some_iff.mp a
  obtain ⟨h2, e2⟩ := List.getElem?_eq_some_iff.mp b
  exact (List.getElem_inj hN).mp (e1.trans e2.symm)
theorem Zkg {M : Model} {A : Around} {E : Value → Shared → Prop} {i : Nat} {x : Str} {v : V} {u : Value} {Q : Unit → Shared → Prop} (I : Inv X pins σ H s) (hN : X.N.Nodup) (hi : X.N[i]? = some x) (hx : Loc X.env.scope x) (r : RelV v u)
    (h : ∀ s', Inv X pins (σ.set i (some v)) H s' → (∃ a, Heap.SameBut a s.heap s'.heap ∧ (a = X.env.locals ∨ X.env.cells.lookup x = some a)) → Q () s') (hf : X.fn x = true ∨ X.env.scope.names.lookup x = some .local := by first | exact .inl rfl | exact .inr rfl | assumption) : wpAny M A (storeName X.env x u) Q E s := by
  obtain ⟨m, hn, hl⟩ := id I.loc
  have hcls : (X.env.scope.kind == .class || (X.env.scope.kind == .module && X.env.locals != X.env.globals)) = false := by rw [I.ok.kind]; rfl
  have hiσ : i < σ.length := by rw [I.len]; exact (List.getElem?_eq_some_iff.mp hi).1
  have cne := I.cne
  have tracked : ∀ {a : Addr} {h' : Heap}, (∃ o, s.heap.get? a = some o ∧ H a = none) → Heap.SameBut a s.heap h' → HOk X.prog X.w H h' := fun {a h'} ha hs b ob e => by
    obtain ⟨_, _, hfree⟩ := ha
    refine (I.hok b ob e).stay (fun c w' hc q => (hs.2 c ?_).trans q) (fun _ q => q) fun _ _ q => q
    rintro rfl
    rcases hc with rfl | hc
    · rw [hfree] at e; cases e
    · rw [hfree] at hc; cases hc
  rcases hx with hk | hk
  · refine wpAny_storeName_local hk hn (fun h' hn' hs => ?_) hcls
    obtain ⟨oL, _, _, hoL, _⟩ := id hn
    refine h _ ⟨I.ok, I.os, I.bare, ⟨fun b o e n hb hx => ?_, fun b o e n hb hx => ?_, I.base.free, fun b o e hx => ?_, I.base.tups, I.base.frzs, I.base.tbls⟩, ⟨_, hn', fun j y v' e1 e2 e3 => ?_⟩, fun y c e => ?_, I.free, I.freeC, fun p hp => ?_, tracked ⟨oL, hoL, I.free⟩ hs, by simpa using I.len⟩ ⟨_, hs, .inl rfl⟩
    · exact (hs.2 b (Nat.ne_of_lt (Nat.lt_of_lt_of_le (Heap.lt_size e) I.ok.above))).trans (I.base.keep b o e n hb hx)
    · obtain ⟨sl, e1⟩ := I.base.slot b o e n hb hx
      exact ⟨sl, (hs.2 b (Nat.ne_of_lt (Nat.lt_of_lt_of_le (Heap.lt_size e) I.ok.above))).trans e1⟩
    · obtain ⟨o', e1⟩ := I.base.there b o e hx
      exact ⟨o', (hs.2 b (Nat.ne_of_lt (Nat.lt_of_lt_of_le (Heap.lt_size e) I.ok.above))).trans e1⟩
    · by_cases hj : j = i
      · subst hj
        rw [hi] at e1; cases e1
        rw [List.getElem?_set_self hiσ] at e2
        cases e2
        exact ⟨u, r, .inl ⟨hk, by simp⟩⟩
      · rw [List.getElem?_set_ne (Ne.symm hj)] at e2
        obtain ⟨u', r', q⟩ := hl j y v' e1 e2 e3
        refine ⟨u', r', ?_⟩
        rcases q with ⟨k, e⟩ | ⟨k, c, e, z⟩
        · refine .inl ⟨k, ?_⟩
          have : y ≠ x := fun e => hj (Zmd hN e1 (e ▸ hi))
          simp [this, e]
        · exact .inr ⟨k, c, e, z.sameBut hs (cne y c e)⟩
    · obtain ⟨w', z⟩ := I.cell y c e
      exact ⟨w', z.sameBut hs (cne y c e)⟩
    · obtain ⟨e, n, ne, nf, d⟩ := I.pin p hp
      exact ⟨(hs.2 p.1 ne).trans e, n, ne, nf, d⟩
  · have hfn : X.fn x = true := by
      rcases hf with z | z
      · exact z
      · rw [z] at hk; cases hk
    obtain ⟨c, hc⟩ := I.ok.has x (.inl hk)
    obtain ⟨w', z⟩ := I.cell x c hc
    refine wpAny_storeName_cell I.ok.kind hk hc z (fun h' hc' hs => ?_)
    obtain ⟨oc, hoc, hocd⟩ := id z
    refine h { s with heap := h' } ⟨I.ok, I.os, I.bare, ⟨fun b o e n hb hx => ?_, fun b o e n hb hx => ?_, I.base.free, fun b o e hx => ?_, I.base.tups, I.base.frzs, I.base.tbls⟩, ⟨m, hn.sameBut hs (Ne.symm (cne x c hc)), fun j y v' e1 e2 e3 => ?_⟩, fun y c' e => ?_, I.free, I.freeC, fun p hp => ?_, tracked ⟨oc, hoc, I.freeC x c hc⟩ hs, by simpa using I.len⟩ ⟨c, hs, .inr hc⟩
    · exact (hs.2 b (Nat.ne_of_lt (Nat.lt_of_lt_of_le (Heap.lt_size e) (I.ok.cab x c hfn hc)))).trans (I.base.keep b o e n hb hx)
    · obtain ⟨sl, e1⟩ := I.base.slot b o e n hb hx
      exact ⟨sl, (hs.2 b (Nat.ne_of_lt (Nat.lt_of_lt_of_le (Heap.lt_size e) (I.ok.cab x c hfn hc)))).trans e1⟩
    · obtain ⟨o', e1⟩ := I.base.there b o e hx
      exact ⟨o', (hs.2 b (Nat.ne_of_lt (Nat.lt_of_lt_of_le (Heap.lt_size e) (I.ok.cab x c hfn hc)))).trans e1⟩
    · by_cases hj : j = i
      · subst hj
        rw [hi] at e1; cases e1
        rw [List.getElem?_set_self hiσ] at e2
        cases e2
        exact ⟨u, r, .inr ⟨.inl hk, c, hc, hc'⟩⟩
      · rw [List.getElem?_set_ne (Ne.symm hj)] at e2
        obtain ⟨u', r', q⟩ := hl j y v' e1 e2 e3
        refine ⟨u', r', ?_⟩
        rcases q with q | ⟨k, c', e, z'⟩
        · exact .inl q
        · refine .inr ⟨k, c', e, z'.sameBut hs ?_⟩
          rintro rfl
          exact hj (Zmd hN e1 (I.ok.inj _ _ _ e hc ▸ hi))
    · by_cases hcc : c' = c
      · subst hcc; exact ⟨_, hc'⟩
      · obtain ⟨w2, z2⟩ := I.cell y c' e
        exact ⟨w2, z2.sameBut hs hcc⟩
    · obtain ⟨e, n, ne, nf, d⟩ := I.pin p hp
      refine ⟨(hs.2 p.1 ?_).trans e, n, ne, nf, d⟩
      intro q
      rw [q, hoc] at e
      have q' : oc = p.2 := Option.some.inj e
      exact d w' (by rw [← q']; exact hocd)
theorem Zgp {M : Model} {A : Around} {E : Value → Shared → Prop} {i : Nat} {x : Str} {v : V} {u : Value} {Q : Unit → Shared → Prop} (I : Inv X pins σ H s) (hN : X.N.Nodup) (hi : X.N[i]? = some x) (hx : Loc X.env.scope x) (r : RelV v u)
    (h : ∀ s', Inv X pins (σ.set i (some v)) H s' → Q () s') (hf : X.fn x = true ∨ X.env.scope.names.lookup x = some .local := by first | exact .inl rfl | exact .inr rfl | assumption) : wpAny M A (storeName X.env x u) Q E s :=
  Zkg I hN hi hx r (fun s' I' _ => h s' I') hf
theorem Inv.call' {s' : Shared} {ch : List Addr} (I : Inv X pins σ H s) (ho : s'.os = s.os) (u : Un (frs X.stack) ch H H' s.heap s'.heap) (hok : HOk X.prog X.w H' s'.heap) (hg : AllBare s'.gens)
    (hch : ∀ b ∈ ch, (b ∈ X.ex ∨ X.s₀.heap.objs.size ≤ b) ∧ b ≠ X.env.locals ∧ (∀ x c, X.env.cells.lookup x = some c → c ≠ b) ∧ ∀ p ∈ X.pn ++ pins, p.1 ≠ b) : Inv X pins σ H' s' := by
  obtain ⟨h', g', d', t', o'⟩ := s'
  have e : o' = s.os := ho
  subst e
  exact I.call (g' := g') (t' := t') (d' := d') u hok hg hch
end
noncomputable abbrev XK := Value → Option Addr → Hp → Prop
noncomputable abbrev St := List (Option V)
noncomputable abbrev VK := V → Hp → Prop
noncomputable abbrev TE := St → Hp → VK → Prop
noncomputable abbrev TT := St → Hp → (Bool → Hp → Prop) → Prop
noncomputable abbrev TA := St → Hp → (List V → Hp → Prop) → Prop
set_option genInjectivity false in
structure Ends where
  nx : St → Hp → Prop
  rt : VK
  bk : St → Hp → Prop := fun _ _ => False
  ct : St → Hp → Prop := fun _ _ => False
noncomputable abbrev TS := Ends → St → Hp → Prop
noncomputable def EP (X : Cx) (pins : List (Addr × Obj)) (σ : St) (Q : VK) (u : Value) (s' : Shared) : Prop := ∃ v H', Inv X pins σ H' s' ∧ RelV v u ∧ Q v H'
noncomputable def TP (X : Cx) (pins : List (Addr × Obj)) (σ : St) (Q : Bool → Hp → Prop) (b : Bool) (s' : Shared) : Prop := ∃ H', Inv X pins σ H' s' ∧ Q b H'
noncomputable def AP (X : Cx) (pins : List (Addr × Obj)) (σ : St) (Q : List V → Hp → Prop) (us : List Value) (s' : Shared) : Prop := ∃ vs H', Inv X pins σ H' s' ∧ Vals vs us ∧ Q vs H'
noncomputable def SP (X : Cx) (pins : List (Addr × Obj)) (D : Ends) (f : Flow) (s' : Shared) : Prop :=
  match f with
  | .next => ∃ σ' H', Inv X pins σ' H' s' ∧ D.nx σ' H'
  | .brk => ∃ σ' H', Inv X pins σ' H' s' ∧ D.bk σ' H'
  | .cont => ∃ σ' H', Inv X pins σ' H' s' ∧ D.ct σ' H'
  | .ret u => ∃ v σ' H', Inv X pins σ' H' s' ∧ RelV v u ∧ D.rt v H'
noncomputable def PE (X : Cx) (e : Expr) (t : TE) : Prop :=
  ∀ (pins : List (Addr × Obj)) (s : Shared) (σ : St) (H : Hp) (Q : VK), Inv X pins σ H s → t σ H Q → wpAny (model X.prog X.w) X.A (eval e X.env) (EP X pins σ Q) X.xe s
noncomputable def PT (X : Cx) (e : Expr) (t : TT) : Prop :=
  ∀ (pins : List (Addr × Obj)) (s : Shared) (σ : St) (H : Hp) (Q : Bool → Hp → Prop), Inv X pins σ H s → t σ H Q → wpAny (model X.prog X.w) X.A (isTrue e X.env (eval e X.env)) (TP X pins σ Q) X.xe s
noncomputable def PW (X : Cx) (e : Expr) (t : TT) : Prop :=
  ∀ (whole : Sem Value) (pins : List (Addr × Obj)) (s : Shared) (σ : St) (H : Hp) (Q : Bool → Hp → Prop), Inv X pins σ H s → t σ H Q → wpAny (model X.prog X.w) X.A (isTrue e X.env whole) (TP X pins σ Q) X.xe s
theorem PW.pt {X : Cx} {e : Expr} {t : TT} (h : PW X e t) : PT X e t := h _
noncomputable def PA (X : Cx) (es : List Expr) (t : TA) : Prop :=
  ∀ (pos : Pos) (pins : List (Addr × Obj)) (s : Shared) (σ : St) (H : Hp) (Q : List V → Hp → Prop), Inv X pins σ H s → t σ H Q → wpAny (model X.prog X.w) X.A (spliced (backTo pos (starEach es X.env))) (AP X pins σ Q) X.xe s
noncomputable def PS (X : Cx) (st : Stmt) (t : TS) : Prop :=
  ∀ (pins : List (Addr × Obj)) (s : Shared) (σ : St) (H : Hp) (D : Ends), Inv X pins σ H s → t D σ H → wpAny (model X.prog X.w) X.A (exec st X.env) (SP X pins D) X.xe s
noncomputable def PSs (X : Cx) (st : List Stmt) (t : TS) : Prop :=
  ∀ (pins : List (Addr × Obj)) (s : Shared) (σ : St) (H : Hp) (D : Ends), Inv X pins σ H s → t D σ H → wpAny (model X.prog X.w) X.A (execs st X.env) (SP X pins D) X.xe s
theorem thn {α : Type} {t : Sem α} {Q Q' : α → Shared → Prop} {M : Model} {A : Around} {E : Value → Shared → Prop} {s : Shared} (h : wpAny M A t Q E s) (hQ : ∀ a s, Q a s → Q' a s) : wpAny M A t Q' E s := wpAny_mono h hQ fun _ _ x => x
end L2
namespace L2
open PySem PySem.Spec PyProof.Rows
section
variable {X : Cx}
noncomputable def Z6m (i : Nat) : TE := fun σ H Q => ∃ v, σ[i]? = some (some v) ∧ Q v H
noncomputable def tC (v : V) : TE := fun _ H Q => Q v H
theorem Zyd {i : Nat} {x : Str} {pos : Pos} (hN : X.N[i]? = some x) (hv : Vis X.env.scope x) (hd : (x == ("__debug__" : Str)) = false := by decide) (hcd : (x == ("__classdict__" : Str)) = false := by decide) : PE X (.Name x pos) (Z6m i) := by
  intro pins s σ H Q I h
  obtain ⟨v, e, h⟩ := h
  obtain ⟨m, hn, hl⟩ := I.loc
  obtain ⟨u, r, l⟩ := hl i x v hN e hv
  have fin : EP X pins σ Q u s := ⟨v, H, I, r, h⟩
  rcases l with ⟨hk, hm⟩ | ⟨hk, c, hc, hcell⟩
  · exact wpAny_Name (wpAny_loadName_local I.ok.kind hk hn hm fin) hd
  · rcases hk with hk | hk
    · exact wpAny_Name (wpAny_loadName_cell I.ok.kind hk hc hcell fin) hd
    · exact wpAny_Name (wpAny_loadName_free I.ok.kind hk hc hcell fin hcd) hd
theorem Zoo {i j pos} : PE X (.Constant (.int i) j pos) (tC (.int i)) := fun _ _ _ H _ I h => wpAny_Constant_int ⟨.int i, H, I.tok _, ⟨_, rfl⟩, h⟩
theorem Z4i {b j pos} : PE X (.Constant (.bool b) j pos) (tC (.bl b)) := fun _ _ _ H _ I h => Constant_bool ⟨.bl b, H, I, rfl, h⟩
noncomputable def Gl (X : Cx) (x : Str) : Prop := X.env.kindOf x = some .globalImplicit
theorem Zlt {E : Value → Shared → Prop} {pins : List (Addr × Obj)} {s : Shared} {σ : St} {H : Hp} {x : Str} {u : Value} {pos : Pos} {Q : Value → Shared → Prop} (I : Inv X pins σ H s) (hg : Gl X x) (hm : X.mg x = some u) (h : Q u s)
    (hd : (x == ("__debug__" : Str)) = false := by decide) : wpAny (model X.prog X.w) X.A (eval (.Name x pos) X.env) Q E s :=
  Calls.Name_function_global I.ok.kind hg (Calls.loadGlobal_global (by rw [I.ok.glob]; exact I.mod.glob.keeps I.bk) hm h) hd
theorem Zgc {E : Value → Shared → Prop} {pins : List (Addr × Obj)} {s : Shared} {σ : St} {H : Hp} {x : Str} {u : Value} {pos : Pos} {Q : Value → Shared → Prop} (I : Inv X pins σ H s) (hg : Gl X x) (hm : X.mg x = none) (hv : bootBuiltins x = some u) (h : Q u s)
    (hn : x ≠ "__name__" := by decide) (hd : (x == ("__debug__" : Str)) = false := by decide) : wpAny (model X.prog X.w) X.A (eval (.Name x pos) X.env) Q E s := by
  obtain ⟨mb, h1, h2⟩ := I.mod.blt
  exact Calls.Name_function_global I.ok.kind hg (Calls.loadGlobal_builtin (by rw [I.ok.glob]; exact I.mod.glob.keeps I.bk) hm (by rw [I.ok.blt]; exact h1.keeps I.bk) ((h2 x hn).trans hv) h) hd
theorem Zwr {x : Str} {v : V} {u : Value} {pos : Pos} (hg : Gl X x) (hm : X.mg x = none) (hv : bootBuiltins x = some u) (r : RelV v u) (hn : x ≠ "__name__" := by decide) (hd : (x == ("__debug__" : Str)) = false := by decide) : PE X (.Name x pos) (tC v) :=
  fun _ _ _ H _ I h => Zgc I hg hm hv ⟨v, H, I, r, h⟩ hn hd
noncomputable def t2I (ta tb : TE) (k : Int → Int → Hp → Prop) : St → Hp → Prop := fun σ H => ta σ H fun x H1 => tb σ H1 fun y H2 => ∃ i j, x = .int i ∧ y = .int j ∧ k i j H2
variable {a b : Expr} {ta tb : TE} {pos : Pos}
noncomputable def Zxm (p : Int → Int → Bool) (ta tb : TE) : TE := fun σ H Q => t2I ta tb (fun i j H2 => Q (.bl (p i j)) H2) σ H
noncomputable abbrev tLt : TE → TE → TE := Zxm fun i j => decide (i < j)
noncomputable abbrev tLe : TE → TE → TE := Zxm fun i j => decide (i ≤ j)
noncomputable abbrev tGt : TE → TE → TE := Zxm fun i j => decide (j < i)
noncomputable abbrev tGe : TE → TE → TE := Zxm fun i j => decide (j ≤ i)
noncomputable abbrev Z74 : TE → TE → TE := Zxm fun i j => decide (i = j)
noncomputable abbrev Z75 : TE → TE → TE := Zxm fun i j => !decide (i = j)
noncomputable def tB (t : TE) : TT := fun σ H Q => t σ H fun x H1 => ∃ c, x = .bl c ∧ Q c H1
variable {tA tB' : TT} {rest : List Expr}
noncomputable def Z73 (t u : TT) : TT := fun σ H Q => t σ H fun c H1 => if c = true then u σ H1 Q else Q false H1
noncomputable def tOr (t u : TT) : TT := fun σ H Q => t σ H fun c H1 => if c = true then Q true H1 else u σ H1 Q
noncomputable def Z7r (t : TT) : TT := fun σ H Q => t σ H fun c H1 => Q (!c) H1
theorem Zuq (ha : PT X a tA) : PW X (.BoolOp .And [a] pos) tA := by
  intro wh pins s σ H Q I h
  refine isTrue_and (thn (ha pins s σ H Q I h) fun c s1 e => ?_)
  cases c with
  | true => exact isTrue_and_nil e
  | false => exact e
theorem Zye (ha : PT X a tA) : PW X (.BoolOp .Or [a] pos) tA := by
  intro wh pins s σ H Q I h
  refine isTrue_or (thn (ha pins s σ H Q I h) fun c s1 e => ?_)
  cases c with
  | false => exact isTrue_or_nil e
  | true => exact e
theorem Zy0 (ha : PT X a tA) (hb : PW X (.BoolOp .And (b :: rest) pos) tB') : PW X (.BoolOp .And (a :: b :: rest) pos) (Z73 tA tB') := by
  intro wh pins s σ H Q I h
  refine isTrue_and (thn (ha pins s σ H _ I h) fun c s1 qz9 => ?_)
  obtain ⟨H1, I1, q1⟩ := qz9
  cases c with
  | true => exact hb wh pins s1 σ H1 Q I1 q1
  | false => exact ⟨H1, I1, q1⟩
theorem Z2h (ha : PT X a tA) (hb : PW X (.BoolOp .Or (b :: rest) pos) tB') : PW X (.BoolOp .Or (a :: b :: rest) pos) (tOr tA tB') := by
  intro wh pins s σ H Q I h
  refine isTrue_or (thn (ha pins s σ H _ I h) fun c s1 qz9 => ?_)
  obtain ⟨H1, I1, q1⟩ := qz9
  cases c with
  | true => exact ⟨H1, I1, q1⟩
  | false => exact hb wh pins s1 σ H1 Q I1 q1
theorem Zx6 (ha : PT X a tA) : PT X (.UnaryOp .Not a pos) (Z7r tA) := by
  intro pins s σ H Q I h
  exact isTrue_not (ha pins s σ H (fun c H1 => Q (!c) H1) I h)
noncomputable def Z2t (ta tb : TE) : TE := fun σ H Q => ta σ H fun x H1 => ∃ c, x = .bl c ∧ if c = true then tb σ H1 Q else Q (.bl false) H1
noncomputable def Z2w (ta : TE) : TE := fun σ H Q => ta σ H fun x H1 => ∃ c, x = .bl c ∧ Q (.bl (!c)) H1
theorem Zz0 {op} {t : TE} (h : PE X a t) : PE X (.BoolOp op [a] pos) t := fun pins s σ H Q I hw => BoolOp_one (h pins s σ H Q I hw)
theorem Zxu (ha : PE X a ta) (hb : PE X (.BoolOp .And (b :: rest) pos) tb) : PE X (.BoolOp .And (a :: b :: rest) pos) (Z2t ta tb) := by
  intro pins s σ H Q I h
  refine BoolOp_and (thn (ha pins s σ H _ I h) fun v s1 qz9 => ?_)
  obtain ⟨x, H1, I1, r1, q1⟩ := qz9
  obtain ⟨c, rfl, q1⟩ := q1
  cases r1
  refine wpAny_truthy_bool ?_
  cases c with
  | true => exact hb pins s1 σ H1 Q I1 q1
  | false => exact ⟨.bl false, H1, I1, rfl, q1⟩
theorem Z0b (ha : PE X a ta) : PE X (.UnaryOp .Not a pos) (Z2w ta) := by
  intro pins s σ H Q I h
  refine UnaryOp_ (thn (ha pins s σ H _ I h) fun v s1 qz9 => ?_)
  obtain ⟨x, H1, I1, r1, q1⟩ := qz9
  obtain ⟨c, rfl, q1⟩ := q1
  cases r1
  exact not_of (wpAny_truthy_bool ⟨.bl (!c), H1, I1, rfl, q1⟩)
noncomputable def tIf (t : TT) (ta tb : TE) : TE := fun σ H Q => t σ H fun c H1 => if c = true then ta σ H1 Q else tb σ H1 Q
theorem Zrh {c : Expr} (hc : PT X c tA) (ha : PE X a ta) (hb : PE X b tb) : PE X (.IfExp c a b pos) (tIf tA ta tb) := by
  intro pins s σ H Q I h
  refine wpAny_IfExp (thn (hc pins s σ H _ I h) fun d s1 qz9 => ?_)
  obtain ⟨H1, I1, q1⟩ := qz9
  cases d with
  | true => exact ha pins s1 σ H1 Q I1 q1
  | false => exact hb pins s1 σ H1 Q I1 q1
end
end L2
namespace L2
open PySem PySem.Spec PyProof.Rows
noncomputable def SqL (K : PySem.W.Frag) (H : Hp) (a : Addr) (xs : List V) : Prop :=
  Rd H a (.lst xs) ∨
    ∃ (o : Obj) (its : Array Value) (n : Nat), K.lookup a = some o ∧ o.cls = .type "list" ∧ o.dict = none ∧ o.data = .seq its n ∧ its.size ≤ sizeLine ∧ Vals xs its.toList
noncomputable def SqT (K : PySem.W.Frag) (H : Hp) (a : Addr) (xs : List V) : Prop :=
  Rd H a (.tup xs) ∨
    ∃ (o : Obj) (its : Array Value) (n : Nat), K.lookup a = some o ∧ o.cls = .type "tuple" ∧ o.data = .seq its n ∧ its.size ≤ sizeLine ∧ Vals xs its.toList
noncomputable def Z7i : Value → Option V
  | .none => some .non
  | .bool b => some (.bl b)
  | .int i _ => some (.int i)
  | .str x _ => some (.str x)
  | .bytes b _ => some (.byt b)
  | .float b _ => some (.flt b)
  | .ref a => some (.ref a)
  | .type n => some (.ty n)
  | _ => none
theorem RelV.abs {x : V} {u : Value} (r : RelV x u) : Z7i u = some x := by
  cases x with
  | non => cases r; rfl
  | bl _ => cases r; rfl
  | int _ => obtain ⟨t, rfl⟩ := r; rfl
  | str _ => obtain ⟨t, rfl⟩ := r; rfl
  | byt _ => obtain ⟨t, rfl⟩ := r; rfl
  | flt _ => obtain ⟨t, rfl⟩ := r; rfl
  | ref _ => cases r; rfl
  | ty _ => cases r; rfl
theorem RelV.inj {x y : V} {u : Value} (r : RelV x u) (q : RelV y u) : x = y := Option.some.inj (r.abs.symm.trans q.abs)
theorem Vals.inj {xs ys : List V} {us : List Value} (h : Vals xs us) (k : Vals ys us) : xs = ys := by
  induction h generalizing ys with
  | nil => cases k; rfl
  | cons r t ih =>
    cases k with
    | cons r' t' => rw [r.inj r', ih t']
section
variable {X : Cx} {pins : List (Addr × Obj)} {σ : St} {H : Hp} {s : Shared} {a : Addr} {xs ys : List V}
theorem Inv.list (I : Inv X pins σ H s) (h : SqL X.K H a xs) : ∃ its : List Value, Vals xs its ∧ PlainL s.heap a its.toArray ∧ xs.length ≤ sizeLine := by
  rcases h with h | ⟨o, its, n, hk, hc, hd, hs, hz, r⟩
  · obtain ⟨z, its, n, r, e⟩ := h.ok I.hok
    exact ⟨its, r, ⟨_, n, e, rfl, rfl, rfl⟩, z⟩
  · refine ⟨its.toList, r, ⟨o, n, I.kIn a o hk, hc, hd, by simpa using hs⟩, ?_⟩
    have e := r.length
    simp only [Array.length_toList] at e
    omega
theorem Inv.tuple (I : Inv X pins σ H s) (h : SqT X.K H a xs) : ∃ its : List Value, Vals xs its ∧ IsTup s.heap a its.toArray ∧ xs.length ≤ sizeLine := by
  rcases h with h | ⟨o, its, n, hk, hc, hs, hz, r⟩
  · obtain ⟨z, its, r, p⟩ := h.ok I.hok
    exact ⟨its, r, p, z⟩
  · refine ⟨its.toList, r, ⟨o, I.kIn a o hk, hc, n, by simpa using hs⟩, ?_⟩
    have e := r.length
    simp only [Array.length_toList] at e
    omega
theorem Inv.list_inj (I : Inv X pins σ H s) (h : SqL X.K H a xs) (h' : SqL X.K H a ys) : xs = ys := by
  obtain ⟨its, r, ⟨o, n, e, _, _, d⟩, _⟩ := I.list h
  obtain ⟨its', r', ⟨o', n', e', _, _, d'⟩, _⟩ := I.list h'
  rw [e] at e'; cases e'
  rw [d] at d'
  injection d' with d1 _
  have : its = its' := by simpa using congrArg Array.toList d1
  subst this
  exact r.inj r'
end
noncomputable abbrev Cx.wish (X : Cx) (E : Value → Shared → Prop) : Cx := { X with xe := E }
noncomputable abbrev Cx.nox (X : Cx) : Cx := X.wish fun _ _ => False
theorem Cx.Ok.wish {X : Cx} (ok : X.Ok) (E : Value → Shared → Prop) : (X.wish E).Ok :=
  ⟨ok.mod, ok.kind, ok.glob, ok.blt, ok.above, ok.inj, ok.has, ok.cab, ok.hd, ok.frames, ok.stk, ok.exf, ok.bs, ok.bsz, ok.noex, ok.exfs, ok.funs, ok.frf⟩
theorem Cx.Ok.unwish {X : Cx} {E : Value → Shared → Prop} (ok : (X.wish E).Ok) : X.Ok :=
  ⟨ok.mod, ok.kind, ok.glob, ok.blt, ok.above, ok.inj, ok.has, ok.cab, ok.hd, ok.frames, ok.stk, ok.exf, ok.bs, ok.bsz, ok.noex, ok.exfs, ok.funs, ok.frf⟩
section
variable {X : Cx} {pins : List (Addr × Obj)} {σ : St} {H : Hp} {s : Shared} {E : Value → Shared → Prop}
theorem Inv.wish (I : Inv X pins σ H s) (E : Value → Shared → Prop) : Inv (X.wish E) pins σ H s := ⟨I.ok.wish E, I.os, I.bare, I.base, I.loc, I.cell, I.free, I.freeC, I.pin, I.hok, I.len⟩
theorem Inv.unwish (I : Inv (X.wish E) pins σ H s) : Inv X pins σ H s := ⟨I.ok.unwish, I.os, I.bare, I.base, I.loc, I.cell, I.free, I.freeC, I.pin, I.hok, I.len⟩
theorem SP.unwish {D : Ends} {f : Flow} {s' : Shared} (h : SP (X.wish E) pins D f s') : SP X pins D f s' := by
  cases f with
  | next => obtain ⟨σ', H', I, q⟩ := h; exact ⟨σ', H', I.unwish, q⟩
  | brk => obtain ⟨σ', H', I, q⟩ := h; exact ⟨σ', H', I.unwish, q⟩
  | cont => obtain ⟨σ', H', I, q⟩ := h; exact ⟨σ', H', I.unwish, q⟩
  | ret u => obtain ⟨v, σ', H', I, r, q⟩ := h; exact ⟨v, σ', H', I.unwish, r, q⟩
theorem PSs.nox {st : List Stmt} {t : TS} (h : PSs X.nox st t) : PSs X st t := fun pins s σ H D I hw =>
  wpAny_mono (h pins s σ H D (I.wish _) hw) (fun _ _ q => q.unwish) fun _ _ z => False.elim z
end
section
variable {X : Cx} {st : Stmt} {rest : List Stmt} {t u : TS} {e : Expr} {te : TE} {pos : Pos}
noncomputable def Z4f : TS := fun D σ H => D.nx σ H
noncomputable def Z69 (t u : TS) : TS := fun D σ H => t { D with nx := u D } σ H
theorem Zv8 : PSs X [] Z4f := fun _ _ σ H _ I h => wpAny_execs_nil ⟨σ, H, I, h⟩
theorem Zrc (h1 : PS X st t) (h2 : PSs X rest u) : PSs X (st :: rest) (Z69 t u) := by
  intro pins s σ H D I h
  refine wpAny_execs_cons (thn (h1 pins s σ H { D with nx := u D } I h) fun f s1 q => ?_)
  cases f with
  | next =>
    obtain ⟨σ', H', I', q⟩ := q
    exact h2 pins s1 σ' H' D I' q
  | ret v => exact q
  | brk => exact q
  | cont => exact q
theorem Zu3 (h1 : PS X st t) : PSs X [st] t := by
  intro pins s σ H D I h
  refine wpAny_execs_cons (thn (h1 pins s σ H D I h) fun f s1 q => ?_)
  cases f with
  | next => exact wpAny_execs_nil q
  | ret v => exact q
  | brk => exact q
  | cont => exact q
theorem Inv.quiet {pins : List (Addr × Obj)} {σ : St} {H : Hp} {s : Shared} (I : Inv X pins σ H s) : interactive X.env = false := by simp [interactive, I.ok.kind]
noncomputable def Z2z (te : TE) : TS := fun D σ H => te σ H fun _ H1 => D.nx σ H1
theorem Zve (he : PE X e te) (hs : swapsWith e none pos.line X.env = pure false := by rfl) : PS X (.Expr e pos) (Z2z te) := by
  intro pins s σ H D I h
  refine wpAny_Expr_any (thn (he pins s σ H _ I h) fun v s1 qz9 => ?_) I.quiet hs
  obtain ⟨x, H1, I1, r1, q1⟩ := qz9
  exact ⟨σ, H1, I1, q1⟩
noncomputable def Z7a (te : TE) : TS := fun D σ H => te σ H D.rt
theorem Zua (he : PE X e te) : PS X (.Return (some e) pos) (Z7a te) := by
  intro pins s σ H D I h
  refine wpAny_Return_some (thn (he pins s σ H _ I h) fun v s1 qz9 => ?_)
  obtain ⟨x, H1, I1, r1, q1⟩ := qz9
  exact ⟨x, σ, H1, I1, r1, q1⟩
noncomputable def Z65 (c : TT) (t u : TS) : TS := fun D σ H => c σ H fun b H1 => if b = true then t D σ H1 else u D σ H1
theorem Z3i {c : Expr} {a b : List Stmt} {tc : TT} (hc : PT X c tc) (ha : PSs X a t) (hb : PSs X b u) : PS X (.If c a b pos) (Z65 tc t u) := by
  intro pins s σ H D I h
  refine wpAny_If (thn (hc pins s σ H _ I h) fun d s1 qz9 => ?_)
  obtain ⟨H1, I1, q1⟩ := qz9
  cases d with
  | true => exact ha pins s1 σ H1 D I1 q1
  | false => exact hb pins s1 σ H1 D I1 q1
noncomputable def Z1h : TS := fun _ _ _ => False
theorem Zri : PS X st Z1h := fun _ _ _ _ _ _ h => h.elim
end
noncomputable abbrev TG := V → St → Hp → (St → Hp → Prop) → Prop
noncomputable abbrev TGs := List V → St → Hp → (St → Hp → Prop) → Prop
noncomputable def PG (X : Cx) (target : Expr) (t : TG) : Prop :=
  ∀ (pins : List (Addr × Obj)) (s : Shared) (σ : St) (H : Hp) (v : V) (u : Value) (Q : St → Hp → Prop), Inv X pins σ H s → RelV v u → t v σ H Q →
    wpAny (model X.prog X.w) X.A (assign target X.env u) (fun _ s' => ∃ σ' H', Inv X pins σ' H' s' ∧ Q σ' H') X.xe s
noncomputable def PGs (X : Cx) (ts : List Expr) (t : TGs) : Prop :=
  ∀ (pins : List (Addr × Obj)) (s : Shared) (σ : St) (H : Hp) (vs : List V) (us : List Value) (Q : St → Hp → Prop), Inv X pins σ H s → Vals vs us → t vs σ H Q →
    wpAny (model X.prog X.w) X.A (assignInOrder ((assignEach ts X.env).map (·.2)) us) (fun _ s' => ∃ σ' H', Inv X pins σ' H' s' ∧ Q σ' H') X.xe s
noncomputable abbrev Z2k := V → V → V → Hp → (Hp → Prop) → Prop
noncomputable def Z4t (X : Cx) (t : Z2k) : Prop :=
  ∀ (pins : List (Addr × Obj)) (s : Shared) (σ : St) (H : Hp) (o i v : V) (ov iv u : Value) (Q : Hp → Prop), Inv X pins σ H s → RelV o ov → RelV i iv → RelV v u → t o i v H Q →
    wpAny (model X.prog X.w) X.A (setItem ov iv u) (fun _ s' => ∃ H', Inv X pins σ H' s' ∧ Q H') X.xe s
noncomputable abbrev TIp := V → V → Hp → VK → Prop
section
variable {X : Cx} {pos : Pos}
noncomputable def Zqf (i : Nat) : TG := fun v σ H Q => Q (σ.set i (some v)) H
theorem Zun {i : Nat} {x : Str} (hN : X.N.Nodup) (hi : X.N[i]? = some x) (hx : Loc X.env.scope x) (hf : X.fn x = true ∨ X.env.scope.names.lookup x = some .local := by first | exact .inl rfl | exact .inr rfl | assumption) : PG X (.Name x pos) (Zqf i) := by
  intro pins s σ H v u Q I r h
  exact wpAny_assign_Name (Zgp I hN hi hx r (fun s' I' => ⟨_, H, I', h⟩) hf)
noncomputable def Z6v : TGs := fun vs σ H Q => vs = [] ∧ Q σ H
noncomputable def Z3t (t : TG) (u : TGs) : TGs := fun vs σ H Q => ∃ v r, vs = v :: r ∧ t v σ H fun σ' H' => u r σ' H' Q
theorem Zvn : PGs X [] Z6v := by
  intro pins s σ H vs us Q I r h
  obtain ⟨e, h⟩ := h
  subst e
  cases r
  exact assignInOrder_nil ⟨σ, H, I, h⟩
theorem Zr9 {e : Expr} {es : List Expr} {t : TG} {u : TGs} (h1 : PG X e t) (h2 : PGs X es u)
    (hs : (assignEach (e :: es) X.env).map (·.2) = assign e X.env :: (assignEach es X.env).map (·.2) := by rfl) : PGs X (e :: es) (Z3t t u) := by
  intro pins s σ H vs us Q I r h
  obtain ⟨v, vr, e1, h⟩ := h
  subst e1
  cases r with
  | cons r rr =>
    rw [hs]
    refine assignInOrder_cons (thn (h1 pins s σ H _ _ _ I r h) fun _ s1 qz9 => ?_)
    obtain ⟨σ1, H1, I1, q1⟩ := qz9
    exact h2 pins s1 σ1 H1 _ _ Q I1 rr q1
noncomputable def Z7d (K : PySem.W.Frag) (n : Nat) (t : TGs) : TG := fun v σ H Q => ∃ a xs, v = .ref a ∧ SqT K H a xs ∧ xs.length = n ∧ t xs σ H Q
theorem Zxv {es : List Expr} {k : Nat} {t : TGs} {n : Nat} (hc : X.calm = true) (h : PGs X es t)
    (hn : (assignEach es X.env).length = n := by rfl) (hst : (assignEach es X.env).findIdx? (·.1) = none := by rfl) : PG X (.Tuple es k pos) (Z7d X.K n t) := by
  intro pins s σ H v u Q I r hw
  obtain ⟨a, xs, e1, hq, hl, hw⟩ := hw
  subst e1
  cases r
  obtain ⟨its, rv, ht, hz⟩ := I.tuple hq
  refine assign_Tuple_tuple (I.ok.hd hc) ht (by simp [hn, ← hl, rv.length]) hst fun h' hx => ?_
  have I1 : Inv X pins σ H { s with heap := h' } := I.kept (t' := s.toks) fun b o e => hx b o (Nat.ne_of_lt (Heap.lt_size e)) e
  exact h pins _ σ H xs _ Q I1 (by simpa using rv) hw
noncomputable def Z2x (to ti : TE) (t : Z2k) : TG := fun v σ H Q => to σ H fun o H1 => ti σ H1 fun i H2 => t o i v H2 fun H3 => Q σ H3
theorem Zt0 {o i : Expr} {to ti : TE} {t : Z2k} (ho : PE X o to) (hi : PE X i ti) (hs : Z4t X t)
    (ha : ∀ v, assign (.Subscript o i pos) X.env v = (do
      let ov ← holding [v] (eval o X.env)
      let iv ← holding [v, ov] (eval i X.env)
      standAt pos
      holding [v, ov, iv] (setItem ov iv v)
      release [v, ov, iv] []) := by intro _; rfl) : PG X (.Subscript o i pos) (Z2x to ti t) := by
  intro pins s σ H v u Q I r h
  rw [ha]
  refine wpAny_bind (wpAny_holding (thn (ho pins s σ H _ I h) fun ov s1 qz9 => ?_))
  obtain ⟨x, H1, I1, r1, q1⟩ := qz9
  refine wpAny_bind (wpAny_holding (thn (hi pins s1 σ H1 _ I1 q1) fun iv s2 qz9 => ?_))
  obtain ⟨y, H2, I2, r2, q2⟩ := qz9
  refine wpAny_bind (wpAny_standAt (wpAny_bind (wpAny_holding (thn (hs pins s2 σ H2 x y v ov iv u _ I2 r1 r2 r q2) fun _ s3 qz9 => ?_))))
  obtain ⟨H3, I3, q3⟩ := qz9
  exact wpAny_release ⟨σ, H3, I3, q3⟩
noncomputable def Z0n (te : TE) (g : TG) : TS := fun D σ H => te σ H fun x H1 => g x σ H1 D.nx
theorem Zt5 {tg e : Expr} {te : TE} {g : TG} (he : PE X e te) (hg : PG X tg g) (hs : swapsWithSole [tg] e pos.line X.env = pure false := by rfl) (hw : swappedStores [tg] e X.env = pure none := by rfl)
    (h1 : (assignEach [tg] X.env).map (·.2) = [assign tg X.env] := by rfl) : PS X (.Assign [tg] e pos) (Z0n te g) := by
  intro pins s σ H D I h
  refine wpAny_Assign_stores (thn (he pins s σ H _ I h) fun v s1 qz9 => ?_) hs hw
  obtain ⟨x, H1, I1, r1, q1⟩ := qz9
  rw [h1]
  exact thn (hg pins s1 σ H1 x v _ I1 r1 q1) fun _ s2 q => q
theorem Zt3 {i : Nat} {x : Str} {e : Expr} {te : TE} {pos' : Pos} (hN : X.N.Nodup) (hi : X.N[i]? = some x) (hx : Loc X.env.scope x) (he : PE X e te) (hs : swapsWith e (some (.Name x pos')) pos.line X.env = pure false := by rfl) (hf : X.fn x = true ∨ X.env.scope.names.lookup x = some .local := by first | exact .inl rfl | exact .inr rfl | assumption) :
    PS X (.Assign [.Name x pos'] e pos) (Z0n te (Zqf i)) := by
  intro pins s σ H D I h
  refine wpAny_Assign_Name (thn (he pins s σ H _ I h) fun v s1 qz9 => ?_) hs
  obtain ⟨y, H1, I1, r1, q1⟩ := qz9
  exact Zgp I1 hN hi hx r1 (fun s2 I2 => ⟨_, H1, I2, q1⟩) hf
noncomputable def Z6u (i j : Nat) (ta : TA) : TS := fun D σ H => ta σ H fun vs H1 => ∃ v w, vs = [v, w] ∧ D.nx ((σ.set i (some v)).set j (some w)) H1
theorem Z0p {i j : Nat} {x y : Str} {a b : Expr} {ta : TA} {px py pt : Pos} {kt k2 pt2} (hc : X.calm = true) (hN : X.N.Nodup) (hi : X.N[i]? = some x) (hj : X.N[j]? = some y) (hij : i ≠ j)
    (hx : X.env.scope.names.lookup x = some .local) (hy : X.env.scope.names.lookup y = some .local) (ha : PA X [a, b] ta)
    (hw : swappedStores [.Tuple [.Name x px, .Name y py] kt pt] (.Tuple [a, b] k2 pt2) X.env = pure (some [x, y]))
    (hs : swapsWithSole [.Tuple [.Name x px, .Name y py] kt pt] (.Tuple [a, b] k2 pt2) pos.line X.env = pure false := by rfl) :
    PS X (.Assign [.Tuple [.Name x px, .Name y py] kt pt] (.Tuple [a, b] k2 pt2) pos) (Z6u i j ta) := by
  intro pins s σ H D I h
  rw [exec_Assign_arm]
  refine wpAny_bind (wpAny_standAt ?_)
  rw [hs]
  refine wpAny_bind (wpAny_pure ?_)
  rw [if_neg (by decide)]
  refine wpAny_bind (Tuple_ (thn (ha _ pins s σ H _ I h) fun us s1 qz9 => ?_))
  obtain ⟨vs, H1, I1, r1, q1⟩ := qz9
  obtain ⟨v, w, e1, q1⟩ := q1
  subst e1
  obtain ⟨u1, u2, rfl, rv, rw'⟩ : ∃ u1 u2, us = [u1, u2] ∧ RelV v u1 ∧ RelV w u2 := by
    cases r1 with
    | cons p q =>
      cases q with
      | cons p' q' =>
        cases q'
        exact ⟨_, _, rfl, p, p'⟩
  refine wpAny_newObj_type ?_ (by show 2 ≤ sizeLine; decide)
  have I2 : Inv X pins σ H1 { s1 with heap := s1.heap.push { cls := .type "tuple", data := .seq [u1, u2].toArray } } := I1.kept (t' := s1.toks) fun b o e => Heap.get?_push_of_some _ e
  rw [hw]
  refine wpAny_bind (wpAny_pure ?_)
  show wpAny (model X.prog X.w) X.A (do rule "assign.swapped-stores"; let items ← unpackItems (.ref s1.heap.objs.size) 2 none; assignInOrder [fun v => bindName X.env y v, fun v => bindName X.env x v] items.reverse; pure Flow.next) _ _ _
  refine wpAny_bind (wpAny_rule (wpAny_bind (unpackItems_tuple (items := #[u1, u2]) (I.ok.hd hc) (IsTup.new s1.heap _) fun h' hx' => ?_)))
  have I3 := I2.kept (h' := h') (t' := s1.toks) fun b o e => hx' b o (Nat.ne_of_lt (Heap.lt_size e)) e
  show wpAny _ _ (assignInOrder [fun v => bindName X.env y v, fun v => bindName X.env x v] [u2, u1] >>= fun _ => pure Flow.next) _ _ _
  refine wpAny_bind (assignInOrder_cons (wpAny_bindName (Zgp I3 hN hj (.inl hy) rw' (fun s2 I4 => ?_) (.inr hy))))
  refine assignInOrder_cons (wpAny_bindName (Zgp I4 hN hi (.inl hx) rv (fun s3 I5 => assignInOrder_nil (wpAny_pure ?_)) (.inr hx)))
  rw [List.set_comm _ _ (Ne.symm hij)] at I5
  exact ⟨_, H1, I5, q1⟩
end
section
variable {X : Cx} {pos : Pos}
noncomputable def Zyq (c : TT) (tb : TS) : TS := fun D σ H => ∃ W : Nat → St → Hp → Prop, (∃ m, W m σ H) ∧ ∀ m σ H, W m σ H →
  c σ H fun b H1 => if b = true then ∃ N : St → Hp → Prop, (∀ σ' H', N σ' H' → ∃ m', m' < m ∧ W m' σ' H') ∧ tb { D with nx := N, ct := N, bk := D.nx } σ H1 else D.nx σ H1
theorem Zrv {c : Expr} {body : List Stmt} {tc : TT} {tb : TS} (hp : PassesOwn (model X.prog X.w) X.A X.env X.xe) (hc : PT X c tc) (hb : PSs X body tb) : PS X (.While c body [] pos) (Zyq tc tb) := by
  intro pins s σ H D I h
  obtain ⟨W, ⟨m0, w0⟩, turn⟩ := h
  refine wpAny_While (codeAny_whileLoop (fun n s' => ∃ σ' H', Inv X pins σ' H' s' ∧ W n σ' H') ?_ m0 ⟨σ, H, I, w0⟩)
  rintro n s1 ⟨σ1, H1, I1, w1⟩
  refine wpAny_passesOwn hp (thn (hc pins s1 σ1 H1 _ I1 (turn n σ1 H1 w1)) fun b s2 qz9 => ?_)
  obtain ⟨H2, I2, q2⟩ := qz9
  cases b with
  | true =>
    obtain ⟨N, hN, q2⟩ := q2
    rw [if_pos rfl]
    refine wpAny_passesOwn hp (thn (hb pins s2 σ1 H2 _ I2 q2) fun f s3 q3 => ?_)
    cases f with
    | next =>
      obtain ⟨σ3, H3, I3, n3⟩ := q3
      obtain ⟨m', hm, w3⟩ := hN σ3 H3 n3
      exact ⟨m', hm, σ3, H3, I3, w3⟩
    | cont =>
      obtain ⟨σ3, H3, I3, n3⟩ := q3
      obtain ⟨m', hm, w3⟩ := hN σ3 H3 n3
      exact ⟨m', hm, σ3, H3, I3, w3⟩
    | brk => exact q3
    | ret v => exact q3
  | false =>
    rw [if_neg Bool.false_ne_true]
    exact wpAny_execs_nil ⟨σ1, H2, I2, q2⟩
end
set_option genInjectivity false in
structure It where
  go : Nat → Hp → Prop
  yld : Nat → Hp → V → Hp → Prop
  stop : Nat → Hp → Prop
noncomputable def Zii (X : Cx) (pins : List (Addr × Obj)) (H : Hp) (b : Addr) : Prop :=
  H b = none ∧ b ≠ X.env.locals ∧ b ∉ X.fs ∧ (b ∈ X.ex ∨ X.s₀.heap.objs.size ≤ b) ∧ (∀ x c, X.env.cells.lookup x = some c → c ≠ b) ∧ ∀ p ∈ X.pn ++ pins, p.1 ≠ b
theorem Inv.fpOk {X : Cx} {pins : List (Addr × Obj)} {σ : St} {H H' : Hp} {s : Shared} {b : Addr} (I : Inv X pins σ H s) (hb : s.heap.objs.size ≤ b) (hn : H' b = none) : Zii X pins H' b := by
  refine ⟨hn, Nat.ne_of_gt (Nat.lt_of_lt_of_le I.lt hb), I.nofs hb, .inr (Nat.le_trans I.sz hb), fun x c e z => ?_, fun p hp z => ?_⟩
  · obtain ⟨v, q⟩ := I.cell x c e
    exact absurd (Nat.lt_of_lt_of_le q.lt (by rw [z]; exact hb)) (Nat.lt_irrefl _)
  · exact absurd (Nat.lt_of_lt_of_le (Heap.lt_size (I.pin p hp).1) (by rw [z]; exact hb)) (Nat.lt_irrefl _)
structure Turn (P : Program) (w : World) (K : PySem.W.Frag) (tg : Expr) (J : It) (fp : List Addr) (it : Addr) (tn : Nat → Heap → Prop) : Prop where
  mem : it ∈ fp
  obj : ∀ i h, tn i h → ∀ b ∈ fp, ∃ o, h.get? b = some o ∧ ∀ v, o.data ≠ .cell v
  keep : ∀ i h h', tn i h → (∀ b ∈ fp, ∀ o, h.get? b = some o → h'.get? b = some o) → tn i h'
  item : ∀ (X : Cx), X.prog = P → X.w = w → X.K = K → X.calm = true → ∀ (i : Nat) (pins : List (Addr × Obj)) (s : Shared) (σ : St) (H : Hp) (E : Value → Shared → Prop), Inv X pins σ H s → (∀ b ∈ fp, Zii X pins H b) → tn i s.heap → J.go i H →
    wpAny (model P w) X.A (pyNext (.ref it)) (fun r s1 => ∃ u, r = some u ∧
      wpAny (model P w) X.A (letOwnedTupleGo tg (.ref it) u) (fun _ s2 => ∃ x H', Inv X pins σ H' s2 ∧ RelV x u ∧ J.yld i H x H' ∧ tn (i + 1) s2.heap ∧ ∀ b ∈ fp, H' b = none) E s1) E s
  done : ∀ (X : Cx), X.prog = P → X.w = w → X.K = K → X.calm = true → ∀ (i : Nat) (pins : List (Addr × Obj)) (s : Shared) (σ : St) (H : Hp) (E : Value → Shared → Prop), Inv X pins σ H s → (∀ b ∈ fp, Zii X pins H b) → tn i s.heap → J.stop i H →
    wpAny (model P w) X.A (pyNext (.ref it)) (fun r s1 => r = none ∧ Inv X pins σ H s1) E s
  self : ∀ (A : Around) (i : Nat) (s : Shared) (Q : Value → Shared → Prop) (E : Value → Shared → Prop), tn i s.heap → Q (.ref it) s → wpAny (model P w) A (pyIter (.ref it)) Q E s
noncomputable abbrev TI := St → Hp → (It → Hp → Prop) → Prop
noncomputable def PIE (X : Cx) (pins : List (Addr × Obj)) (σ : St) (tg : Expr) (R : It → Hp → Prop) (itv : Value) (s2 : Shared) : Prop :=
  ∃ (it : Addr) (fp : List Addr) (tn : Nat → Heap → Prop) (J : It) (H' : Hp), itv = .ref it ∧ Inv X pins σ H' s2 ∧ Turn X.prog X.w X.K tg J fp it tn ∧ tn 0 s2.heap ∧ (∀ b ∈ fp, Zii X pins H' b) ∧ R J H'
noncomputable def PI (X : Cx) (tg iter : Expr) (wi : TI) : Prop :=
  ∀ (pins : List (Addr × Obj)) (s : Shared) (σ : St) (H : Hp) (R : It → Hp → Prop), Inv X pins σ H s → wi σ H R →
    wpAny (model X.prog X.w) X.A (eval iter X.env) (fun v s1 => wpAny (model X.prog X.w) X.A (pyIter v) (PIE X pins σ tg R) X.xe s1) X.xe s
theorem Zvb {M : Model} {A : Around} {E : Value → Shared → Prop} {s : Shared} {tg : Expr} {it : Addr} {u : Value} {o : Obj} {n : String} {vs : Array Value} {Q : Unit → Shared → Prop} (ho : s.heap.get? it = some o) (hc : o.cls = .type n) (hd : o.data = .fields vs)
    (hn : ["enumerate", "zip", "dict_itemiterator", "dict_reverseitemiterator", "odict_iterator", "itertools.zip_longest", "itertools.pairwise"].contains n = false) (hQ : Q () s) : wpAny M A (letOwnedTupleGo tg (.ref it) u) Q E s := by
  unfold letOwnedTupleGo
  cases tg <;> first
    | exact wpAny_pure hQ
    | (cases u <;> first
        | exact wpAny_pure hQ
        | (refine wpAny_bind (wpAny_load ho ?_)
           rw [hc, hd]
           show wpAny M A (if (["enumerate", "zip", "dict_itemiterator", "dict_reverseitemiterator", "odict_iterator", "itertools.zip_longest", "itertools.pairwise"].contains n && vs[0]? == some (rawInt _)) = true then _ else _) Q E s
           rw [if_neg (by intro h; rw [hn, Bool.false_and] at h; cases h)]
           exact wpAny_pure hQ))
noncomputable def Itl (K : PySem.W.Frag) (a : Addr) : It :=
  ⟨fun i H => ∃ xs x, SqL K H a xs ∧ xs[i]? = some x, fun i H x H' => H' = H ∧ ∀ xs, SqL K H a xs → xs[i]? = some x, fun i H => ∃ xs, SqL K H a xs ∧ xs.length ≤ i⟩
noncomputable def Itr (lo : Int) (n : Nat) : It := ⟨fun i _ => i < n, fun i H x H' => H' = H ∧ x = .int (lo + i), fun i _ => n ≤ i⟩
theorem Zo3 {P : Program} {w : World} {K : PySem.W.Frag} {tg : Expr} (a it : Addr) : Turn P w K tg (Itl K a) [it] it (fun i h => h.IsListIter it a i) where
  mem := by simp
  obj := fun i h st b hb => by
    have e : b = it := by simpa using hb
    subst e
    obtain ⟨o, e, c, d⟩ := st
    exact ⟨o, e, fun v z => by rw [d] at z; cases z⟩
  keep := fun i h h' st k => st.at fun o e => k it (by simp) o e
  item := by
    intro X hP hw hK hc i pins s σ H E I hf st hg
    subst hP hw hK
    obtain ⟨xs, x, hq, hx⟩ := hg
    obtain ⟨its, rv, p, hz⟩ := I.list hq
    obtain ⟨u, hu, ru⟩ := rv.get hx
    obtain ⟨f0, f1, f2, f3, f4, f5⟩ := hf it (by simp)
    refine wpAny_pyNext_list_item st p.isList (x := u) (by simpa using hu) fun h' st' sb => ?_
    have I1 : Inv X pins σ H { s with heap := h' } := I.turned (t' := s.toks) (fun b o hb e => (sb.2 b hb).trans e) f0 f1 f3 f4 f5
    obtain ⟨o, e, c, d⟩ := id st'
    exact ⟨u, rfl, Zvb (s := { s with heap := h' }) e c d (by decide) ⟨x, H, I1, ru, ⟨rfl, fun ys hy => by rw [I.list_inj hy hq]; exact hx⟩, st', fun b hb => (hf b hb).1⟩⟩
  done := by
    intro X hP hw hK hc i pins s σ H E I hf st hg
    subst hP hw hK
    obtain ⟨xs, hq, hx⟩ := hg
    obtain ⟨its, rv, p, hz⟩ := I.list hq
    obtain ⟨f0, f1, f2, f3, f4, f5⟩ := hf it (by simp)
    have hl := rv.length
    exact wpAny_pyNext_list_end (I.ok.hd hc) st p.isList (by simp; omega) fun h' eb => ⟨rfl, I.turned (t' := s.toks) (fun b o hb e => eb b o hb e) f0 f1 f3 f4 f5⟩
  self := fun _ _ _ _ _ st h => wpAny_pyIter_listiter st h
theorem Znq {P : Program} {w : World} {K : PySem.W.Frag} {tg : Expr} (it : Addr) (lo : Int) (n : Nat) : Turn P w K tg (Itr lo n) [it] it (fun i h => IsRangeIter h it (lo + (i : Nat) * 1) ((n : Int) - (i : Nat)) 1) where
  mem := by simp
  obj := fun i h st b hb => by
    have e : b = it := by simpa using hb
    subst e
    exact ⟨_, st, fun v z => by
      have z' : Data.fields _ = Data.cell v := z
      cases z'⟩
  keep := fun i h h' st k => k it (by simp) _ st
  item := by
    intro X hP hw hK hc i pins s σ H E I hf st hg
    subst hP hw hK
    obtain ⟨f0, f1, f2, f3, f4, f5⟩ := hf it (by simp)
    have W := Walks.range (prog := X.prog) (w := X.w) (I.ok.hd hc) it lo 1 n
    refine W.item i s _ _ hg st fun v h' tk hv st' kk => ?_
    obtain ⟨t, rfl⟩ := hv
    have I1 : Inv X pins σ H { s with heap := h', toks := tk } := I.turned (fun b o hb e => kk b o (by simpa using hb) e) f0 f1 f3 f4 f5
    refine ⟨_, rfl, Zvb (s := { s with heap := h', toks := tk }) (n := "range_iterator") st' rfl rfl (by decide) ⟨.int (lo + i), H, I1, ⟨t, ?_⟩, ⟨rfl, rfl⟩, st', fun b hb => (hf b hb).1⟩⟩
    rw [Int.mul_one]
  done := by
    intro X hP hw hK hc i pins s σ H E I hf st hg
    subst hP hw hK
    obtain ⟨f0, f1, f2, f3, f4, f5⟩ := hf it (by simp)
    exact wpAny_pyNext_range_end (I.ok.hd hc) st (by have : n ≤ i := hg; omega) fun h' eb => ⟨rfl, I.turned (t' := s.toks) (fun b o hb e => eb b o hb e) f0 f1 f3 f4 f5⟩
  self := fun _ _ _ _ _ st h => wpAny_pyIter_rangeiter st h
end L2
namespace L2
open PySem PySem.Spec PyProof.Rows
section
variable {X : Cx} {tg : Expr}
noncomputable def Zxz (K : PySem.W.Frag) (tl : TE) : TI := fun σ H R => tl σ H fun x H1 => ∃ a, x = .ref a ∧ (∃ xs, SqL K H1 a xs) ∧ R (Itl K a) H1
theorem Zvk {l : Expr} {tl : TE} (hl : PE X l tl) : PI X tg l (Zxz X.K tl) := by
  intro pins s σ H R I h
  refine thn (hl pins s σ H _ I h) fun v s1 qz9 => ?_
  obtain ⟨x, H1, I1, r1, q1⟩ := qz9
  obtain ⟨a, e, ⟨xs, hq⟩, q⟩ := q1
  subst e
  cases r1
  obtain ⟨its, rv, p, hz⟩ := I1.list hq
  refine wpAny_pyIter_list p.isList ?_
  refine ⟨s1.heap.objs.size, [s1.heap.objs.size], _, _, H1, rfl, I1.kept (t' := s1.toks) fun b o e => Heap.get?_push_of_some _ e, Zo3 a _, ⟨_, Heap.get?_push_size _ rfl, rfl, rfl⟩, fun b hb => ?_, q⟩
  have e : b = s1.heap.objs.size := by simpa using hb
  subst e
  exact I1.fpOk (Nat.le_refl _) (I1.hok.fresh (Nat.le_refl _))
theorem Zmk {pins : List (Addr × Obj)} {σ : St} {H : Hp} {s : Shared} {R : It → Hp → Prop} {E : Value → Shared → Prop} {lo hi : Int} {t u v : Tok} {tk : Nat} (I : Inv X pins σ H s) (h1 : -(2 ^ 62) ≤ lo) (h2 : lo < 2 ^ 62) (h3 : -(2 ^ 62) ≤ hi) (h4 : hi < 2 ^ 62)
    (q : R (Itr lo (hi - lo).toNat) H) : wpAny (model X.prog X.w) X.A (pyIter (.ref s.heap.objs.size)) (PIE X pins σ tg R) E { s with heap := s.heap.push { cls := .type "range", data := .fields #[.int lo t, .int hi u, .int 1 v] }, toks := tk } := by
  refine wpAny_pyIter_range (IsRange.new ..) (small_one h1 h2 h3 h4) ?_
  have I1 : Inv X pins σ H { s with heap := s.heap.push { cls := .type "range", data := .fields #[.int lo t, .int hi u, .int 1 v] }, toks := tk } := I.kept fun b o e => Heap.get?_push_of_some _ e
  refine ⟨(s.heap.push { cls := .type "range", data := .fields #[.int lo t, .int hi u, .int 1 v] }).objs.size, [(s.heap.push { cls := .type "range", data := .fields #[.int lo t, .int hi u, .int 1 v] }).objs.size], _, _, H, rfl,
    I1.kept (t' := tk) fun b o e => Heap.get?_push_of_some _ e, Znq _ lo (hi - lo).toNat, ?_, fun b hb => ?_, q⟩
  · have e1 : lo + ((0 : Nat) : Int) * 1 = lo := by simp
    have e2 : (((hi - lo).toNat : Nat) : Int) - ((0 : Nat) : Int) = Builtin.Range.rangeSize lo hi 1 := by rw [rangeSize_one]; split <;> omega
    show IsRangeIter _ _ (lo + ((0 : Nat) : Int) * 1) ((((hi - lo).toNat : Nat) : Int) - ((0 : Nat) : Int)) 1
    rw [e1, e2]
    exact Heap.get?_push_size _ rfl
  · have e : b = (s.heap.push { cls := .type "range", data := .fields #[.int lo t, .int hi u, .int 1 v] }).objs.size := by simpa using hb
    subst e
    exact I1.fpOk (Nat.le_refl _) (I1.hok.fresh (Nat.le_refl _))
noncomputable def Z3d (ta : TA) : TI := fun σ H R => ta σ H fun vs H1 => ∃ j : Int, vs = [.int j] ∧ -(2 ^ 62) ≤ j ∧ j < 2 ^ 62 ∧ R (Itr 0 j.toNat) H1
noncomputable def Z4b (ta : TA) : TI := fun σ H R => ta σ H fun vs H1 => ∃ i j : Int, vs = [.int i, .int j] ∧ (-(2 ^ 62) ≤ i ∧ i < 2 ^ 62 ∧ -(2 ^ 62) ≤ j ∧ j < 2 ^ 62) ∧ R (Itr i (j - i).toNat) H1
theorem Zo6 {a : Expr} {ta : TA} {p pos : Pos} (hg : Gl X "range") (hm : X.mg "range" = none) (ha : PA X [a] ta) (hs : starEach [a] X.env = [(false, eval a X.env)] := by rfl) : PI X tg (.Call (.Name "range" p) [a] [] pos) (Z3d ta) := by
  intro pins s σ H R I h
  refine Call_ (Zgc I hg hm boot_range (PyProof.Rows.callWith_type1 (thn (ha pos pins s σ H _ I h) fun us s1 qz9 => ?_) hs rfl))
  obtain ⟨vs, H1, I1, r1, q1⟩ := qz9
  obtain ⟨j, e, q1, q2, q⟩ := q1
  subst e
  cases r1 with
  | cons r rr =>
    cases rr
    obtain ⟨t, rfl⟩ := r
    exact call_range_1 (Zmk I1 (by omega) (by omega) q1 q2 (by simpa using q))
theorem Zpf {a b : Expr} {ta : TA} {p pos : Pos} (hg : Gl X "range") (hm : X.mg "range" = none) (ha : PA X [a, b] ta) (hs : starEach [a, b] X.env = [(false, eval a X.env), (false, eval b X.env)] := by rfl) (hs2 : starEach [b] X.env = [(false, eval b X.env)] := by rfl) :
    PI X tg (.Call (.Name "range" p) [a, b] [] pos) (Z4b ta) := by
  intro pins s σ H R I h
  refine Call_ (Zgc I hg hm boot_range (PyProof.Rows.callWith_type1 (thn (ha pos pins s σ H _ I h) fun us s1 ⟨vs, H1, I1, r1, q1⟩ => ?_) (by rw [hs, hs2]) (by rw [hs2]; rfl)))
  obtain ⟨i, j, e, ⟨q1, q2, q3, q4⟩, q⟩ := q1
  subst e
  cases r1 with
  | cons r rr =>
    cases rr with
    | cons r' rr =>
      cases rr
      obtain ⟨t, rfl⟩ := r
      obtain ⟨t', rfl⟩ := r'
      exact call_range_2 (Zmk I1 q1 q2 q3 q4 q)
noncomputable def Z7f (wi : TI) (g : TG) (tb : TS) : TS := fun D σ H => wi σ H fun J H1 => ∃ W : Nat → Nat → St → Hp → Prop, (∃ m, W 0 m σ H1) ∧ ∀ i m σ H, W i m σ H →
  (J.stop i H ∧ D.nx σ H) ∨ (J.go i H ∧ ∃ N : St → Hp → Prop, (∀ σ' H', N σ' H' → ∃ m', m' < m ∧ W (i + 1) m' σ' H') ∧ ∀ x H', J.yld i H x H' → g x σ H' fun σ2 H2 => tb { D with nx := N, ct := N, bk := D.nx } σ2 H2)
noncomputable def Zjq (fp : List Addr) (h : Heap) : List (Addr × Obj) := fp.filterMap fun b => (h.get? b).map fun o => (b, o)
theorem Zd6 {fp : List Addr} {h : Heap} {b : Addr} {o : Obj} (hb : b ∈ fp) (e : h.get? b = some o) : (b, o) ∈ Zjq fp h := List.mem_filterMap.mpr ⟨b, hb, by rw [e]; rfl⟩
theorem Zok {fp : List Addr} {h : Heap} {p : Addr × Obj} (hp : p ∈ Zjq fp h) : p.1 ∈ fp ∧ h.get? p.1 = some p.2 := by
  obtain ⟨b, hb, e⟩ := List.mem_filterMap.mp hp
  cases q : h.get? b with
  | none => rw [q] at e; cases e
  | some o =>
    rw [q] at e
    have e' : (b, o) = p := Option.some.inj e
    subst e'
    exact ⟨hb, q⟩
theorem Inv.pinned {pins : List (Addr × Obj)} {σ : St} {H : Hp} {s : Shared} {fp : List Addr} (I : Inv X pins σ H s) (hf : ∀ b ∈ fp, Zii X pins H b) (ho : ∀ b ∈ fp, ∃ o, s.heap.get? b = some o ∧ ∀ v, o.data ≠ .cell v) : Inv X (pins ++ Zjq fp s.heap) σ H s :=
  I.pins_of fun p hp => (List.mem_append.mp hp).elim (fun z => I.pin p (List.mem_append_right _ z)) fun z => by
    obtain ⟨hb, e⟩ := Zok z
    obtain ⟨f0, f1, f2, _⟩ := hf p.1 hb
    obtain ⟨o, e', d⟩ := ho p.1 hb
    rw [e] at e'; cases e'
    exact ⟨e, f0, f1, f2, d⟩
theorem Inv.unpinned {pins pl : List (Addr × Obj)} {σ : St} {H : Hp} {s : Shared} (I : Inv X (pins ++ pl) σ H s) : Inv X pins σ H s := I.pins_of fun p hp => I.pin p (List.mem_append_right _ (List.mem_append_left _ hp))
theorem Zzr {iter : Expr} {body : List Stmt} {wi : TI} {g : TG} {tb : TS} {pos : Pos} (hp : PassesOwn (model X.prog X.w) X.A X.env X.xe) (hc : X.calm = true) (hi : PI X tg iter wi) (hg : PG X tg g) (hb : PSs X body tb)
    (hs : ∀ x, foldedSetIterable iter X.env x = pure x := by intro _; rfl) : PS X (.For tg iter body [] pos) (Z7f wi g tb) := by
  intro pins s σ H D I h
  refine wpAny_For (thn (hi pins s σ H _ I h) fun v s1 h1 => thn h1 fun itv s2 h2 => ?_) hs
  obtain ⟨it, fp, tn, J, H2, e, I2, T, st2, f2, W, ⟨m0, w0⟩, turn⟩ := h2
  subst e
  -- what stays true of the iterator's objects through the loop
  have stat : ∀ {H' : Hp}, (∀ b ∈ fp, H' b = none) → ∀ b ∈ fp, Zii X pins H' b := fun hn b hb => ⟨hn b hb, (f2 b hb).2⟩
  refine codeAny_forLoop_any (fun n s' => ∃ i σ' H', Inv X pins σ' H' s' ∧ tn i s'.heap ∧ (∀ b ∈ fp, H' b = none) ∧ W i n σ' H') ?_ m0 ⟨0, σ, H2, I2, st2, fun b hb => (f2 b hb).1, w0⟩
  rintro n s3 ⟨i, σ3, H3, I3, st3, fr3, w3⟩
  rcases turn i n σ3 H3 w3 with ⟨stop, qn⟩ | ⟨go, N, hN, step⟩
  · refine wpAny_passesOwn hp (thn (T.done X rfl rfl rfl hc i pins s3 σ3 H3 X.xe I3 (stat fr3) st3 stop) fun r s4 qz9 => ?_)
    obtain ⟨hr, I4⟩ := qz9
    subst hr
    exact wpAny_execs_nil ⟨σ3, H3, I4, qn⟩
  · refine wpAny_passesOwn hp (thn (T.item X rfl rfl rfl hc i pins s3 σ3 H3 X.xe I3 (stat fr3) st3 go) fun r s4 qz9 => ?_)
    obtain ⟨u, hr, h4⟩ := qz9
    subst hr
    refine wpAny_passesOwn hp (thn h4 fun _ s5 qz9 => ?_)
    obtain ⟨x, H5, I5, r5, y5, st5, fr5⟩ := qz9
    have I5' := I5.pinned (stat fr5) (T.obj _ _ st5)
    refine wpAny_passesOwn hp (thn (hg _ s5 σ3 H5 x u _ I5' r5 (step x H5 y5)) fun _ s6 qz9 => ?_)
    obtain ⟨σ6, H6, I6, q6⟩ := qz9
    refine wpAny_passesOwn hp (thn (hb _ s6 σ6 H6 _ I6 q6) fun f s7 q7 => ?_)
    have again : ∀ {σ7 : St} {H7 : Hp}, Inv X (pins ++ Zjq fp s5.heap) σ7 H7 s7 → N σ7 H7 → ∃ m, m < n ∧ ∃ i σ' H', Inv X pins σ' H' s7 ∧ tn i s7.heap ∧ (∀ b ∈ fp, H' b = none) ∧ W i m σ' H' := fun {σ7 H7} I7 n7 => by
      obtain ⟨m', hm, w7⟩ := hN σ7 H7 n7
      refine ⟨m', hm, i + 1, σ7, H7, I7.unpinned, T.keep _ _ _ st5 fun b hb o e => (I7.pin (b, o) (List.mem_append_right _ (List.mem_append_right _ (Zd6 hb e)))).1, fun b hb => ?_, w7⟩
      obtain ⟨o, e, d⟩ := T.obj _ _ st5 b hb
      exact (I7.pin (b, o) (List.mem_append_right _ (List.mem_append_right _ (Zd6 hb e)))).2.1
    cases f with
    | next => obtain ⟨σ7, H7, I7, n7⟩ := q7; exact again I7 n7
    | cont => obtain ⟨σ7, H7, I7, n7⟩ := q7; exact again I7 n7
    | brk => obtain ⟨σ7, H7, I7, q7⟩ := q7; exact ⟨σ7, H7, I7.unpinned, q7⟩
    | ret v => obtain ⟨x7, σ7, H7, I7, r7, q7⟩ := q7; exact ⟨x7, σ7, H7, I7.unpinned, r7, q7⟩
end
end L2
namespace L2
open PySem PySem.Spec PyProof.Rows
noncomputable abbrev R2 := V → V → Hp → VK → Prop
noncomputable def OpR (X : Cx) (f : Value → Value → Sem Value) (r : R2) : Prop :=
  ∀ (pins : List (Addr × Obj)) (s : Shared) (σ : St) (H : Hp) (x y : V) (v u : Value) (Q : VK), Inv X pins σ H s → RelV x v → RelV y u → r x y H Q →
    wpAny (model X.prog X.w) X.A (f v u) (EP X pins σ Q) X.xe s
noncomputable def UnR (X : Cx) (f : Value → Sem Value) (r : V → Hp → VK → Prop) : Prop :=
  ∀ (pins : List (Addr × Obj)) (s : Shared) (σ : St) (H : Hp) (x : V) (v : Value) (Q : VK), Inv X pins σ H s → RelV x v → r x H Q →
    wpAny (model X.prog X.w) X.A (f v) (EP X pins σ Q) X.xe s
noncomputable def Zfq (X : Cx) (f : Value) (r : List V → Hp → VK → Prop) : Prop :=
  ∀ (pins : List (Addr × Obj)) (s : Shared) (σ : St) (H : Hp) (xs : List V) (us : List Value) (Q : VK), Inv X pins σ H s → Vals xs us → r xs H Q →
    wpAny (model X.prog X.w) X.A (call f us) (EP X pins σ Q) X.xe s
noncomputable def Z6t (X : Cx) (r : V → Hp → (Bool → Hp → Prop) → Prop) : Prop :=
  ∀ (pins : List (Addr × Obj)) (s : Shared) (σ : St) (H : Hp) (x : V) (v : Value) (Q : Bool → Hp → Prop), Inv X pins σ H s → RelV x v → r x H Q →
    wpAny (model X.prog X.w) X.A (truthy v) (TP X pins σ Q) X.xe s
noncomputable def tOp (r : R2) (ta tb : TE) : TE := fun σ H Q => ta σ H fun x H1 => tb σ H1 fun y H2 => r x y H2 Q
noncomputable def tUn (r : V → Hp → VK → Prop) (ta : TE) : TE := fun σ H Q => ta σ H fun x H1 => r x H1 Q
noncomputable def rI (C : Int → Int → Prop) (g : Int → Int → V) : R2 := fun x y H Q => ∃ i j, x = .int i ∧ y = .int j ∧ C i j ∧ Q (g i j) H
noncomputable def rI0 (g : Int → Int → V) : R2 := fun x y H Q => ∃ i j, x = .int i ∧ y = .int j ∧ Q (g i j) H
noncomputable def rU (g : Int → V) : V → Hp → VK → Prop := fun x H Q => ∃ i, x = .int i ∧ Q (g i) H
section
variable {X : Cx} {a b c : Expr} {ta tb tc : TE} {pos : Pos}
theorem Z4k (ha : PE X a ta) (hb : PE X b tb) {pins : List (Addr × Obj)} {s : Shared} {σ : St} {H : Hp} {R : V → V → Hp → Prop} (I : Inv X pins σ H s)
    (h : ta σ H fun x H1 => tb σ H1 fun y H2 => R x y H2) {Q : Value → Shared → Prop} {f : Value → Value → Sem Value}
    (hf : ∀ v u s2 x y H2, Inv X pins σ H2 s2 → RelV x v → RelV y u → R x y H2 → wpAny (model X.prog X.w) X.A (f v u) Q X.xe s2) :
    wpAny (model X.prog X.w) X.A (eval a X.env) (fun v s₁ => wpAny (model X.prog X.w) X.A (eval b X.env) (fun u s₂ => wpAny (model X.prog X.w) X.A (f v u) Q X.xe s₂) X.xe s₁) X.xe s := by
  refine thn (ha pins s σ H _ I h) fun v s1 qz9 => ?_
  obtain ⟨x, H1, I1, r1, q1⟩ := qz9
  refine thn (hb pins s1 σ H1 _ I1 q1) fun u s2 qz9 => ?_
  obtain ⟨y, H2, I2, r2, q2⟩ := qz9
  exact hf v u s2 x y H2 I2 r1 r2 q2
theorem Zvg {op : Operator} {r : R2} (ho : OpR X (binaryOp op) r) (ha : PE X a ta) (hb : PE X b tb) : PE X (.BinOp a op b pos) (tOp r ta tb) := by
  intro pins s σ H Q I h
  exact wpAny_BinOp (Z4k ha hb I h fun v u s2 x y H2 I2 rx ry q => ho pins s2 σ H2 x y v u Q I2 rx ry q)
theorem Z2y {op : UnaryOp} {r : V → Hp → VK → Prop} (ho : UnR X (unaryOp op) r) (ha : PE X a ta) : PE X (.UnaryOp op a pos) (tUn r ta) := by
  intro pins s σ H Q I h
  refine UnaryOp_ (thn (ha pins s σ H _ I h) fun v s1 qz9 => ?_)
  obtain ⟨x, H1, I1, r1, q1⟩ := qz9
  exact ho pins s1 σ H1 x v Q I1 r1 q1
theorem opI {f : Value → Value → Sem Value} {C : Int → Int → Prop} {g : Int → Int → Int}
    (rule : ∀ (i j : Int) (t u : Tok) (s : Shared) (Q : Value → Shared → Prop) (E : Value → Shared → Prop), C i j → Q (.int (g i j) s.toks) { s with toks := s.toks + 1 } → wpAny (model X.prog X.w) X.A (f (.int i t) (.int j u)) Q E s) :
    OpR X f (rI C fun i j => .int (g i j)) := by
  intro pins s σ H x y v u Q I rx ry h
  obtain ⟨i, j, rfl, rfl, hc, q⟩ := h
  obtain ⟨t, rfl⟩ := rx
  obtain ⟨t', rfl⟩ := ry
  exact rule i j t t' s _ _ hc ⟨.int (g i j), H, I.tok _, ⟨_, rfl⟩, q⟩
theorem Z5k {f : Value → Value → Sem Value} {g : Int → Int → Int}
    (rule : ∀ (i j : Int) (t u : Tok) (s : Shared) (Q : Value → Shared → Prop) (E : Value → Shared → Prop), Q (.int (g i j) s.toks) { s with toks := s.toks + 1 } → wpAny (model X.prog X.w) X.A (f (.int i t) (.int j u)) Q E s) :
    OpR X f (rI0 fun i j => .int (g i j)) := by
  intro pins s σ H x y v u Q I rx ry h
  obtain ⟨i, j, rfl, rfl, q⟩ := h
  obtain ⟨t, rfl⟩ := rx
  obtain ⟨t', rfl⟩ := ry
  exact rule i j t t' s _ _ ⟨.int (g i j), H, I.tok _, ⟨_, rfl⟩, q⟩
theorem Z3a {f : Value → Value → Sem Value} {g : Int → Int → Bool}
    (rule : ∀ (i j : Int) (t u : Tok) (s : Shared) (Q : Value → Shared → Prop) (E : Value → Shared → Prop), Q (.bool (g i j)) s → wpAny (model X.prog X.w) X.A (f (.int i t) (.int j u)) Q E s) :
    OpR X f (rI0 fun i j => .bl (g i j)) := by
  intro pins s σ H x y v u Q I rx ry h
  obtain ⟨i, j, rfl, rfl, q⟩ := h
  obtain ⟨t, rfl⟩ := rx
  obtain ⟨t', rfl⟩ := ry
  exact rule i j t t' s _ _ ⟨.bl (g i j), H, I, rfl, q⟩
noncomputable def Z12 (i j : Int) : Prop := 0 ≤ j ∧ j ≤ 1000000 ∧ i.natAbs < 2 ^ 64
noncomputable def CMul (i j : Int) : Prop := (-(2 ^ 64) < i ∧ i < 2 ^ 64) ∨ (-(2 ^ 64) < j ∧ j < 2 ^ 64)
theorem CMul.ok {i j : Int} (h : CMul i j) : IntMulOk i j := by
  rcases h with ⟨h1, h2⟩ | ⟨h1, h2⟩
  · exact .of_left (intBits_le_64 h1 h2)
  · exact .of_right (intBits_le_64 h1 h2)
theorem Zd5 : OpR X (binaryOp .Add) (rI0 fun i j => .int (i + j)) := Z5k fun _ _ _ _ _ _ _ q => add_int q
theorem Zh7 : OpR X (binaryOp .Sub) (rI0 fun i j => .int (i - j)) := Z5k fun _ _ _ _ _ _ _ q => sub_int q
theorem Wv : OpR X (binaryOp .Mod) (rI (fun _ j => j ≠ 0) fun i j => .int (i.fmod j)) := opI fun _ _ _ _ _ _ _ hc q => mod_int' hc q
theorem Z0t : OpR X (binaryOp .Pow) (rI Z12 fun i j => .int (i ^ j.toNat)) := opI fun _ _ _ _ _ _ _ hc q => pow_int_small hc.1 hc.2.1 hc.2.2 q
theorem unI {f : Value → Sem Value} {g : Int → Int}
    (rule : ∀ (i : Int) (t : Tok) (s : Shared) (Q : Value → Shared → Prop) (E : Value → Shared → Prop), Q (.int (g i) s.toks) { s with toks := s.toks + 1 } → wpAny (model X.prog X.w) X.A (f (.int i t)) Q E s) :
    UnR X f (rU fun i => .int (g i)) := by
  intro pins s σ H x v Q I rx h
  obtain ⟨i, rfl, q⟩ := h
  obtain ⟨t, rfl⟩ := rx
  exact rule i t s _ _ ⟨.int (g i), H, I.tok _, ⟨_, rfl⟩, q⟩
theorem Z1d : UnR X (unaryOp .USub) (rU fun i => .int (-i)) := unI fun _ _ _ _ _ q => neg_int q
end
section
variable {X : Cx} {a b c : Expr} {ta tb tc : TE} {pos : Pos}
theorem Znr : OpR X (compareOp .Lt) (rI0 fun i j => .bl (decide (i < j))) := Z3a fun _ _ _ _ _ _ _ q => lt_int q
theorem Zxb : OpR X (compareOp .Gt) (rI0 fun i j => .bl (decide (j < i))) := Z3a fun _ _ _ _ _ _ _ q => gt_int q
theorem Zze : OpR X (compareOp .GtE) (rI0 fun i j => .bl (decide (j ≤ i))) := Z3a fun _ _ _ _ _ _ _ q => ge_int q
theorem Wo (b : Expr) {op : CmpOp} (h : op ≠ .In := by decide) (h2 : op ≠ .NotIn := by decide) : behindInMarks op b = false := by
  have e1 : (op == CmpOp.In) = false := by cases op <;> first | rfl | exact absurd rfl h
  have e2 : (op == CmpOp.NotIn) = false := by cases op <;> first | rfl | exact absurd rfl h2
  cases b <;> simp [behindInMarks, e1, e2]
theorem Zvf {op : CmpOp} {r : R2} (ho : OpR X (compareOp op) r) (ha : PE X a ta) (hb : PE X b tb) (hm : behindInMarks op b = false) : PE X (.Compare a [op] [b] pos) (tOp r ta tb) := by
  intro pins s σ H Q I h
  exact wpAny_Compare1 (Z4k ha hb I h fun v u s2 x y H2 I2 rx ry q => ho pins s2 σ H2 x y v u Q I2 rx ry q) hm
noncomputable def Z09 (t : TE) : TT := fun σ H Q => t σ H fun x H' => ∃ k, x = .bl k ∧ Q k H'
theorem Zu5 {op : CmpOp} {r : R2} (ho : OpR X (compareOp op) r) (ha : PE X a ta) (hb : PE X b tb) (hm : behindInMarks op b = false) : PT X (.Compare a [op] [b] pos) (Z09 (tOp r ta tb)) := by
  intro pins s σ H Q I h
  refine wpAny_isTrue_Compare1 (thn (ha pins s σ H _ I h) fun v s1 ⟨x, H1, I1, r1, q1⟩ => thn (hb pins s1 σ H1 _ I1 q1) fun u s2 ⟨y, H2, I2, r2, q2⟩ =>
    thn (ho pins s2 σ H2 x y v u _ I2 r1 r2 q2) fun c s3 ⟨z, H3, I3, r3, k, e, q3⟩ => ?_) hm
  subst e
  cases r3
  exact wpAny_truthy_bool ⟨H3, I3, q3⟩
noncomputable def Z3g (K : PySem.W.Frag) (x : V) (H : Hp) (k : Bool) : Prop :=
  match x with
  | .non => k = false
  | .bl b => k = b
  | .int i => k = (i != 0)
  | .str y => y.length ≤ sizeLine ∧ k = ((y.length : Int) != 0)
  | .byt y => y.size ≤ sizeLine ∧ k = ((y.size : Int) != 0)
  | .ref p => (∃ xs, SqL K H p xs ∧ k = !xs.isEmpty) ∨ (∃ xs, SqT K H p xs ∧ k = !xs.isEmpty) ∨ ∃ kvs, H p = some (.dK kvs) ∧ k = !kvs.isEmpty
  | _ => False
theorem Znl {κ : Type} {kvs : List (κ × V)} {vs : List (κ × Value)} (r : KV kvs vs) : (!vs.isEmpty) = !kvs.isEmpty := by
  cases r <;> rfl
theorem Zih {xs : List V} {its : List Value} (r : Vals xs its) : (!its.toArray.isEmpty) = !xs.isEmpty := by
  cases r <;> simp
theorem Zig : (sizeLine : Nat) < 2 ^ 63 := by rw [sizeLine_eq]; decide
theorem Z0e : Z6t X (fun x H Q => ∃ k, Z3g X.K x H k ∧ Q k H) := by
  intro pins s σ H x v Q I rx h
  obtain ⟨k, e, q⟩ := h
  have hl := Zig
  have hs : sizeLine = 16777216 := sizeLine_eq
  cases x with
  | non =>
    cases rx
    have e' : k = false := e
    subst e'
    exact truthy_none ⟨H, I, q⟩
  | bl b =>
    cases rx
    have e' : k = b := e
    subst e'
    exact wpAny_truthy_bool ⟨H, I, q⟩
  | int i =>
    obtain ⟨t, rfl⟩ := rx
    have e' : k = (i != 0) := e
    subst e'
    exact PySem.P.truthy_int ⟨H, I, q⟩
  | str y =>
    obtain ⟨t, rfl⟩ := rx
    obtain ⟨hy, e'⟩ : y.length ≤ sizeLine ∧ k = ((y.length : Int) != 0) := e
    subst e'
    exact PySem.P.truthy_str (by omega) ⟨H, I.tok _, q⟩
  | byt y =>
    obtain ⟨t, rfl⟩ := rx
    obtain ⟨hy, e'⟩ : y.size ≤ sizeLine ∧ k = ((y.size : Int) != 0) := e
    subst e'
    exact PySem.W.truthy_bytes (by omega) ⟨H, I.tok _, q⟩
  | ref p =>
    cases rx
    have e' : (∃ xs, SqL X.K H p xs ∧ k = !xs.isEmpty) ∨ (∃ xs, SqT X.K H p xs ∧ k = !xs.isEmpty) ∨ ∃ kvs, H p = some (.dK kvs) ∧ k = !kvs.isEmpty := e
    rcases e' with ⟨xs, hx, e'⟩ | ⟨xs, hx, e'⟩ | ⟨kvs, hx, e'⟩
    · subst e'
      obtain ⟨its, r, pl, hz⟩ := I.list hx
      have hlen := r.length
      exact wpAny_truthy_list pl.isList (by simp only [List.size_toArray]; omega) ⟨H, I.tok _, by rw [Zih r]; exact q⟩
    · subst e'
      obtain ⟨its, r, pl, hz⟩ := I.tuple hx
      have hlen := r.length
      exact truthy_tuple pl (by simp only [List.size_toArray]; omega) ⟨H, I.tok _, by rw [Zih r]; exact q⟩
    · subst e'
      obtain ⟨hz, hS, vs, r, m⟩ : kvs.length ≤ sizeLine ∧ (p == sysModules) = false ∧ ∃ vs, KV kvs vs ∧ s.heap.DictOf (Zlk X.prog X.w) p vs := I.hok p _ hx
      have hlen : kvs.length = vs.length := Paired.length r
      exact wpAny_truthy_dict hS m (by omega) ⟨H, I.tok _, by rw [Znl r]; exact q⟩
  | _ => exact (show False from e).elim
theorem Zsi (ha : PE X a ta) (he : ∀ whole, isTrue a X.env whole = (do let v ← whole; standAt a.pos; holding [v] (truthy v))) :
    PT X a (fun σ H Q => ta σ H fun x H' => ∃ k, Z3g X.K x H' k ∧ Q k H') := by
  intro pins s σ H Q I h
  refine isTrue_plain (thn (ha pins s σ H _ I h) fun v s1 qz9 => ?_) (he _)
  obtain ⟨x, H1, I1, r1, q1⟩ := qz9
  exact Z0e pins s1 σ H1 x v Q I1 r1 q1
theorem vals1 {x : V} {us : List Value} (r : Vals [x] us) : ∃ u, us = [u] ∧ RelV x u := by
  cases r with
  | cons r1 r2 => cases r2; exact ⟨_, rfl, r1⟩
theorem vals2 {x y : V} {us : List Value} (r : Vals [x, y] us) : ∃ u w', us = [u, w'] ∧ RelV x u ∧ RelV y w' := by
  cases r with
  | cons r1 r2 =>
    cases r2 with
    | cons r3 r4 => cases r4; exact ⟨_, _, rfl, r1, r3⟩
theorem Zfe : Zfq X (.builtin "abs") (fun xs H Q => ∃ i, xs = [.int i] ∧ Q (.int (if i < 0 then -i else i)) H) := by
  intro pins s σ H xs us Q I r h
  obtain ⟨i, rfl, q⟩ := h
  obtain ⟨u, rfl, t, rfl⟩ := vals1 r
  exact call_abs_int fun u tk => ⟨.int (if i < 0 then -i else i), H, I.tok _, ⟨_, rfl⟩, q⟩
end
end L2
namespace L2
open PySem PySem.Spec PyProof.Rows
structure ObjM (h : Heap) (x dx C : Addr) (mA : Str → Option Value) : Prop where
  obj : h.get? x = some (PySem.W.instObj C dx)
  ns : h.Ns1 dx mA
  ne : dx ≠ x
theorem Zp2 {h : Heap} {dx : Addr} {mA : Str → Option Value} (n : h.Ns1 dx mA) : ∃ od, h.get? dx = some od ∧ ∀ name, PySem.W.lookIn name od = some (mA name) := by
  obtain ⟨o, es, ep, ho, hd, hk, _, hm⟩ := n
  refine ⟨o, ho, fun name => ?_⟩
  have e := hm name
  unfold nsFind findBy at e
  rw [← Array.find?_toList] at e
  unfold PySem.W.lookIn
  rw [hd]
  dsimp only
  split
  · rename_i y q
    rw [q] at e
    exact congrArg some e
  · rename_i q
    rw [q] at e
    have a : es.toList.any (·.refKey) = false := by
      rw [List.any_eq_false]
      intro y hy
      obtain ⟨z, t, hkey⟩ := hk y (Array.mem_toList_iff.mp hy)
      simp [DictEntry.refKey, hkey]
    have a' : ¬ es.toList.any (·.refKey) = true := by rw [a]; exact Bool.false_ne_true
    rw [if_neg a']
    exact congrArg some e
theorem ObjM.look {h : Heap} {x dx C : Addr} {mA : Str → Option Value} (I : ObjM h x dx C mA) : ∃ od, PySem.W.InstAt h x (PySem.W.instObj C dx) C (some od) ∧ ∀ name, PySem.W.lookIn name od = some (mA name) :=
  let ⟨od, ho, hl⟩ := Zp2 I.ns
  ⟨od, ⟨I.obj, rfl, rfl, ho⟩, hl⟩
section
variable {prog : Program} {w : World} {A : Around} {E : Value → Shared → Prop} {s : Shared} {K : PySem.W.Frag} {x dx C f : Addr} {mA : Str → Option Value} {name : Str} {v : Value}
end
section
variable {P : Program} {w : World} {H H' : Hp} {h h' : Heap} {a C dx : Addr} {fs fs' : List (Str × V)}
theorem Zw2 (hok : HOk P w H h) (e : H a = some (.ins C dx fs)) : ∃ mA, ObjM h a dx C mA ∧ (∀ f, Z4n (fs.lookup f) (mA f)) ∧ PySem.Within mA (fs.map (·.1)) ∧ fs.length ≤ 1000 ∧ H dx = some (.own a) := by
  obtain ⟨d, z, ne, ob, mA, n, r, q⟩ := (show ObjOk P w H h a (.ins C dx fs) from hok a _ e)
  exact ⟨mA, ⟨ob, n, ne⟩, r, q, z, d⟩
end
structure Cls (K : PySem.W.Frag) (C : Addr) : Prop where
  pg : PySem.W.plainGet K C Str.empty = true
  hd : PySem.W.hasDictIn K C = true
  po : PySem.W.plainOver K C = true
  sa : PySem.W.findIn K (.ref C) "__setattr__" = some (some (.builtin "object.__setattr__"))
theorem Cls.get {K : PySem.W.Frag} {C : Addr} (c : Cls K C) (f : Str) : PySem.W.plainGet K C f = true := c.pg
structure Con (K : PySem.W.Frag) (C : Addr) (f : Str) (v : V) (u : Value) : Prop where
  at_ : PySem.W.findIn K (.ref C) f = some (some u)
  rel : RelV v u
  get : PySem.W.specialIn K u "__get__" = some none
  cp : PySem.W.copiedNames.contains f = false
structure Meth (K : PySem.W.Frag) (C : Addr) (m : Str) (f : Addr) : Prop where
  at_ : PySem.W.findIn K (.ref C) m = some (some (.ref f))
  fn : PySem.W.isFn K (.ref f) = true
  kp : PySem.W.keepIn K (.ref f) = true
section
variable {X : Cx} {pins : List (Addr × Obj)} {σ : St} {H : Hp} {s : Shared} {a C dx : Addr} {fs : List (Str × V)} {f : Str} {v : V} {A : Around} {E : Value → Shared → Prop}
end
section
variable {X : Cx} {o e value : Expr} {f : Str} {pos pos' tpos : Pos} {ta tv : TE}
end
section
variable {X : Cx} {pins : List (Addr × Obj)} {σ : St} {H : Hp} {s : Shared} {A : Around} {E : Value → Shared → Prop} {Q : Value → Shared → Prop} {c : Value} {b : Bool}
inductive Zn6 (K : PySem.W.Frag) (H : Hp) : V → Value → Prop where
  | non : Zn6 K H .non (.type "NoneType")
  | bl (x : Bool) : Zn6 K H (.bl x) (.type "bool")
  | int (i : Int) : Zn6 K H (.int i) (.type "int")
  | str (x : Str) : Zn6 K H (.str x) (.type "str")
  | flt (x : UInt64) : Zn6 K H (.flt x) (.type "float")
  | lst {a : Addr} {xs : List V} (e : H a = some (.lst xs)) : Zn6 K H (.ref a) (.type "list")
  | frz {a : Addr} {o : Obj} {xs : List V} (e : H a = some (.frz o (.lst xs))) : Zn6 K H (.ref a) (.type "list")
  | tup {a : Addr} {xs : List V} (e : H a = some (.tup xs)) : Zn6 K H (.ref a) (.type "tuple")
  | dK {a : Addr} {kvs : List (Key × V)} (e : H a = some (.dK kvs)) : Zn6 K H (.ref a) (.type "dict")
  | dT {a : Addr} {kvs : List (List Key × V)} (e : H a = some (.dT kvs)) : Zn6 K H (.ref a) (.type "dict")
  | ins {a C dx : Addr} {fs : List (Str × V)} (e : H a = some (.ins C dx fs)) (cl : Cls K C) (ha : PySem.W.findIn K (.ref C) "__class__" = some (some (.builtin "object.__class__")))
      (hn : PySem.W.specialIn K (.builtin "object.__class__") "__get__" = some (some (.builtin "getset_descriptor.__get__"))) (htk : PySem.W.takesIn K (.builtin "object.__class__") = some true)
      (hm : PySem.W.mroIn K C (.type "object") = some true) : Zn6 K H (.ref a) (.ref C)
theorem Zb9 {x : V} {u t : Value} (I : Inv X pins σ H s) (rx : RelV x u) (ty : Zn6 X.K H x t) (e : PySem.W.kitOne X.K t c = some b) (h : ∀ tk, Q (.bool b) { s with toks := tk }) :
    wpAny (model X.prog X.w) A (call (.builtin "isinstance") [u, c]) Q E s := by
  cases ty with
  | non => cases (show u = Value.none from rx); exact PySem.W.kia_one PySem.W.kitx_none I.kIn True.intro e (fun z => nomatch z) h
  | bl y => cases (show u = Value.bool y from rx); exact PySem.W.kia_one PySem.W.kitx_bool I.kIn True.intro e (fun z => nomatch z) h
  | int i => obtain ⟨t, q⟩ := (show ∃ t, u = Value.int i t from rx); cases q; exact PySem.W.kia_one PySem.W.kitx_int I.kIn True.intro e (fun z => nomatch z) h
  | str y => obtain ⟨t, q⟩ := (show ∃ t, u = Value.str y t from rx); cases q; exact PySem.W.kia_one PySem.W.kitx_str I.kIn True.intro e (fun z => nomatch z) h
  | flt y => obtain ⟨t, q⟩ := (show ∃ t, u = Value.float y t from rx); cases q; exact PySem.W.kia_one PySem.W.kitx_float I.kIn True.intro e (fun z => nomatch z) h
  | @lst a xs ea =>
    cases (show u = Value.ref a from rx)
    obtain ⟨_, _, n, _, h1⟩ := (show ObjOk X.prog X.w H s.heap a (.lst xs) from I.hok a _ ea)
    exact PySem.W.kia_one PySem.W.kitx_list I.kIn ⟨_, h1, rfl⟩ e (fun z => nomatch z) h
  | @frz a ob xs ea =>
    cases (show u = Value.ref a from rx)
    obtain ⟨_, _, _, n, _, h1⟩ := (show ObjOk X.prog X.w H s.heap a (.frz ob (.lst xs)) from I.hok a _ ea)
    exact PySem.W.kia_one PySem.W.kitx_list I.kIn ⟨_, h1, rfl⟩ e (fun z => nomatch z) h
  | @tup a xs ea =>
    cases (show u = Value.ref a from rx)
    obtain ⟨_, _, _, p⟩ := (show ObjOk X.prog X.w H s.heap a (.tup xs) from I.hok a _ ea)
    obtain ⟨o, h1, h2, _⟩ := p
    exact PySem.W.kia_one PySem.W.kitx_tuple I.kIn ⟨o, h1, h2⟩ e (fun z => nomatch z) h
  | @dK a kvs ea =>
    cases (show u = Value.ref a from rx)
    obtain ⟨_, _, vs, _, p⟩ := (show ObjOk X.prog X.w H s.heap a (.dK kvs) from I.hok a _ ea)
    obtain ⟨o, es, ep, h1, h2, _⟩ := p
    exact PySem.W.kia_one PySem.W.kitx_dict I.kIn ⟨o, h1, h2.1⟩ e (fun z => nomatch z) h
  | @dT a kvs ea =>
    cases (show u = Value.ref a from rx)
    obtain ⟨_, _, xs, _, o, es, ep, h1, h2, _⟩ := (show ObjOk X.prog X.w H s.heap a (.dT kvs) from I.hok a _ ea)
    exact PySem.W.kia_one PySem.W.kitx_dict I.kIn ⟨o, h1, h2.1⟩ e (fun z => nomatch z) h
  | @ins a C dx fs ea cl ha hn htk hm =>
    cases (show u = Value.ref a from rx)
    obtain ⟨mA, O, _⟩ := Zw2 I.hok ea
    obtain ⟨od, J, _⟩ := O.look
    exact PySem.W.kia_one (PySem.W.kitx_own (cl.get _) cl.hd ha hn htk hm) I.kIn J e (fun z => nomatch z) h
end
end L2
namespace L2
open PySem PySem.Spec PyProof.Rows
structure Room (k : Nat) (A : Around) : Prop where
  hd : A.handled = none
  dp : A.depth + 3 * k + 5 < recursionLimit
  un : A.units + 16 * k + 200 < cLine
theorem Room.mono {j k : Nat} {A : Around} (r : Room k A) (h : j ≤ k) : Room j A := ⟨r.hd, by have := r.dp; omega, by have := r.un; omega⟩
theorem Room.deeper {k : Nat} {A : Around} (r : Room (k + 1) A) (env : Env) : Room k (A.deeper env) :=
  ⟨r.hd, by have := r.dp; show A.depth + 1 + 3 * k + 5 < _; omega, by have := r.un; show A.units + 3 + 16 * k + 200 < _; omega⟩
theorem Room.depth {k : Nat} {A : Around} (r : Room k A) : A.depth < recursionLimit := by have := r.dp; omega
theorem Room.units {k : Nat} {A : Around} (r : Room k A) : A.units + 64 < cLine := by have := r.un; omega
noncomputable def Z66 : TA := fun _ H Q => Q [] H
noncomputable def Z36 (ta : TE) (tr : TA) : TA := fun σ H Q => ta σ H fun x H1 => tr σ H1 fun xs H2 => Q (x :: xs) H2
section
variable {X : Cx} {e : Expr} {es : List Expr} {te : TE} {t : TA} {pos : Pos}
theorem Zl2 : PA X [] Z66 := fun _ _ _ _ H Q I h => Calls.spliced_nil ⟨[], H, I, .nil, h⟩
theorem Zg9 (ha : PE X e te) (hr : PA X es t) (hs : starEach (e :: es) X.env = (false, eval e X.env) :: starEach es X.env := by rfl) : PA X (e :: es) (Z36 te t) := by
  intro pos pins s σ H Q I h
  rw [hs]
  show wpAny _ _ (spliced ((false, eval e X.env) :: backTo pos (starEach es X.env))) _ _ s
  refine Calls.spliced_cons (thn (ha pins s σ H _ I h) fun u s1 qz9 => ?_)
  obtain ⟨x, H1, I1, r1, q1⟩ := qz9
  refine thn (hr pos pins s1 σ H1 _ I1 q1) fun us s2 qz9 => ?_
  obtain ⟨xs, H2, I2, r2, q2⟩ := qz9
  exact ⟨x :: xs, H2, I2, .cons r1 r2, q2⟩
noncomputable def Z60 (t : TA) : TE := fun σ H Q => t σ H fun xs H1 => xs.length ≤ sizeLine ∧ ∀ p, H1 p = none → Q (.ref p) (upd H1 p (.tup xs))
noncomputable def Z72 (t : TA) : TE := fun σ H Q => t σ H fun xs H1 => xs.length ≤ sizeLine ∧ ∀ p, H1 p = none → Q (.ref p) (upd H1 p (.lst xs))
theorem Z0j {x1} (h : PA X es t) : PE X (.Tuple es x1 pos) (Z60 t) := by
  intro pins s σ H Q I hq
  refine wpAny_Tuple_spliced (thn (h pos pins s σ H _ I hq) fun us s1 ⟨xs, H1, I1, r, z, q⟩ => ⟨by rw [← r.length]; exact z, ?_⟩)
  have hf : H1 s1.heap.objs.size = none := I1.hok.fresh (Nat.le_refl _)
  refine ⟨.ref s1.heap.objs.size, upd H1 s1.heap.objs.size (.tup xs), I1.laid (t' := s1.toks) (fun b u e => Heap.get?_push_of_some _ e) (Nat.le_refl _) ?_, rfl, q _ hf⟩
  exact ⟨z, us, r, ⟨_, Heap.get?_push_size _ rfl, rfl, _, rfl⟩⟩
theorem Ztg (h : PA X es t) : PE X (.List es pos) (Z72 t) := by
  intro pins s σ H Q I hq
  refine wpAny_List_spliced (thn (h pos pins s σ H _ I hq) fun us s1 ⟨xs, H1, I1, r, z, q⟩ => ⟨by rw [← r.length]; exact z, ?_⟩)
  have hf : H1 s1.heap.objs.size = none := I1.hok.fresh (Nat.le_refl _)
  refine ⟨.ref s1.heap.objs.size, upd H1 s1.heap.objs.size (.lst xs), I1.laid (t' := s1.toks) (fun b u e => Heap.get?_push_of_some _ e) (Nat.le_refl _) ?_, rfl, q _ hf⟩
  exact ⟨z, us, 0, r, Heap.get?_push_size _ rfl⟩
end
noncomputable abbrev Sp := List V → Hp → VK → XK → Prop
noncomputable abbrev CXT := List Env → Hp → Shared → XK → Value → Shared → Prop
structure Z14 (P : Program) (w : World) (K : PySem.W.Frag) (mg : Str → Option Value) (base : Heap) (A : Around) (outer : List Env) (s : Shared) (H : Hp) : Prop where
  frames : A.frames = some outer
  mod : Mod K mg base
  bs : ∀ b o, base.get? b = some o → s.heap.get? b = some o ∧ H b = none
  bsz : base.objs.size ≤ s.heap.objs.size
  funs : s.heap.FunFrames base outer
  frf : ∀ b ∈ frs outer, H b = none
  hok : HOk P w H s.heap
  bare : AllBare s.gens
noncomputable def CE (outer : List Env) (P : Program) (w : World) (H : Hp) (s : Shared) (Q : VK) (u : Value) (s' : Shared) : Prop :=
  ∃ v H', s'.os = s.os ∧ AllBare s'.gens ∧ Un (frs outer) [] H H' s.heap s'.heap ∧ HOk P w H' s'.heap ∧ RelV v u ∧ Q v H'
noncomputable def CR (CX : CXT) (outer : List Env) (P : Program) (w : World) (H : Hp) (s : Shared) (Q : VK) (E : XK) (r : Result) (s' : Shared) : Prop :=
  match r with
  | .ok (.ret u) => CE outer P w H s Q u s'
  | .ok _ => False
  | .error e => CX outer H s E e s'
structure FnOk (P : Program) (w : World) (K : PySem.W.Frag) (mg : Str → Option Value) (base : Heap) (CX : CXT) (k : Nat) (f : Addr) (fd : FuncData) (ps : List Str) (sp : Sp) : Prop where
  len : ∀ vs H Q E, sp vs H Q E → vs.length = ps.length
  run : ∀ (A : Around) (outer : List Env) (s : Shared) (H : Hp) (args : Args) (us : List Value) (vs : List V) (Q : VK) (E : XK), Room k A → Z14 P w K mg base A outer s H → BindsTo s fd args (ps.zip us) → Vals vs us → sp vs H Q E →
    codeAny (model P w) A (.call (.ref f) args) (CR CX outer P w H s Q E) s
theorem FnOk.imp {P : Program} {w : World} {K : PySem.W.Frag} {mg : Str → Option Value} {base : Heap} {CX : CXT} {k : Nat} {f : Addr} {fd : FuncData} {ps : List Str} {sp sp' : Sp} (F : FnOk P w K mg base CX k f fd ps sp)
    (h : ∀ vs H Q E, sp' vs H Q E → sp vs H Q E) : FnOk P w K mg base CX k f fd ps sp' :=
  ⟨fun vs H Q E q => F.len vs H Q E (h _ _ _ _ q), fun A outer s H args us vs Q E hr he hb hv hs => F.run A outer s H args us vs Q E hr he hb hv (h _ _ _ _ hs)⟩
section
variable {X : Cx} {pins : List (Addr × Obj)} {σ : St} {H : Hp} {s s' : Shared}
theorem Inv.env0 (I : Inv X pins σ H s) : Z14 X.prog X.w X.K X.mg X.base X.A X.stack s H :=
  ⟨I.ok.frames, I.ok.mod, I.bs, Nat.le_trans I.ok.bsz I.sz, I.stack, I.stkFree, I.hok, I.bare⟩
theorem Inv.after {Q : VK} {u : Value} (I : Inv X pins σ H s) (h : CE X.stack X.prog X.w H s Q u s') : EP X pins σ Q u s' := by
  obtain ⟨v, H', os, bare, un, hok, r, q⟩ := h
  obtain ⟨hh, g, d, t, os'⟩ := s'
  obtain rfl : os' = s.os := os
  exact ⟨v, H', I.call (h' := hh) (g' := g) (d' := d) (t' := t) (ch := []) un hok bare (fun b z => absurd z (by simp)), r, q⟩
end
noncomputable def Zym (sp : Sp) (dvs : List V) (E : XK) (t : TA) : TE := fun σ H Q => t σ H fun vs H1 => sp (vs ++ dvs) H1 Q E
noncomputable def Binds (K : PySem.W.Frag) (fd : FuncData) (ps : List Str) (ds : List Value) : Prop :=
  ∀ (s : Shared) (us : List Value), K.In s.heap → (us ++ ds).length = ps.length → BindsTo s fd ⟨us, []⟩ (ps.zip (us ++ ds))
theorem Binds.all {K : PySem.W.Frag} {fd : FuncData} {ps : List Str} (h : ∀ us : List Value, us.length = ps.length → bindArgs fd ⟨us, []⟩ = pure (ps.zip us)) : Binds K fd ps [] := fun s us _ hl => by
  rw [List.append_nil] at hl ⊢
  exact .of_eq (h us hl)
noncomputable def Zmo (CX : CXT) (X : Cx) (E : XK) : Prop := ∀ (pins : List (Addr × Obj)) (σ : St) (H : Hp) (s : Shared) (e : Value) (s' : Shared), Inv X pins σ H s → CX X.stack H s E e s' → X.xe e s'
section
variable {X : Cx} {CX : CXT} {k : Nat} {f C : Addr} {fd : FuncData} {ps : List Str} {sp : Sp} {dvs : List V} {ds : List Value} {E : XK} {x m : Str} {p pos apos : Pos} {e o : Expr} {es : List Expr} {ta : TE} {t : TA}
theorem Z0m {pins : List (Addr × Obj)} {σ : St} {H : Hp} {s : Shared} {Q : VK} {us : List Value} {vs : List V} (F : FnOk X.prog X.w X.K X.mg X.base CX k f fd ps sp) (hr : Room k X.A) (hb : Binds X.K fd ps ds) (hd : Vals dvs ds) (hx : Zmo CX X E)
    (I : Inv X pins σ H s) (r : Vals vs us) (h : sp (vs ++ dvs) H Q E) : wpAny (model X.prog X.w) X.A (call (.ref f) us) (EP X pins σ Q) X.xe s := by
  have r2 : Vals (vs ++ dvs) (us ++ ds) := r.append hd
  have hl : (us ++ ds).length = ps.length := by rw [← r2.length]; exact F.len _ _ _ _ h
  refine wpAny_call (codeAny_mono (F.run X.A X.stack s H ⟨us, []⟩ (us ++ ds) (vs ++ dvs) Q E hr I.env0 (hb s us I.kIn hl) r2 h) fun r s' hq => ?_)
  cases r with
  | error e => exact hx pins σ H s e s' I hq
  | ok fl =>
    cases fl with
    | ret u => exact I.after hq
    | next => exact False.elim hq
    | brk => exact False.elim hq
    | cont => exact False.elim hq
theorem Zxd (F : FnOk X.prog X.w X.K X.mg X.base CX k f fd ps sp) (hr : Room k X.A) (hg : Gl X x) (hm : X.mg x = some (.ref f)) (hk : PySem.W.keepIn X.K (.ref f) = true) (hb : Binds X.K fd ps ds) (hd : Vals dvs ds) (hx : Zmo CX X E)
    (ha : PA X (e :: es) t) (hdb : (x == ("__debug__" : Str)) = false := by decide) (he : starEach (e :: es) X.env = (false, eval e X.env) :: starEach es X.env := by rfl) (hpl : (backTo pos (starEach es X.env)).any (·.1) = false := by rfl) :
    PE X (.Call (.Name x p) (e :: es) [] pos) (Zym sp dvs E t) := by
  intro pins s σ H Q I h
  refine wpAny_Call_Name_kw (Zlt I hg hm ?_ hdb)
  refine PySem.W.callWith_K (h₀ := X.base) I.ok.mod.kin hk (thn (ha pos pins s σ H _ I h) fun us s1 qz9 => ?_) he hpl
  obtain ⟨vs, H1, I1, r, q⟩ := qz9
  refine ⟨I1.kIn, ?_⟩
  exact Z0m F hr hb hd hx I1 r q
structure Mk (K : PySem.W.Frag) (C f : Addr) : Prop where
  makes : PySem.W.makesIn K C = true
  init : PySem.W.findIn K (.ref C) "__init__" = some (some (.ref f))
  fn : PySem.W.isFn K (.ref f) = true
  kp : PySem.W.keepIn K (.ref C) = true
end
section
variable {X : Cx} {CX : CXT} {k : Nat} {f C : Addr} {fd : FuncData} {ps ks : List Str} {sp : Sp} {E : XK} {x m : Str} {p pos apos kpos : Pos} {e o : Expr} {es : List Expr} {kws : List Keyword} {te ta : TE} {t tk : TA} {nm : Option Str}
structure Z5o (K : PySem.W.Frag) (fd : FuncData) (ps ks : List Str) (g : List Value → List Value → List Value) (gV : List V → List V → List V) : Prop where
  to : ∀ (s : Shared) (us ws : List Value), K.In s.heap → (g us ws).length = ps.length → BindsTo s fd ⟨us, ks.zip ws⟩ (ps.zip (g us ws))
  rel : ∀ {vs : List V} {us : List Value} {zs : List V} {ws : List Value}, Vals vs us → Vals zs ws → Vals (gV vs zs) (g us ws)
variable {g : List Value → List Value → List Value} {gV : List V → List V → List V}
end
structure Z6 (N P : List Str) (sc : Scope) : Prop where
  kind : sc.kind = .function
  co : sc.isCoroutine = false
  gen : sc.isGenerator = false
  nd : N.Nodup
  pre : N.take P.length = P
  par : ∀ x ∈ P, sc.names.lookup x = some .local ∨ sc.names.lookup x = some .cell
  nofree : ∀ y ∈ sc.names, y.2 ≠ .free
theorem Zkc {kindOf : Str → Option NameKind} {x : Str} : ∀ {binds : List (Str × Value)} {m : Str → Option Value}, (∀ v, (x, v) ∉ binds) → bindL kindOf binds m x = m x
  | [], _, _ => rfl
  | (n, v) :: r, m, h => by
    unfold bindL
    rw [Zkc fun w hw => h w (List.mem_cons_of_mem _ hw)]
    split
    · have : x ≠ n := by rintro rfl; exact h v List.mem_cons_self
      simp [this]
    · rfl
theorem Zji {kindOf : Str → Option NameKind} {x : Str} : ∀ {binds : List (Str × Value)} {m : Str → Option Value}, (∀ v, (x, v) ∉ binds) → bindC kindOf binds m x = m x
  | [], _, _ => rfl
  | (n, v) :: r, m, h => by
    unfold bindC
    rw [Zji fun w hw => h w (List.mem_cons_of_mem _ hw)]
    split
    · rfl
    · have : x ≠ n := by rintro rfl; exact h v List.mem_cons_self
      simp [this]
theorem Zjw {kindOf : Str → Option NameKind} {x : Str} {v : Value} : ∀ {P : List Str} {vs : List Value} {i : Nat} {m : Str → Option Value}, P.Nodup → P[i]? = some x → vs[i]? = some v → kindOf x = some .local →
    bindL kindOf (P.zip vs) m x = some v
  | [], _, _, _, _, h, _, _ => by simp at h
  | _ :: _, [], _, _, _, _, h, _ => by simp at h
  | p :: P, w :: vs, 0, m, nd, h1, h2, hk => by
    simp at h1 h2; subst h1; subst h2
    show bindL kindOf ((p, w) :: P.zip vs) m p = _
    unfold bindL
    rw [Zkc fun v hv => (List.nodup_cons.mp nd).1 (List.of_mem_zip hv).1, if_pos hk]
    simp
  | p :: P, w :: vs, i + 1, m, nd, h1, h2, hk => by
    show bindL kindOf ((p, w) :: P.zip vs) m x = _
    unfold bindL
    exact Zjw (i := i) (List.nodup_cons.mp nd).2 (by simpa using h1) (by simpa using h2) hk
theorem Zkk {kindOf : Str → Option NameKind} {x : Str} {v : Value} : ∀ {P : List Str} {vs : List Value} {i : Nat} {m : Str → Option Value}, P.Nodup → P[i]? = some x → vs[i]? = some v → kindOf x ≠ some .local →
    bindC kindOf (P.zip vs) m x = some v
  | [], _, _, _, _, h, _, _ => by simp at h
  | _ :: _, [], _, _, _, _, h, _ => by simp at h
  | p :: P, w :: vs, 0, m, nd, h1, h2, hk => by
    simp at h1 h2; subst h1; subst h2
    show bindC kindOf ((p, w) :: P.zip vs) m p = _
    unfold bindC
    rw [Zji fun v hv => (List.nodup_cons.mp nd).1 (List.of_mem_zip hv).1, if_neg hk]
    simp
  | p :: P, w :: vs, i + 1, m, nd, h1, h2, hk => by
    show bindC kindOf ((p, w) :: P.zip vs) m x = _
    unfold bindC
    exact Zkk (i := i) (List.nodup_cons.mp nd).2 (by simpa using h1) (by simpa using h2) hk
noncomputable def start (N : List Str) (vs : List V) : St := vs.map some ++ List.replicate (N.length - vs.length) none
noncomputable def Zq8 (CX : CXT) (P : Program) (w : World) (K : PySem.W.Frag) (mg : Str → Option Value) (base : Heap) (N : List Str) (qual : Str) (scope : Scope) (f : Addr) (cd : Value) (A : Around) (outer : List Env) (s : Shared) (H : Hp) (E : XK) : Cx where
  prog := P
  w := w
  K := K
  mg := mg
  base := base
  A := A.deeper (envOfC qual scope s.heap.objs.size f cd)
  N := N
  s₀ := s
  H₀ := H
  env := envOfC qual scope s.heap.objs.size f cd
  outer := outer
  stack := envOfC qual scope s.heap.objs.size f cd :: outer
  ex := []
  calm := true
  fn := fun _ => true
  pn := []
  xe := fun e s' => wpAny (model P w) (A.deeper (envOfC qual scope s.heap.objs.size f cd)) (leaving (envOfC qual scope s.heap.objs.size f cd) e) (fun _ s'' => CX outer H s E e s'') (fun e' s'' => CX outer H s E e' s'') s'
theorem Zml {sc : Scope} {n : Nat} {x : Str} (h : sc.names.lookup x = some .cell) : ∃ c, (cellsFrom n sc.names []).lookup x = some c := by
  have q := PySem.W.cellsFrom_some sc.names n [] (.inl h)
  exact Option.isSome_iff_exists.mp q
theorem Zqe {CX : CXT} {P : Program} {w : World} {K : PySem.W.Frag} {mg : Str → Option Value} {base : Heap} {N ps : List Str} {qual : Str} {scope : Scope} {f : Addr} {cd : Value} {A : Around} {outer : List Env} {s s1 : Shared} {H : Hp} {E : XK} {us : List Value} {vs : List V}
    (S : Z6 N ps scope) (hd : A.handled = none) (e0 : Z14 P w K mg base A outer s H) (hl : vs.length = ps.length) (r : Vals vs us)
    (x : InCallC s s.heap.objs.size (bindL (envOfC qual scope s.heap.objs.size f cd).kindOf (ps.zip us) fun _ => none) (cellsFrom (s.heap.objs.size + 1) scope.names []) (bindC (envOfC qual scope s.heap.objs.size f cd).kindOf (ps.zip us) fun _ => none) s1) :
    Inv (Zq8 CX P w K mg base N qual scope f cd A outer s H E) [] (start N vs) H s1 := by
  have hpl : ps.length ≤ N.length := by have := congrArg List.length S.pre; rw [List.length_take] at this; omega
  obtain ⟨h1, tk, rfl, hk⟩ := x.done
  have noA : ∀ b : Addr, b ∉ (Zq8 CX P w K mg base N qual scope f cd A outer s H E).ex := fun b z => absurd (show b ∈ ([] : List Addr) from z) (by simp)
  refine ⟨⟨e0.mod, S.kind, rfl, rfl, Nat.le_refl _, fun y z c h1 h2 => ?_, fun y hy => ?_, fun y c _ h => ?_, fun _ => hd, Around.frames_deeper e0.frames, .inr ⟨rfl, rfl⟩, fun b z => absurd z (noA b), e0.bs, e0.bsz, fun b _ _ => noA b, fun b z => absurd z (noA b), e0.funs, e0.frf⟩,
    rfl, e0.bare, Un.kept hk, ⟨_, x.toInCall.ns, fun i y v h1 h2 h3 => ?_⟩, fun y c h => ⟨_, x.cell y c h⟩, e0.hok.fresh (Nat.le_refl _), fun y c h => ?_, fun p hp => absurd (show p ∈ ([] : List (Addr × Obj)) from hp) (by simp), e0.hok.kept hk, ?_⟩
  · exact name_of_addr x.apart (PySem.mem_of_lookup h1) (PySem.mem_of_lookup h2)
  · have hy : scope.names.lookup y = some .cell ∨ scope.names.lookup y = some .free := hy
    rcases hy with hy | hy
    · exact Zml hy
    · exact absurd rfl (S.nofree _ (PySem.mem_of_lookup hy))
  · exact Nat.le_of_lt (x.above y c (PySem.mem_of_lookup h))
  · have hi : i < vs.length := by
      unfold start at h2
      by_cases hi : i < vs.length
      · exact hi
      · rw [List.getElem?_append_right (by simpa using hi)] at h2
        rw [List.getElem?_replicate] at h2
        split at h2 <;> cases h2
    have ha : vs[i]? = some v := by
      unfold start at h2
      rw [List.getElem?_append_left (by simpa using hi), List.getElem?_map] at h2
      cases e : vs[i]? with
      | none => rw [e] at h2; cases h2
      | some a => rw [e] at h2; cases h2; rfl
    obtain ⟨u, hu, rv⟩ := r.get ha
    have hp : ps[i]? = some y := by
      rw [← S.pre, List.getElem?_take_of_lt (by omega)]; exact h1
    have ndP : ps.Nodup := by rw [← S.pre]; exact S.nd.sublist (List.take_sublist _ _)
    refine ⟨u, rv, ?_⟩
    rcases S.par y (List.mem_of_getElem? hp) with k | k
    · exact .inl ⟨k, Zjw ndP hp hu k⟩
    · obtain ⟨c, e⟩ := Zml (n := s.heap.objs.size + 1) k
      refine .inr ⟨.inl k, c, e, ?_⟩
      have q := x.cell y c e
      rw [Zkk ndP hp hu (by show scope.names.lookup y ≠ _; rw [k]; decide)] at q
      exact q
  · exact e0.hok.fresh (Nat.le_of_lt (x.above y c (PySem.mem_of_lookup h)))
  · unfold start
    show _ = N.length
    rw [List.length_append, List.length_map, List.length_replicate]
    omega
theorem Zyy {CX : CXT} {P : Program} {w : World} {K : PySem.W.Frag} {mg : Str → Option Value} {base : Heap} {k : Nat} {f : Addr} {name qual : Str} {params : Arguments} {body : List Stmt} {scope : Scope} {dV kV doc pm cdv ct oc : Value} {an od : Option Addr}
    {osl : Array (Option Value)} {N ps : List Str} {sp : Sp} (lk : K.lookup f = some ⟨oc, od, .func (PySem.W.fnOf name qual params body scope dV kV doc pm an cdv ct), osl⟩) (hcd : PySem.W.codeIn K cdv qual = true) (S : Z6 N ps scope)
    (len : ∀ vs H Q E, sp vs H Q E → vs.length = ps.length)
    (hbody : ∀ (A : Around) (outer : List Env) (s : Shared) (H : Hp) (vs : List V) (Q : VK) (E : XK), Room k (A.deeper (envOfC qual scope s.heap.objs.size f cdv)) → sp vs H Q E →
      ∃ t, PSs (Zq8 CX P w K mg base N qual scope f cdv A outer s H E) body t ∧ t { nx := fun _ H' => Q .non H', rt := Q } (start N vs) H) :
    FnOk P w K mg base CX (k + 1) f (PySem.W.fnOf name qual params body scope dV kV doc pm an cdv ct) ps sp := by
  refine ⟨len, fun A outer s H args us vs Q E hr e0 hb r hsp => ?_⟩
  have hl := len _ _ _ _ hsp
  have KX : K.In s.heap := e0.mod.kin.keeps fun b o e => (e0.bs b o e).1
  have lim : s.heap.NoLimit := e0.mod.nolimit.keeps fun b o e => (e0.bs b o e).1
  have hkind : ∀ y ∈ ps.zip us, scope.names.lookup y.1 = some .local ∨ (scope.names.lookup y.1 = some .cell ∧ ((cellsFrom (s.heap.objs.size + 1) scope.names []).lookup y.1).isSome = true) := fun ⟨n, v⟩ hy => by
    rcases S.par n (List.of_mem_zip hy).1 with q | q
    · exact .inl q
    · exact .inr ⟨q, PySem.W.cellsFrom_some _ _ _ (.inl q)⟩
  refine codeAny_call_function hr.depth (KX _ _ lk) rfl S.co S.gen rfl (PySem.W.codeRec_of KX hcd) (hb _ _ _ _ ?_)
  refine wpAny_newFunctionEnv_cells S.kind hkind fun env he s1 x => ?_
  subst he
  refine ⟨lim.keeps x.toInCall.keep, codeAny_func ?_⟩
  obtain ⟨t, ht, hq⟩ := hbody A outer s H vs Q E (hr.deeper _) hsp
  have I : Inv (Zq8 CX P w K mg base N qual scope f cdv A outer s H E) [] (start N vs) H s1 := Zqe S hr.hd e0 hl r x
  refine wpAny_mono (ht [] s1 (start N vs) H _ I hq) (fun fl s' hs => ?_) fun e s' hs => hs
  have fin : ∀ {σ' : St} {H' : Hp} {v : V} {u : Value}, Inv (Zq8 CX P w K mg base N qual scope f cdv A outer s H E) [] σ' H' s' → RelV v u → Q v H' → CE outer P w H s Q u s' :=
    fun {σ' H' v u} J rv q => ⟨v, H', J.os, J.bare, J.base, J.hok, rv, q⟩
  cases fl with
  | ret u =>
    obtain ⟨v, σ', H', J, rv, q⟩ := hs
    exact fin J rv q
  | next =>
    obtain ⟨σ', H', J, q⟩ := hs
    exact fin (v := V.non) (u := Value.none) J rfl q
  | brk =>
    obtain ⟨_, _, _, q⟩ := hs
    exact False.elim q
  | cont =>
    obtain ⟨_, _, _, q⟩ := hs
    exact False.elim q
end L2
namespace L2
open PySem PySem.Spec PyProof.Rows
section
variable {X : Cx} {x : Str} {p pos : Pos} {e : Expr} {es : List Expr} {t : TA} {id T : String} {r : List V → Hp → VK → Prop}
noncomputable def tCB (r : List V → Hp → VK → Prop) (t : TA) : TE := fun σ H Q => t σ H fun vs H1 => r vs H1 Q
theorem Ziu (hc : Zfq X (.builtin id) r) (hg : Gl X x) (hm : X.mg x = none) (hv : bootBuiltins x = some (.builtin id)) (ha : PA X (e :: es) t) (hn : x ≠ "__name__" := by decide) (hdb : (x == ("__debug__" : Str)) = false := by decide)
    (he : starEach (e :: es) X.env = (false, eval e X.env) :: starEach es X.env := by rfl) (hpl : (backTo pos (starEach es X.env)).any (·.1) = false := by rfl) : PE X (.Call (.Name x p) (e :: es) [] pos) (tCB r t) := by
  intro pins s σ H Q I h
  refine wpAny_Call_Name_kw (Zgc I hg hm hv ?_ hn hdb)
  refine PyProof.Rows.callWith_builtin1 (thn (ha pos pins s σ H _ I h) fun us s1 qz9 => ?_) he hpl
  obtain ⟨vs, H1, I1, r1, q1⟩ := qz9
  exact hc pins s1 σ H1 vs us Q I1 r1 q1
theorem Zoe (hc : Zfq X (.type T) r) (hg : Gl X x) (hm : X.mg x = none) (hv : bootBuiltins x = some (.type T)) (ha : PA X (e :: es) t) (hn : x ≠ "__name__" := by decide) (hdb : (x == ("__debug__" : Str)) = false := by decide)
    (he : starEach (e :: es) X.env = (false, eval e X.env) :: starEach es X.env := by rfl) (hpl : (backTo pos (starEach es X.env)).any (·.1) = false := by rfl) : PE X (.Call (.Name x p) (e :: es) [] pos) (tCB r t) := by
  intro pins s σ H Q I h
  refine wpAny_Call_Name_kw (Zgc I hg hm hv ?_ hn hdb)
  refine PyProof.Rows.callWith_type1 (thn (ha pos pins s σ H _ I h) fun us s1 qz9 => ?_) he hpl
  obtain ⟨vs, H1, I1, r1, q1⟩ := qz9
  exact hc pins s1 σ H1 vs us Q I1 r1 q1
end
end L2
namespace HT
open PySem PyProof.Rows
section
open PySem.SeqAt
open PySem.AutoSeq1 (wpAny_loadPart')
open PySem.MeetsSeq PySem.MeetsSeq2 PySem.MeetsSeq3
end
section
variable {prog : Program} {w : World} {A : Around} {E : Value → Shared → Prop} {s : Shared}
noncomputable def sIx (n d : Nat) : Option Int → Nat
  | none => d
  | some v => if v < 0 then (v + (n : Int)).toNat else min v.toNat n
theorem sIx_none (n d : Nat) : sIx n d none = d := rfl
theorem sIx_nat (n d k : Nat) : sIx n d (some (k : Int)) = min k n := by
  show (if (k : Int) < 0 then ((k : Int) + (n : Int)).toNat else min (k : Int).toNat n) = min k n
  rw [if_neg (by omega), Int.toNat_natCast]
end
end HT
namespace L2
open PySem PySem.Spec PyProof.Rows
noncomputable abbrev TO := St → Hp → (Option Int → Hp → Prop) → Prop
noncomputable def PO (X : Cx) (e : Option Expr) (t : TO) : Prop :=
  ∀ (pins : List (Addr × Obj)) (s : Shared) (σ : St) (H : Hp) (Q : Option Int → Hp → Prop), Inv X pins σ H s → t σ H Q →
    wpAny (model X.prog X.w) X.A (evalPart e X.env) (fun u s' => ∃ o H', Inv X pins σ H' s' ∧ IsPart u o ∧ Q o H') X.xe s
noncomputable def Zus : TO := fun _ H Q => Q none H
noncomputable def Z21 (t : TE) : TO := fun σ H Q => t σ H fun x H1 => ∃ i, x = .int i ∧ Q (some i) H1
section
variable {X : Cx} {e : Expr} {te : TE} {lo hi : Option Expr} {tl th : TO} {pos p2 : Pos}
theorem Zuz : PO X none Zus := by
  intro pins s σ H Q I h
  rw [evalPart_none]
  exact wpAny_pure ⟨none, H, I, .none, h⟩
theorem Zwh (h : PE X e te) : PO X (some e) (Z21 te) := by
  intro pins s σ H Q I hw
  rw [evalPart_some]
  refine thn (h pins s σ H _ I hw) fun u s1 qz9 => ?_
  obtain ⟨x, H1, I1, r1, q1⟩ := qz9
  obtain ⟨i, rfl, q⟩ := q1
  obtain ⟨t, rfl⟩ := r1
  exact ⟨some i, H1, I1, .int i t, q⟩
noncomputable def SlR (X : Cx) (r : V → Option Int → Option Int → Hp → VK → Prop) : Prop :=
  ∀ (pins : List (Addr × Obj)) (s : Shared) (σ : St) (H : Hp) (x : V) (v vl vu : Value) (lo hi : Option Int) (sl : Addr) (Q : VK), Inv X pins σ H s → RelV x v → s.heap.IsSliceOf sl vl vu .none → IsPart vl lo → IsPart vu hi → r x lo hi H Q →
    ∃ T id, typeLookup (.type T) "__getitem__" = pure (some (.builtin id)) ∧ s.TypeIs v T ∧ wpAny (model X.prog X.w) X.A (getItem v (.ref sl)) (EP X pins σ Q) X.xe s
noncomputable def tSl (r : V → Option Int → Option Int → Hp → VK → Prop) (te : TE) (tl th : TO) : TE := fun σ H Q => te σ H fun x H1 => tl σ H1 fun l H2 => th σ H2 fun u H3 => r x l u H3 Q
theorem Zro {r : V → Option Int → Option Int → Hp → VK → Prop} (hr : SlR X r) (he : PE X e te) (hl : PO X lo tl) (hu : PO X hi th) : PE X (.Subscript e (.Slice lo hi none p2) pos) (tSl r te tl th) := by
  intro pins s σ H Q I h
  refine Subscript_ (thn (he pins s σ H _ I h) fun v s1 qz9 => ?_)
  obtain ⟨x, H1, I1, r1, q1⟩ := qz9
  refine wpAny_Slice (thn (hl pins s1 σ H1 _ I1 q1) fun vl s2 qz9 => ?_)
  obtain ⟨l, H2, I2, pl, q2⟩ := qz9
  refine thn (hu pins s2 σ H2 _ I2 q2) fun vu s3 qz9 => ?_
  obtain ⟨u, H3, I3, pu, q3⟩ := qz9
  rw [evalPart_none]
  refine wpAny_pure ?_
  have I4 : Inv X pins σ H3 { s3 with heap := s3.heap.push { cls := .type "slice", data := .fields #[vl, vu, .none] } } := I3.kept (t' := s3.toks) fun b ob q => Heap.get?_push_of_some _ q
  obtain ⟨T, id, hT, ht, hg⟩ := hr pins { s3 with heap := s3.heap.push { cls := .type "slice", data := .fields #[vl, vu, .none] } } σ H3 x v vl vu l u s3.heap.objs.size Q I4 r1 (Heap.IsSliceOf.new ..) pl pu q3
  show wpAny (model X.prog X.w) X.A (subscriptTail e (.Slice lo hi none p2) v (.ref s3.heap.objs.size)) (EP X pins σ Q) X.xe { s3 with heap := s3.heap.push { cls := .type "slice", data := .fields #[vl, vu, .none] } }
  exact tail_any (ops := [.ref s3.heap.objs.size, v]) ht hT hg (by with_unfolding_all rfl)
noncomputable def Zxp (xs : List V) (lo hi : Option Int) : List V := (xs.drop (HT.sIx xs.length 0 lo)).take (HT.sIx xs.length xs.length hi - HT.sIx xs.length 0 lo)
theorem Zk6 (xs : List V) (lo hi : Option Int) : (Zxp xs lo hi).length ≤ xs.length := by
  unfold Zxp
  rw [List.length_take, List.length_drop]
  omega
end
end L2
namespace L2
open PySem PySem.Spec PyProof.Rows
noncomputable def ixN (n : Nat) (i : Int) : Option Nat := if 0 ≤ i then (if i < n then some i.toNat else none) else if -(n : Int) ≤ i then some (i + n).toNat else none
noncomputable def atI {α : Type} (xs : List α) (i : Int) : Option α := (ixN xs.length i).bind fun j => xs[j]?
theorem Zo7 {n : Nat} {i : Int} {j : Nat} (h : ixN n i = some j) : seqIndex? i n = some j ∧ j < n ∧ -(n : Int) ≤ i ∧ i < n := by
  unfold ixN at h
  by_cases h0 : 0 ≤ i
  · rw [if_pos h0] at h
    by_cases h1 : i < n
    · rw [if_pos h1] at h
      have e : i.toNat = j := Option.some.inj h
      exact ⟨by rw [seqIndex_of h0 h1, e], by omega, by omega, h1⟩
    · rw [if_neg h1] at h; cases h
  · rw [if_neg h0] at h
    by_cases h1 : -(n : Int) ≤ i
    · rw [if_pos h1] at h
      have e : (i + n).toNat = j := Option.some.inj h
      exact ⟨by rw [seqIndex_neg (by omega) h1, e], by omega, h1, by omega⟩
    · rw [if_neg h1] at h; cases h
theorem Zlf {α : Type} {xs : List α} {i : Int} {v : α} (h : atI xs i = some v) : ∃ j, seqIndex? i xs.length = some j ∧ xs[j]? = some v ∧ j < xs.length ∧ -(xs.length : Int) ≤ i ∧ i < xs.length := by
  unfold atI at h
  cases e : ixN xs.length i with
  | none => rw [e] at h; cases h
  | some j =>
    rw [e] at h
    obtain ⟨h1, h2, h3, h4⟩ := Zo7 e
    exact ⟨j, h1, h, h2, h3, h4⟩
noncomputable def Zk5 (b : Expr) : Prop := ∀ o i, subscripted b false o i = operate [o, i] (getItem o i)
noncomputable def IxR (X : Cx) (r : R2) : Prop :=
  ∀ (value slice : Expr) (pins : List (Addr × Obj)) (s : Shared) (σ : St) (H : Hp) (x y : V) (v u : Value) (Q : VK), Inv X pins σ H s → RelV x v → RelV y u → r x y H Q →
    subscripted slice false v u = operate [v, u] (getItem v u) → wpAny (model X.prog X.w) X.A (subscriptTail value slice v u) (EP X pins σ Q) X.xe s
noncomputable def MtR (X : Cx) (id : String) (r : V → List V → Hp → VK → Prop) : Prop :=
  ∀ (pins : List (Addr × Obj)) (s : Shared) (σ : St) (H : Hp) (x : V) (xs : List V) (v : Value) (us : List Value) (Q : VK), Inv X pins σ H s → RelV x v → Vals xs us → r x xs H Q →
    wpAny (model X.prog X.w) X.A (call (.builtin id) (v :: us)) (EP X pins σ Q) X.xe s
section
variable {X : Cx} {a b : Expr} {ta tb : TE} {pos : Pos}
theorem IxR.or {r r' : R2} (h : IxR X r) (h' : IxR X r') : IxR X (fun x y H Q => r x y H Q ∨ r' x y H Q) := by
  intro value slice pins s σ H x y v u Q I rx ry q hs
  rcases q with q | q
  · exact h value slice pins s σ H x y v u Q I rx ry q hs
  · exact h' value slice pins s σ H x y v u Q I rx ry q hs
theorem Zxt {r : R2} (hr : IxR X r) (ha : PE X a ta) (hb : PE X b tb) (hs : Zk5 b) : PE X (.Subscript a b pos) (tOp r ta tb) := by
  intro pins s σ H Q I h
  exact Subscript_ (Z4k ha hb I h fun v u s2 x y H2 I2 rx ry q => hr a b pins s2 σ H2 x y v u Q I2 rx ry q (hs _ _))
noncomputable def Z23 (K : PySem.W.Frag) : R2 := fun x y H Q => ∃ p xs i v, x = .ref p ∧ y = .int i ∧ SqL K H p xs ∧ atI xs i = some v ∧ Q v H
noncomputable def Z5y (K : PySem.W.Frag) : R2 := fun x y H Q => ∃ p xs i v, x = .ref p ∧ y = .int i ∧ SqT K H p xs ∧ atI xs i = some v ∧ Q v H
noncomputable def Z4o : R2 := fun x y H Q => ∃ z i c, x = .str z ∧ y = .int i ∧ z.length ≤ sizeLine ∧ atI z.cps.toList i = some c ∧ Q (.str ⟨#[c]⟩) H
theorem Zq7 : IxR X (Z23 X.K) := by
  intro value slice pins s σ H x y v u Q I rx ry h hs
  obtain ⟨p, xs, i, z, rfl, rfl, hq, he, q⟩ := h
  cases rx
  obtain ⟨t, rfl⟩ := ry
  obtain ⟨its, r, pl, hz⟩ := I.list hq
  obtain ⟨j, h1, h2, h3, h4, h5⟩ := Zlf he
  obtain ⟨w, ew, rw'⟩ := r.get h2
  have hl := r.length
  have hn := Zig
  have fin : EP X pins σ Q w s := ⟨z, H, I, rw', q⟩
  by_cases h0 : 0 ≤ i
  · have hj : i.toNat = j := by
      rw [seqIndex_of h0 h5] at h1
      exact Option.some.inj h1
    exact item_listR pl.isList h0 (by omega) (by rw [hj]; simpa using ew) fin hs
  · have hj : (i + (its.toArray.size : Int)).toNat = j := by
      rw [seqIndex_neg (by omega) h4] at h1
      rw [List.size_toArray, ← hl]
      exact Option.some.inj h1
    exact subscriptTail_builtinR (x := w) pl.isList.typeIs slot_list_getitem.lookup
      (wpAny_getItem_list_neg (Q := fun r s' => r = w ∧ EP X pins σ Q r s') pl.isList (by omega) (by rw [List.size_toArray] <;> omega) (by omega) (by rw [hj]; simpa using ew) ⟨rfl, fin⟩) hs
theorem Z1i : IxR X (Z5y X.K) := by
  intro value slice pins s σ H x y v u Q I rx ry h hs
  obtain ⟨p, xs, i, z, rfl, rfl, hq, he, q⟩ := h
  cases rx
  obtain ⟨t, rfl⟩ := ry
  obtain ⟨its, r, pl, hz⟩ := I.tuple hq
  obtain ⟨j, h1, h2, h3, h4, h5⟩ := Zlf he
  obtain ⟨w, ew, rw'⟩ := r.get h2
  have hl := r.length
  have hn := Zig
  have fin : EP X pins σ Q w s := ⟨z, H, I, rw', q⟩
  exact subscriptTail_builtinR (x := w) pl.typeIs slot_tuple_getitem.lookup
    (getItem_tuple (j := j) (Q := fun r s' => r = w ∧ EP X pins σ Q r s') pl (by omega) (by omega) (by rw [List.size_toArray, ← hl]; exact h1) (by simpa using ew) ⟨rfl, fin⟩) hs
theorem Zyi : IxR X Z4o := by
  intro value slice pins s σ H x y v u Q I rx ry h hs
  obtain ⟨z, i, c, rfl, rfl, hz, he, q⟩ := h
  obtain ⟨t, rfl⟩ := rx
  obtain ⟨t', rfl⟩ := ry
  obtain ⟨j, h1, h2, h3, h4, h5⟩ := Zlf he
  have hl : z.cps.toList.length = z.length := by simp [Str.length]
  rw [hl] at h1 h4 h5
  have hn := Zig
  exact tail_any (typeIs_str s z t) slot_str_getitem.lookup (getItem_str (c := c) (by
    have e1 : decide (i < -(2 ^ 63 : Int)) = false := decide_eq_false (by omega)
    have e2 : decide (i ≥ 2 ^ 63) = false := decide_eq_false (by omega)
    rw [e1, e2, Bool.or_false]) (by rw [h1]; simpa using h2) ⟨.str ⟨#[c]⟩, H, I.tok _, ⟨_, rfl⟩, q⟩) hs
noncomputable def rIx (K : PySem.W.Frag) : R2 := fun x y H Q => Z23 K x y H Q ∨ Z5y K x y H Q ∨ Z4o x y H Q
theorem Zyu : IxR X (rIx X.K) := Zq7.or (Z1i.or Zyi)
theorem Znh (its : List Value) (n j : Nat) (u : Value) : Obj.mapSeq (·.setIfInBounds j u) { cls := .type "list", data := .seq its.toArray n } = { cls := .type "list", data := .seq (its.set j u).toArray n } := by
  simp [Obj.mapSeq]
theorem Inv.lst {pins : List (Addr × Obj)} {σ : St} {H : Hp} {s : Shared} {p : Addr} {xs : List V} (I : Inv X pins σ H s) (h : H p = some (.lst xs)) :
    ∃ (its : List Value) (n : Nat), Vals xs its ∧ s.heap.get? p = some { cls := .type "list", data := .seq its.toArray n } ∧ xs.length ≤ sizeLine := by
  obtain ⟨z, its, n, r, e⟩ := I.hok p _ h
  exact ⟨its, n, r, e, z⟩
theorem Inv.lstUpd {pins : List (Addr × Obj)} {σ : St} {H : Hp} {s : Shared} {p : Addr} {xs ys : List V} {its its' : List Value} {n n' : Nat} {f : Obj → Obj} (I : Inv X pins σ H s) (h : H p = some (.lst xs))
    (ho : s.heap.get? p = some { cls := .type "list", data := .seq its.toArray n }) (hf : f { cls := .type "list", data := .seq its.toArray n } = { cls := .type "list", data := .seq its'.toArray n' }) (r : Vals ys its') (hz : ys.length ≤ sizeLine) (t : Nat) :
    Inv X pins σ (upd H p (.lst ys)) { s with heap := s.heap.update p f, toks := t } := by
  have e : (s.heap.update p f).get? p = some { cls := .type "list", data := .seq its'.toArray n' } := by
    rw [Heap.get?_update_self f ho (by rw [hf] <;> rfl), hf]
  refine I.write (x := p) (e := p) (by rw [h]; trivial) (.inl rfl) (fun b u hb q => (Heap.get?_update_other _ _ (Ne.symm hb)).trans q) ⟨_, e⟩ ?_
  exact ⟨hz, its', n', r, e⟩
noncomputable def Zvd : V → V → V → Hp → (Hp → Prop) → Prop := fun o i v H Q => ∃ p xs k j, o = .ref p ∧ i = .int k ∧ H p = some (.lst xs) ∧ ixN xs.length k = some j ∧ Q (upd H p (.lst (xs.set j v)))
theorem set_list : Z4t X Zvd := by
  intro pins s σ H o i v ov iv u Q I ro ri rv h
  obtain ⟨p, xs, k, j, rfl, rfl, hp, hj, q⟩ := h
  cases ro
  obtain ⟨t, rfl⟩ := ri
  obtain ⟨its, n, r, ho, hz⟩ := I.lst hp
  obtain ⟨h1, h2, h3, h4⟩ := Zo7 hj
  have hl := r.length
  have hn := Zig
  have I' : Inv X pins σ (upd H p (.lst (xs.set j v))) { s with heap := s.heap.update p (Obj.mapSeq (·.setIfInBounds j u)) } :=
    I.lstUpd hp ho (Znh its n j u) (r.set rv j) (by rw [List.length_set]; exact hz) s.toks
  by_cases h0 : 0 ≤ k
  · have hk : k.toNat = j := by
      rw [seqIndex_of h0 h4] at h1
      exact Option.some.inj h1
    exact PySem.W.ki_setAt ho h0 (by omega) (by rw [List.size_toArray, ← hl]; exact h4) (by rw [hk]; exact ⟨_, I', q⟩)
  · have hk : (k + (its.toArray.size : Int)).toNat = j := by
      rw [seqIndex_neg (by omega) h3] at h1
      rw [List.size_toArray, ← hl]
      exact Option.some.inj h1
    exact PySem.W.ki_setBack ho (by omega) (by rw [List.size_toArray, ← hl]; exact h3) (by omega) (by rw [hk]; exact ⟨_, I', q⟩)
theorem Zjo (lo hi : Option Int) (n : Nat) : (sliceBounds lo hi none n).1 = ((HT.sIx n 0 lo : Nat) : Int) ∧ (sliceBounds lo hi none n).2.1 = ((HT.sIx n n hi : Nat) : Int) ∧ (sliceBounds lo hi none n).2.2 = 1 := by
  refine ⟨?_, ?_, rfl⟩
  · cases lo with
    | none => simp [sliceBounds, HT.sIx]
    | some i =>
      simp only [sliceBounds, HT.sIx, Option.getD_none, show (1 : Int) > 0 by decide, if_true]
      by_cases h : i < 0
      · simp only [h, if_true] <;> omega
      · simp only [h, if_false] <;> omega
  · cases hi with
    | none => simp [sliceBounds, HT.sIx]
    | some i =>
      simp only [sliceBounds, HT.sIx, Option.getD_none, show (1 : Int) > 0 by decide, if_true]
      by_cases h : i < 0
      · simp only [h, if_true] <;> omega
      · simp only [h, if_false] <;> omega
theorem Ziy (its : List Value) (lo hi : Option Int) : slicePick its.toArray lo hi none = ((its.drop (HT.sIx its.length 0 lo)).take (HT.sIx its.length its.length hi - HT.sIx its.length 0 lo)).toArray := by
  obtain ⟨h1, h2, h3⟩ := Zjo lo hi its.toArray.size
  unfold slicePick
  rw [h1, h2, h3]
  simp only [sliceRange_one, pick_run, List.size_toArray] <;> rfl
noncomputable def Z5g (K : PySem.W.Frag) : V → Option Int → Option Int → Hp → VK → Prop := fun x lo hi H Q => ∃ a xs, x = .ref a ∧ SqL K H a xs ∧ ∀ p, H p = none → Q (.ref p) (upd H p (.lst (Zxp xs lo hi)))
theorem Zwj : SlR X (Z5g X.K) := by
  intro pins s σ H x v vl vu lo hi sl Q I rx hs pl pu h
  obtain ⟨a, xs, rfl, hx, q⟩ := h
  cases rx
  obtain ⟨its, r, ht, hz⟩ := I.list hx
  have hlen := r.length
  refine ⟨"list", _, slot_list_getitem.lookup, ht.isList.typeIs, ?_⟩
  refine wpAny_getItem_list_slice ht.isList hs pl pu .none (by simp) ?_ (by rw [List.size_toArray] <;> omega)
  rw [Ziy, ← hlen]
  refine ⟨.ref s.heap.objs.size, _, I.laid (t' := s.toks) (o := .lst (Zxp xs lo hi)) (fun b ob q => Heap.get?_push_of_some _ q) (Nat.le_refl _) ?_, rfl, q _ (I.hok.fresh (Nat.le_refl _))⟩
  exact ⟨Nat.le_trans (Zk6 xs lo hi) hz, _, 0, (r.drop (HT.sIx xs.length 0 lo)).take (HT.sIx xs.length xs.length hi - HT.sIx xs.length 0 lo), Heap.get?_push_size _ rfl⟩
noncomputable def Zhm : V → Bool
  | .non => true
  | .bl _ => true
  | .int _ => true
  | .str _ => true
  | _ => false
noncomputable def eqV : V → V → Bool
  | .non, .non => true
  | .bl a, .bl b => a == b
  | .bl a, .int b => (if a then 1 else 0) == b
  | .int a, .bl b => a == (if b then 1 else 0)
  | .int a, .int b => a == b
  | .str a, .str b => a == b
  | _, _ => false
theorem Zzy {A : Around} {s : Shared} {y x : V} {u v : Value} (ry : RelV y u) (rx : RelV x v) (fy : Zhm y = true) (fx : Zhm x = true) : SeqAt.EqAt A s u v (eqV y x) := by
  cases y with
  | non =>
    cases ry
    cases x with
    | non => cases rx; exact SeqAt.EqAt.same _
    | bl b => cases rx; exact SeqAt.EqAt.none_bool b
    | int b => obtain ⟨t, rfl⟩ := rx; exact SeqAt.EqAt.none_int b t
    | str b => obtain ⟨t, rfl⟩ := rx; exact SeqAt.EqAt.none_str b t
    | _ => exact absurd (show false = true from fx) Bool.false_ne_true
  | bl a =>
    cases ry
    cases x with
    | non => cases rx; exact SeqAt.EqAt.bool_none a
    | bl b => cases rx; exact SeqAt.EqAt.bool_bool a b
    | int b => obtain ⟨t, rfl⟩ := rx; exact SeqAt.EqAt.bool_int a b t
    | str b => obtain ⟨t, rfl⟩ := rx; exact SeqAt.EqAt.bool_str a b t
    | _ => exact absurd (show false = true from fx) Bool.false_ne_true
  | int a =>
    obtain ⟨t', rfl⟩ := ry
    cases x with
    | non => cases rx; exact SeqAt.EqAt.int_none a t'
    | bl b => cases rx; exact SeqAt.EqAt.int_bool a t' b
    | int b => obtain ⟨t, rfl⟩ := rx; exact SeqAt.EqAt.int_int a t' b t
    | str b => obtain ⟨t, rfl⟩ := rx; exact SeqAt.EqAt.int_str a t' b t
    | _ => exact absurd (show false = true from fx) Bool.false_ne_true
  | str a =>
    obtain ⟨t', rfl⟩ := ry
    cases x with
    | non => cases rx; exact SeqAt.EqAt.str_none a t'
    | bl b => cases rx; exact SeqAt.EqAt.str_bool a t' b
    | int b => obtain ⟨t, rfl⟩ := rx; exact SeqAt.EqAt.str_int a t' b t
    | str b => obtain ⟨t, rfl⟩ := rx; exact SeqAt.EqAt.str_str a t' b t
    | _ => exact absurd (show false = true from fx) Bool.false_ne_true
  | _ => exact absurd (show false = true from fy) Bool.false_ne_true
noncomputable def eqU (x : V) (u : Value) : Bool := match u with
  | .none => eqV .non x
  | .bool b => eqV (.bl b) x
  | .int i _ => eqV (.int i) x
  | .str z _ => eqV (.str z) x
  | _ => false
theorem Zt6 {x y : V} {u : Value} (r : RelV y u) (f : Zhm y = true) : eqU x u = eqV y x := by
  cases y with
  | non => cases r; rfl
  | bl b => cases r; rfl
  | int i => obtain ⟨t, rfl⟩ := r; rfl
  | str z => obtain ⟨t, rfl⟩ := r; rfl
  | _ => exact absurd (show false = true from f) Bool.false_ne_true
theorem Zqn {x : V} {xs : List V} {us : List Value} (h : Vals xs us) (f : xs.all Zhm = true) : us.any (eqU x) = xs.any fun y => eqV y x := by
  induction h with
  | nil => rfl
  | cons r t ih =>
    rw [List.all_cons, Bool.and_eq_true] at f
    rw [List.any_cons, List.any_cons, Zt6 r f.1, ih f.2]
theorem Zl3 {A : Around} {s : Shared} {x : V} {v : Value} (rx : RelV x v) (fx : Zhm x = true) {xs : List V} {us : List Value} (h : Vals xs us) (f : xs.all Zhm = true) : ∀ u ∈ us, SeqAt.EqAt A s u v (eqU x u) := by
  induction h with
  | nil => intro u hu; cases hu
  | cons r t ih =>
    intro u' hu
    rw [List.all_cons, Bool.and_eq_true] at f
    rcases List.mem_cons.mp hu with rfl | hu
    · rw [Zt6 r f.1]; exact Zzy r rx f.1 fx
    · exact ih f.2 u' hu
noncomputable def inV (x : V) (xs : List V) : Bool := xs.any fun y => eqV y x
noncomputable def rIn (K : PySem.W.Frag) (neg : Bool) : R2 := fun x y H Q => ∃ p xs, y = .ref p ∧ (SqL K H p xs ∨ SqT K H p xs) ∧ Zhm x = true ∧ xs.all Zhm = true ∧ Q (.bl (if neg then !inV x xs else inV x xs)) H
theorem Zpn : OpR X (compareOp .In) (rIn X.K false) := by
  intro pins s σ H x y v u Q I rx ry h
  obtain ⟨p, xs, rfl, hq, fx, fs, q⟩ := h
  cases ry
  rcases hq with hq | hq
  · obtain ⟨its, r, pl, hz⟩ := I.list hq
    refine SeqAt.in_listAt (eqU x) pl.isList (fun w hw => Zl3 rx fx r fs w (by simpa using hw)) ⟨.bl _, H, I, rfl, ?_⟩
    rw [show its.toArray.any (eqU x) = its.any (eqU x) by simp, Zqn r fs]
    exact q
  · obtain ⟨its, r, pl, hz⟩ := I.tuple hq
    refine SeqAt.in_tupleAt (eqU x) pl (fun w hw => Zl3 rx fx r fs w (by simpa using hw)) ⟨.bl _, H, I, rfl, ?_⟩
    rw [show its.toArray.any (eqU x) = its.any (eqU x) by simp, Zqn r fs]
    exact q
theorem Zjx : Zfq X (.builtin "len") (fun xs H Q => ∃ p ys, xs = [.ref p] ∧ (SqL X.K H p ys ∨ SqT X.K H p ys) ∧ Q (.int ys.length) H) := by
  intro pins s σ H xs us Q I r h
  obtain ⟨p, ys, rfl, hq, q⟩ := h
  obtain ⟨u, rfl, rx⟩ := vals1 r
  cases rx
  have hn := Zig
  rcases hq with hq | hq
  · obtain ⟨its, r', pl, hz⟩ := I.list hq
    have hlen := r'.length
    exact Calls.call_len_list pl.isList (by simp only [List.size_toArray] <;> omega) ⟨.int ys.length, H, I.tok _, ⟨s.toks + 1, by rw [List.size_toArray, hlen]⟩, q⟩
  · obtain ⟨its, r', pl, hz⟩ := I.tuple hq
    have hlen := r'.length
    exact len_tuple pl (by simp only [List.size_toArray] <;> omega) ⟨.int ys.length, H, I.tok _, ⟨s.toks + 1, by rw [List.size_toArray, hlen]⟩, q⟩
theorem Zj8 : Zfq X (.type "list") (fun xs H Q => ∃ p ys, xs = [.ref p] ∧ (SqL X.K H p ys ∨ SqT X.K H p ys) ∧ ∀ l, H l = none → Q (.ref l) (upd H l (.lst ys))) := by
  intro pins s σ H xs us Q I r h
  obtain ⟨p, ys, rfl, hq, q⟩ := h
  obtain ⟨u, rfl, rx⟩ := vals1 r
  cases rx
  have fin : ∀ (its : List Value), Vals ys its → ys.length ≤ sizeLine → ∀ (h' : Heap) (c' : Nat), (∀ b o', s.heap.get? b = some o' → h'.get? b = some o') →
      h'.get? s.heap.objs.size = some { cls := .type "list", dict := none, data := .seq its.toArray c', slots := #[] } → EP X pins σ Q (.ref s.heap.objs.size) { s with heap := h' } := fun its r' hz h' c' kp e =>
    ⟨.ref s.heap.objs.size, _, I.laid (t' := s.toks) kp (Nat.le_refl _) (show ObjOk X.prog X.w _ h' _ (.lst ys) from ⟨hz, its, c', r', e⟩), rfl, q _ (I.hok.fresh (Nat.le_refl _))⟩
  rcases hq with hq | hq
  · obtain ⟨its, r', pl, hz⟩ := I.list hq
    have hlen := r'.length
    obtain ⟨o, ho, hc, n, hd⟩ := pl.isList
    exact call_list_seq p (.inl rfl) ho hc hd (fun h' c' kp e => fin its r' hz h' c' kp e) (by simp only [List.size_toArray] <;> omega)
  · obtain ⟨its, r', pl, hz⟩ := I.tuple hq
    have hlen := r'.length
    obtain ⟨o, ho, hc, n, hd⟩ := pl
    exact call_list_seq p (.inr rfl) ho hc hd (fun h' c' kp e => fin its r' hz h' c' kp e) (by simp only [List.size_toArray] <;> omega)
noncomputable def tyV (K : PySem.W.Frag) (T : String) (x : V) (H : Hp) : Prop := match x with
  | .str _ => T = "str"
  | .int _ => T = "int"
  | .ref p => (T = "list" ∧ ∃ xs, SqL K H p xs) ∨ (T = "tuple" ∧ ∃ o, K.lookup p = some o ∧ o.cls = .type "tuple" ∧ o.dict = none) ∨
      (T = "dict" ∧ ((∃ kvs, H p = some (.dK kvs)) ∨ ∃ kvs, H p = some (.dT kvs))) ∨ (T = "set" ∧ ∃ S n, H p = some (.set S n))
  | _ => False
theorem Z0d {pins : List (Addr × Obj)} {σ : St} {H : Hp} {s : Shared} {T : String} {x : V} {v : Value} (I : Inv X pins σ H s) (r : RelV x v) (ty : tyV X.K T x H) :
    s.TypeIs v T ∧ ∀ a, v = .ref a → ∃ ob, s.heap.get? a = some ob ∧ ob.dict = none := by
  cases x with
  | str z =>
    obtain ⟨t, rfl⟩ := r
    cases (show T = "str" from ty)
    exact ⟨typeIs_str s z t, fun _ e => nomatch e⟩
  | int i =>
    obtain ⟨t, rfl⟩ := r
    cases (show T = "int" from ty)
    exact ⟨typeIs_int s i t, fun _ e => nomatch e⟩
  | ref p =>
    cases r
    rcases ty with ⟨rfl, xs, hq⟩ | ⟨rfl, o, hk, hc, hd⟩ | ⟨rfl, hk⟩ | ⟨rfl, S, n, hk⟩
    · obtain ⟨its, _, pl, _⟩ := I.list hq
      refine ⟨pl.isList.typeIs, fun a e => ?_⟩
      cases e
      obtain ⟨o, n, e, c, hd, _⟩ := pl
      exact ⟨o, e, hd⟩
    · refine ⟨⟨o, I.kIn p o hk, hc⟩, fun a e => ?_⟩
      cases e
      exact ⟨o, I.kIn _ o hk, hd⟩
    · have z : ∃ o, s.heap.get? p = some o ∧ o.ExactDict := by
        rcases hk with ⟨kvs, hk⟩ | ⟨kvs, hk⟩
        · obtain ⟨_, _, _, _, o, _, _, e, ex, _⟩ := I.hok p _ hk
          exact ⟨o, e, ex⟩
        · obtain ⟨_, _, _, _, o, _, _, e, ex, _⟩ := I.hok p _ hk
          exact ⟨o, e, ex⟩
      obtain ⟨o, e, ex⟩ := z
      refine ⟨⟨o, e, ex.1⟩, fun a e2 => ?_⟩
      cases e2
      exact ⟨o, e, ex.2.1⟩
    · obtain ⟨o, _, _, _, e, ex, _⟩ := I.hok p _ hk
      refine ⟨⟨o, e, ex.1⟩, fun a e2 => ?_⟩
      cases e2
      exact ⟨o, e, ex.2.1⟩
  | _ => exact False.elim ty
noncomputable def tBM (K : PySem.W.Frag) (T : String) (r : V → List V → Hp → VK → Prop) (to : TE) (t : TA) : TE := fun σ H Q => to σ H fun x H1 => tyV K T x H1 ∧ t σ H1 fun xs H2 => r x xs H2 Q
variable {o e : Expr} {es : List Expr} {to : TE} {t : TA} {name : Str} {apos cpos : Pos} {T id : String} {r : V → List V → Hp → VK → Prop}
theorem Z2n (pa : PlainAttrs T) (slot : Slot T name id) (hty : typeOf (.builtin id) = pure (.type "method_descriptor")) (hm : MtR X id r) (ho : PE X o to) (ha : PA X (e :: es) t)
    (hbase : attributeBase o name X.env (eval o X.env) = eval o X.env := by rfl)
    (hfew : ((backTo cpos (starEach (e :: es) X.env)).all (fun x => !x.1) && (backToKw cpos (keywordEach [] X.env)).all (fun x => x.1.isSome)
      && decide ((e :: es).length + ([] : List Keyword).length + (if ([] : List Keyword).isEmpty then 0 else 1) < 30)) = true := by rfl)
    (hline : (apos.endLine == cpos.line) = true := by rfl) (hs : starEach (e :: es) X.env = (false, eval e X.env) :: starEach es X.env := by rfl) (hplain : (backTo cpos (starEach es X.env)).any (·.1) = false := by rfl) :
    PE X (.Call (.Attribute o name apos) (e :: es) [] cpos) (tBM X.K T r to t) := by
  intro pins s σ H Q I h
  refine wpAny_Call_method_late hbase hfew hline rfl (thn (ho pins s σ H _ I h) fun v s1 qz9 => ?_)
  obtain ⟨x, H1, I1, r1, ty, q1⟩ := qz9
  obtain ⟨h1, h2⟩ := Z0d I1 r1 ty
  refine ⟨T, id, pa, slot, hty, h1, h2, ?_⟩
  have hA := ha cpos pins s1 σ H1 _ I1 q1
  rw [hs] at hA ⊢
  refine Calls.callWith_builtin (by show (false || (backTo cpos (starEach es X.env)).any (·.1)) = false; rw [hplain] <;> rfl) (Calls.evalArgs_plain ?_)
  refine thn hA fun us s2 qz9 => ?_
  obtain ⟨vs, H2, I2, r2, q2⟩ := qz9
  exact hm pins s2 σ H2 x vs v us Q I2 r1 r2 q2
end
end L2
namespace L2
open PySem PySem.Spec PyProof.Rows
noncomputable def MtM (X : Cx) (id : String) (r : V → List V → Hp → VK → Prop) : Prop :=
  ∀ (pins : List (Addr × Obj)) (s : Shared) (σ : St) (H : Hp) (x : V) (xs : List V) (v : Value) (us : List Value) (Q : VK), Inv X pins σ H s → RelV x v → Vals xs us → r x xs H Q →
    wpAny (model X.prog X.w) X.A (call (.builtin id) (v :: us)) (EP X pins σ Q) X.xe s
theorem Vals.one {x : V} {us : List Value} (h : Vals [x] us) : ∃ u, us = [u] ∧ RelV x u := by
  cases h with
  | cons r t => cases t; exact ⟨_, rfl, r⟩
theorem Vals.rep {xs : List V} {us : List Value} (h : Vals xs us) : ∀ k : Nat, Vals (List.replicate k xs).flatten (List.replicate k us).flatten
  | 0 => .nil
  | k + 1 => by
    rw [List.replicate_succ, List.replicate_succ, List.flatten_cons, List.flatten_cons]
    exact Vals.append h (Vals.rep h k)
theorem foldl_rep (its : List Value) : ∀ (k : Nat) (acc : List Value),
    List.foldl (fun x1 x2 => x1 ++ x2) acc.toArray (List.replicate k its.toArray) = (acc ++ (List.replicate k its).flatten).toArray
  | 0, acc => by simp
  | k + 1, acc => by
    have e : acc.toArray ++ its.toArray = (acc ++ its).toArray := by simp
    have e2 : (acc ++ its) ++ (List.replicate k its).flatten = acc ++ (List.replicate (k + 1) its).flatten := by
      rw [List.replicate_succ, List.flatten_cons, List.append_assoc]
    rw [← e2, ← foldl_rep its k (acc ++ its), ← e, List.replicate_succ, List.foldl_cons]
section
variable {X : Cx} {pins : List (Addr × Obj)} {σ : St} {H : Hp} {s : Shared} {l b : Addr} {xs ys zs : List V}
theorem Inv.lset {its its' : List Value} {n : Nat} {f : Array Value → Array Value} {t' : Nat} (I : Inv X pins σ H s) (hH : H l = some (.lst xs))
    (e : s.heap.get? l = some { cls := .type "list", data := .seq its.toArray n }) (hf : f its.toArray = its'.toArray) (hv : Vals ys its') (hz : ys.length ≤ sizeLine) :
    Inv X pins σ (upd H l (.lst ys)) { s with heap := s.heap.update l (Obj.mapSeq f), toks := t' } := by
  have q := PySem.IsL.update e f
  rw [hf] at q
  refine I.write (x := l) (e := l) (by rw [hH]; exact trivial) (.inl rfl) (fun b' u hb hu => (Heap.get?_update_other s.heap (Obj.mapSeq f) (Ne.symm hb)).trans hu) ⟨_, q⟩ ?_
  exact ⟨hz, its', _, hv, q⟩
theorem Inv.lnew {its : List Value} {t' : Nat} (I : Inv X pins σ H s) (hv : Vals ys its) (hz : ys.length ≤ sizeLine) :
    Inv X pins σ (upd H s.heap.objs.size (.lst ys)) { s with heap := s.heap.push { cls := .type "list", data := .seq its.toArray }, toks := t' } :=
  I.laid (fun _ _ q => Heap.get?_push_of_some _ q) (Nat.le_refl _) ⟨hz, its, 0, hv, Heap.get?_push_size _ rfl⟩
theorem Inv.fresh (I : Inv X pins σ H s) : H s.heap.objs.size = none := I.hok.fresh (Nat.le_refl _)
theorem Inv.lstM (I : Inv X pins σ H s) (hH : H l = some (.lst xs)) : xs.length ≤ sizeLine ∧ ∃ (its : List Value) (n : Nat), Vals xs its ∧ xs.length = its.length ∧ s.heap.get? l = some { cls := .type "list", data := .seq its.toArray n } := by
  obtain ⟨z, its, n, r, e⟩ := I.hok l _ hH
  exact ⟨z, its, n, r, r.length, e⟩
theorem Zse {n : Nat} (h : n ≤ sizeLine) : Builtin.List.listTooLong n = false := by
  unfold Builtin.List.listTooLong
  exact decide_eq_false (by omega)
end
section
variable {X : Cx}
noncomputable def Zwi : V → List V → Hp → VK → Prop := fun x vs H Q => ∃ l xs y, x = .ref l ∧ vs = [y] ∧ H l = some (.lst xs) ∧ xs.length < sizeLine ∧ Q .non (upd H l (.lst (xs ++ [y])))
theorem Zkq : MtM X "list.append" Zwi := by
  intro pins s σ H x vs v us Q I rx rv h
  obtain ⟨l, xs, y, rfl, rfl, hH, hz, q⟩ := h
  cases rx
  obtain ⟨u, rfl, ru⟩ := rv.one
  obtain ⟨z, its, n, r, hl, e⟩ := I.lstM hH
  refine call_meets F.slot_list_append ⟨_, e, rfl⟩ F.entry_list_append (F.args_list_append_2 _ _) (PySem.list_append l its.toArray n u (by rw [List.size_toArray]; omega)) ⟨e, ?_⟩
  refine ⟨.non, _, I.lset (its' := its ++ [u]) hH e (by simp) (r.append (.cons ru .nil)) ?_, rfl, q⟩
  rw [List.length_append, List.length_singleton]
  omega
noncomputable def Z7m : R2 := fun x y H Q => ∃ l k xs, x = .ref l ∧ y = .int k ∧ H l = some (.lst xs) ∧ -(2 ^ 63) ≤ k ∧ k < 2 ^ 63 ∧ xs.length * k.toNat ≤ sizeLine ∧
  ∀ p, H p = none → Q (.ref p) (upd H p (.lst (List.replicate k.toNat xs).flatten))
theorem len_rep {α : Type} (xs : List α) (k : Nat) : (List.replicate k xs).flatten.length = k * xs.length := by
  induction k with
  | zero => simp
  | succ k ih => rw [List.replicate_succ, List.flatten_cons, List.length_append, ih, Nat.succ_mul, Nat.add_comm]
theorem Zyx : OpR X (binaryOp .Mult) Z7m := by
  intro pins s σ H x y v u Q I rx ry h
  obtain ⟨l, k, xs, rfl, rfl, hH, h1, h2, hz, q⟩ := h
  cases rx
  obtain ⟨t, rfl⟩ := ry
  obtain ⟨z, its, n, r, hl, e⟩ := I.lstM hH
  have hlen : its.toArray.size * k.toNat ≤ sizeLine := by rw [List.size_toArray, ← hl]; exact hz
  have hcap : ¬ its.toArray.size * k.toNat > (2 ^ 63 - 1) / 8 := by
    have : (sizeLine : Nat) ≤ (2 ^ 63 - 1) / 8 := by decide
    omega
  have hfit : ¬ (!Builtin.List.listFitsIndex k) = true := by
    rw [fitsIndex_both h1 h2]
    exact Bool.false_ne_true
  have hlong : ¬ Builtin.List.listTooLong (its.toArray.size * k.toNat) = true := by
    rw [Zse hlen]
    exact Bool.false_ne_true
  have hnew : List.foldl (fun x1 x2 => x1 ++ x2) #[] (List.replicate (if its.toArray.isEmpty = true then 0 else k.toNat) its.toArray) = (List.replicate k.toNat its).flatten.toArray := by
    have f0 : ∀ m : Nat, List.foldl (fun x1 x2 => x1 ++ x2) #[] (List.replicate m its.toArray) = (List.replicate m its).flatten.toArray := fun m => by
      have := foldl_rep its m []
      rw [List.nil_append] at this
      exact this
    rw [f0]
    cases its with
    | nil => simp
    | cons a r' => rw [if_neg (by simp)]
  refine wpAny_binaryOp_repeat_ref (T := "list") (U := "int") (by decide) ⟨_, e, rfl⟩ (fun s' => typeIs_int s' k t) noFill_list_mul F.fills_int_mul F.slot_int_rmul repeat_list F.slot_int_index.lookup
    (call_meets F.slot_int_rmul (typeIs_int s k t) F.entry_int_rmul (F.args_int_rmul_2 _ _) (int___rmul___int_list k t l its.toArray n)
      ⟨e, rfl, ⟨_, e, rfl⟩, call_meets F.slot_list_mul ⟨_, e, rfl⟩ F.entry_list_mul (F.args_list_mul_2 _ _) (AutoListH.list___mul___list_int_3 l its.toArray n k t hfit hcap hlong) ⟨e, ?_⟩⟩)
  rw [hnew]
  exact ⟨.ref _, _, I.lnew (t' := s.toks) (r.rep k.toNat) (by rw [len_rep, Nat.mul_comm]; exact hz), rfl, q _ I.fresh⟩
end
section
variable {prog : Program} {w : World} {A : Around} {E : Value → Shared → Prop} {s : Shared}
end
section
variable {X : Cx}
end
end L2
namespace Att
open PySem PySem.W PySem.Calls PyProof.Rows
theorem Zhj {P : Params} {h : Heap} : ∀ (ns : List Int) (vs : List Value), WellAll P h vs (ns.map WData.int) → IntsAre vs ns := by
  intro ns
  induction ns with
  | nil =>
    intro vs w
    rw [List.map_nil] at w
    cases w
    exact .nil
  | cons n ns ih =>
    intro vs w
    rw [List.map_cons] at w
    cases w with
    | cons a b =>
      cases a
      exact .cons _ _ (ih _ b)
theorem Zqx {l : OpenLaw} {n : Nat} (hn : l.most = some n) {P : Params} {h : Heap} {args : List WData} {vals : List Value}
    (hpre : l.row.toRowW.claim.pre args = true) (hwl : WellAll P h vals args) :
    ∃ a vs ns, vals = [Value.ref a] ∧ args = [WData.list (ns.map WData.int)] ∧ h.get? a = some { cls := .type "list", data := .seq vs.toArray } ∧ IntsAre vs ns ∧ ns.length ≤ n := by
  have hsh : WShape.hasAll [] args [.list .int] = true := (pre_splitW hpre).1
  have hc : l.pre.holds [] { args := args } = true := (pre_splitW hpre).2
  obtain ⟨d, r, rfl, h1, h2⟩ := hasAllW_cons hsh
  obtain rfl := hasAllW_nil h2
  obtain ⟨xs, rfl, h3⟩ := hasW_list h1
  obtain ⟨ns, rfl⟩ := items_int h3
  have hlen : ns.length ≤ n := by
    unfold OpenLaw.pre at hc
    have h4 : (WTm.not (.lt (.lit (.int (n : Int))) (.len (.arg 0)))).holds [] { args := [.list (ns.map .int)] } = true := by
      have h4 := (holds_andW hc).1
      rw [hn] at h4
      exact h4
    have h5 := condW_of h4 (w_not (w_lt w_lit (w_len_list (w_arg rfl))))
    rw [List.length_map] at h5
    refine Nat.le_of_not_lt fun q => ?_
    have q' : (n : Int) < ((ns.length : Nat) : Int) := by omega
    first
      | (rw [decide_eq_true q'] at h5; exact absurd h5 (by decide))
      | (simp at h5; omega)
  cases hwl with
  | cons w1 w2 =>
    cases w2
    cases w1 with
    | list ho hall => exact ⟨_, _, ns, rfl, rfl, ho, Zhj ns _ hall, hlen⟩
theorem Zo8 (l : OpenLaw) (args : List WData) : l.row.toRowW.claim.post args (.bool true) args = true :=
  postW_of (r := l.row.toRowW) (X := (true == true))
    (show WShape.has [] (.bool true) .bool = true by first | rfl | decide | simp [WShape.has, WShape.arms, WShape.armsAll])
    (show (WTm.eq .res (.lit (.bool true))).value [] { args := args, res := some (.bool true), after := args } = some (.bool (true == true)) from w_eq_bool (w_res rfl) w_lit) rfl
theorem attach_call {l : OpenLaw} {n : Nat} {q : Program} {loose : List Str} {XP : (Str → Option Value) → Heap → Prop} {YP : World → Heap → Prop} {d : DefRec}
    (hn : l.most = some n) (hdf : d.params.defaults = [])
    (call : ∀ (w : World) (s₀ s₁ : Shared) (mg mb : Str → Option Value) (fa : Addr) (o : Obj) (pm cd doc : Value) (a : Addr) (vs : List Value) (ns : List Int),
      Ground q loose [] XP w s₀ mg mb s₁.heap → YP w s₁.heap →
      s₁.heap.get? fa = some o → o.data = .func (docDef d.name d.params d.body d.scope pm cd doc) → s₁.heap.CodeRec cd d.name → mg d.name = some (.ref fa) →
      s₁.heap.get? a = some { cls := .type "list", data := .seq vs.toArray } → IntsAre vs ns → ns.length ≤ n → s₁.gens = #[] →
      codeAny (model l.prog w) callerA (.call (.ref fa) ⟨[.ref a], []⟩) (fun r s' => r = .ok (.ret (.bool true)) ∧ OldK s₁.heap s'.heap ∧ s'.os = s₁.os ∧ AllBare s'.gens) s₁) :
    WalkO q loose XP YP l.row.toRowW d [] (fun f vs => PySem.call f vs) := by
  intro w s₀ s₁ mg mb G Y fa o pm cd doc dV kV ho hd hcd hD hmg hg args vals as hpre hlay hrd hwl hlo
  obtain rfl : dV = .none := Dflts.none hD hdf
  obtain rfl : kV = .none := Dflts.noKw hD
  obtain ⟨a, vs, ns, rfl, rfl, hobj, hints, hlen⟩ := Zqx hn hpre hwl
  refine enter_call (codeAny_mono (call w s₀ s₁ mg mb fa o pm cd doc a vs ns G Y ho (fd_plain hd) hcd hmg hobj hints hlen hg) fun r s' hq => ?_)
  obtain ⟨rfl, h2, h3, h4⟩ := hq
  exact ⟨.inl ⟨.bool true, .bool true, [], rfl, fun _ => rfl, .bool true, Zo8 l _, fun _ => ⟨List.Pairwise.nil, fun _ hm => (nomatch hm)⟩⟩, h2, h3, h4⟩
section
variable {prog : Program} {w : World} {A : Around} {E : Value → Shared → Prop} {s : Shared} {K : Frag}
end
end Att
namespace L2
open PySem PySem.Spec PyProof.Rows
theorem Zoi {vs : List Value} {ns : List Int} (h : IntsAre vs ns) : Vals (ns.map V.int) vs := by
  induction h with
  | nil => exact .nil
  | cons n t h ih => exact .cons ⟨t, rfl⟩ ih
noncomputable def Only (H : Hp) : Prop := ∀ b, H b = none ∨ ∃ o xs, H b = some (.frz o (.lst xs))
theorem Zry {P : Program} {w : World} {K : PySem.W.Frag} {mg mb : Str → Option Value} {CX : CXT} {k : Nat} {fa a : Addr} {fd : FuncData} {x : Str} {sp : Sp} {s₁ : Shared} {vs : List Value} {ns : List Int}
    (KX : K.In s₁.heap) (hns : s₁.heap.Ns mainGlobals mg) (hb : s₁.heap.Ns builtinsNs mb) (hbb : ∀ x : Str, x ≠ "__name__" → mb x = bootBuiltins x) (hlim : s₁.heap.NoLimit) (hg : s₁.gens = #[])
    (ha : s₁.heap.get? a = some { cls := .type "list", data := .seq vs.toArray }) (hi : IntsAre vs ns) (hl : ns.length ≤ sizeLine) (hr : Room k callerA)
    (F : ∀ base : Heap, K.In base → base.Ns mainGlobals mg → FnOk P w K mg base CX k fa fd [x] sp) (hbind : ∀ (s : Shared) (u : Value), BindsTo s fd ⟨[u], []⟩ [(x, u)])
    (hsp : ∀ H : Hp, Only H → SqL K H a (ns.map V.int) → sp [.ref a] H (fun v _ => v = .bl true) fun _ _ _ => False)
    (hCX : ∀ H e s', CX [] H s₁ (fun _ _ _ => False) e s' → False) :
    codeAny (model P w) callerA (.call (.ref fa) ⟨[.ref a], []⟩) (fun r s' => r = .ok (.ret (.bool true)) ∧ OldK s₁.heap s'.heap ∧ s'.os = s₁.os ∧ AllBare s'.gens) s₁ := by
  have rv := Zoi hi
  have lenV := hi.length
  -- from an abstract heap in which nothing but the script may be tracked
  have core : ∀ H : Hp, Only H → SqL K H a (ns.map V.int) → HOk P w H s₁.heap → (∀ b, H b ≠ none → b = a) → (H a ≠ none → K.lookup a = none) →
      codeAny (model P w) callerA (.call (.ref fa) ⟨[.ref a], []⟩) (fun r s' => r = .ok (.ret (.bool true)) ∧ OldK s₁.heap s'.heap ∧ s'.os = s₁.os ∧ AllBare s'.gens) s₁ := by
    intro H hO hS hok hA hK
    have base_of : ∀ {b : Addr} {o : Obj}, s₁.heap.get? b = some o → H b = none → (Zsp s₁.heap H).get? b = some o := fun e n => Zs6 e n
    have noA : ∀ {b : Addr} {o : Obj} {es : Array DictEntry} {ep : Nat}, s₁.heap.get? b = some o → o.data = .dict es ep → H b = none := fun {b o es ep} e d => by
      cases q : H b with
      | none => rfl
      | some u =>
        have e' : b = a := hA b (by rw [q]; simp)
        subst e'
        rw [ha] at e; cases e
        have d' : Data.seq vs.toArray _ = Data.dict es ep := d
        cases d'
    have nsK : ∀ {b : Addr} {m : Str → Option Value}, s₁.heap.Ns b m → (Zsp s₁.heap H).Ns b m := fun {b m} ⟨o, es, ep, e, d, r⟩ => ⟨o, es, ep, base_of e (noA e d), d, r⟩
    have hKb : K.In (Zsp s₁.heap H) := fun b o e => base_of (KX b o e) (by
      cases q : H b with
      | none => rfl
      | some u =>
        have e' : b = a := hA b (by rw [q]; simp)
        subst e'
        rw [hK (by rw [q]; simp)] at e; cases e)
    have hM : Mod K mg (Zsp s₁.heap H) := ⟨hKb, nsK hns, ⟨mb, nsK hb, hbb⟩, let ⟨mc, h1, h2⟩ := hlim; ⟨mc, nsK h1, h2⟩⟩
    have e0 : Z14 P w K mg (Zsp s₁.heap H) callerA [] s₁ H := ⟨rfl, hM, fun b o e => Zut e, Nat.le_of_eq (Zpb _ _), trivial, fun b hb => absurd (show b ∈ ([] : List Addr) from hb) (by simp), hok, .of_eq hg⟩
    refine codeAny_mono ((F _ hKb (nsK hns)).run callerA [] s₁ H ⟨[.ref a], []⟩ [.ref a] [.ref a] _ _ hr e0 (hbind s₁ (.ref a)) (.cons rfl .nil) (hsp H hO hS)) fun r s' h => ?_
    cases r with
    | error e => exact (hCX H e s' h).elim
    | ok fl =>
      cases fl with
      | next => exact False.elim h
      | brk => exact False.elim h
      | cont => exact False.elim h
      | ret u =>
        obtain ⟨v, H', os, bare, un, hok', r', q⟩ := h
        have q' : v = .bl true := q
        subst q'
        obtain rfl : u = Value.bool true := r'
        refine ⟨rfl, OldK.of_keep fun b o e => ?_, os, bare⟩
        cases q : H b with
        | none => exact un.keep b o e q (by intro z; exact absurd (show b ∈ ([] : List Addr) from z) (by simp)) (by simp)
        | some u =>
          rcases hO b with z | ⟨ob, xs, z⟩
          · rw [q] at z; cases z
          · have z2 := un.frzs b ob _ z
            obtain ⟨e1, _⟩ := hok b _ z
            obtain ⟨e2, _⟩ := hok' b _ z2
            rw [e] at e1; cases e1
            exact e2
  cases hk : K.lookup a with
  | some o =>
    -- the script is one of the module's own objects
    have e := KX a o hk
    rw [ha] at e
    cases e
    refine core (fun _ => none) (fun _ => .inl rfl) (.inr ⟨_, vs.toArray, _, hk, rfl, rfl, rfl, by rw [List.size_toArray, lenV]; exact hl, by simpa using rv⟩) (fun b u z => by have z' : (none : Option HO) = some u := z; cases z') (fun b z => absurd rfl z) fun z => absurd rfl z
  | none =>
    refine core (fun b => if b = a then some (.frz { cls := .type "list", data := .seq vs.toArray } (.lst (ns.map V.int))) else none) (fun b => ?_) (.inl (.inr ⟨{ cls := .type "list", data := .seq vs.toArray }, if_pos rfl⟩)) (fun b u z => ?_) (fun b z => ?_) fun _ => hk
    · by_cases hb : b = a
      · exact .inr ⟨_, _, if_pos hb⟩
      · exact .inl (if_neg hb)
    · by_cases hb : b = a
      · have z' := (if_pos hb).symm.trans z
        cases z'
        subst hb
        exact ⟨ha, by rw [List.length_map]; exact hl, vs, _, rv, ha⟩
      · have z' := (if_neg hb).symm.trans z
        cases z'
    · by_cases hb : b = a
      · exact hb
      · exact absurd (if_neg hb) z
end L2
namespace L2
open PySem PySem.Spec PyProof.Rows
noncomputable abbrev KOf {K : PySem.W.Frag} {h : Heap} (_ : K.In h) : PySem.W.Frag := K
theorem Zu8 {l : PySem.W.OpenLaw} {n k : Nat} {q : Program} {loose : List Str} {XP : (Str → Option Value) → Heap → Prop} {YP : World → Heap → Prop} {d : DefRec} {K : Params → PySem.W.Frag} {CX : World → CXT} {sp : World → Sp} {x : Str}
    (hn : l.most = some n) (hn2 : n ≤ sizeLine) (hdf : d.params.defaults = []) (hr : Room k callerA)
    (hY : ∀ (w : World) (h : Heap), YP w h → (K w.params).In h)
    (F : ∀ (w : World) (mg : Str → Option Value) (fa : Addr) (h : Heap), (K w.params).In h → h.Ns mainGlobals mg → mg d.name = some (.ref fa) →
      ∃ fd : FuncData, (∀ (s : Shared) (u : Value), BindsTo s fd ⟨[u], []⟩ [(x, u)]) ∧
        ∀ base : Heap, (K w.params).In base → base.Ns mainGlobals mg → FnOk l.prog w (K w.params) mg base (CX w) k fa fd [x] (sp w))
    (hsp : ∀ (w : World) (H : Hp) (a : Addr) (ns : List Int), ns.length ≤ n → Only H → SqL (K w.params) H a (ns.map V.int) → sp w [.ref a] H (fun v _ => v = .bl true) fun _ _ _ => False)
    (hCX : ∀ (w : World) (H : Hp) (s : Shared) (e : Value) (s' : Shared), CX w [] H s (fun _ _ _ => False) e s' → False) :
    PySem.W.WalkO q loose XP YP l.row.toRowW d [] (fun f vs => PySem.call f vs) := by
  refine Att.attach_call hn hdf fun w s₀ s₁ mg mb fa o pm cd doc a vs ns G Y ho hd hcd hmg hobj hints hlen hg => ?_
  have KX := hY w _ Y
  obtain ⟨fd, hb, hF⟩ := F w mg fa _ KX G.T.g hmg
  exact Zry KX G.T.g G.T.b G.T.builtins G.T.nolimit hg hobj hints (Nat.le_trans hlen hn2) hr hF hb (fun H hO hS => hsp w H a ns hlen hO hS) fun H e s' => hCX w H s₁ e s'
end L2
namespace L2
open PySem PySem.Spec PyProof.Rows
noncomputable def Z8 (s : Stmt) : Arguments := match s with
  | .FunctionDef _ a _ _ _ _ _ _ _ _ => a
  | _ => { posonlyargs := [], args := [], vararg := none, kwonlyargs := [], kw_defaults := [], kwarg := none, defaults := [] }
noncomputable def Z0 (s : Stmt) : List Stmt := match s with
  | .FunctionDef _ _ b _ _ _ _ _ _ _ => b
  | _ => []
noncomputable def Zf (s : Stmt) : Scope := match s with
  | .FunctionDef _ _ _ _ _ _ sc _ _ _ => sc
  | _ => { kind := .function, names := [], isGenerator := false, isCoroutine := false }
noncomputable abbrev CX0 : CXT := fun _ _ _ _ _ _ => False
noncomputable abbrev E0 : XK := fun _ _ _ => False
theorem Ye {X : Cx} : Zmo CX0 X E0 := fun _ _ _ _ _ _ _ h => h.elim
structure Fun (K : PySem.W.Frag) (x qual : Str) (st : Stmt) (f : Addr) (fd : FuncData) : Prop where
  ex : ∃ (oc : Value) (od : Option Addr) (kV doc pm : Value) (an : Option Addr) (cdv ct : Value) (osl : Array (Option Value)),
    fd = PySem.W.fnOf x qual (Z8 st) (Z0 st) (Zf st) .none kV doc pm an cdv ct ∧ K.lookup f = some ⟨oc, od, .func fd, osl⟩ ∧ PySem.W.codeIn K cdv qual = true
  kp : PySem.W.keepIn K (.ref f) = true
section
variable {P : Program} {w : World} {K : PySem.W.Frag} {mg : Str → Option Value} {base : Heap}
theorem Fun.ok {x qual : Str} {st : Stmt} {f : Addr} {fd : FuncData} {N ps : List Str} {k : Nat} {sp : Sp} (F : Fun K x qual st f fd) (S : Z6 N ps (Zf st)) (len : ∀ vs H Q E, sp vs H Q E → vs.length = ps.length)
    (hbody : ∀ (cdv : Value) (A : Around) (outer : List Env) (s : Shared) (H : Hp) (vs : List V) (Q : VK) (E : XK), Room k (A.deeper (envOfC qual (Zf st) s.heap.objs.size f cdv)) → sp vs H Q E →
      ∃ t, PSs (Zq8 CX0 P w K mg base N qual (Zf st) f cdv A outer s H E).nox (Z0 st) t ∧ t { nx := fun _ H' => Q .non H', rt := Q } (start N vs) H) : FnOk P w K mg base CX0 (k + 1) f fd ps sp := by
  obtain ⟨oc, od, kV, doc, pm, an, cdv, ct, osl, rfl, lk, hcd⟩ := F.ex
  refine Zyy lk hcd S len fun A outer s H vs Q E hr hsp => ?_
  obtain ⟨t, h, q⟩ := hbody cdv A outer s H vs Q E hr hsp
  exact ⟨t, h.nox, q⟩
theorem Fun.binds {x qual : Str} {st : Stmt} {f : Addr} {fd : FuncData} {ps : List Str} (F : Fun K x qual st f fd)
    (h : ∀ (kV doc pm : Value) (an : Option Addr) (cdv ct : Value) (us : List Value), us.length = ps.length → bindArgs (PySem.W.fnOf x qual (Z8 st) (Z0 st) (Zf st) .none kV doc pm an cdv ct) ⟨us, []⟩ = pure (ps.zip us)) : Binds K fd ps [] := by
  obtain ⟨oc, od, kV, doc, pm, an, cdv, ct, osl, rfl, lk, hcd⟩ := F.ex
  exact .all (h kV doc pm an cdv ct)
theorem Yw {x qual : Str} {st : Stmt} {f : Addr} {oc : Value} {od an : Option Addr} {osl : Array (Option Value)} {kV doc pm cdv ct : Value} (l : K.lookup f = some ⟨oc, od, .func (PySem.W.fnOf x qual (Z8 st) (Z0 st) (Zf st) .none kV doc pm an cdv ct), osl⟩)
    (c : PySem.W.codeIn K cdv qual = true) (k : PySem.W.keepIn K (.ref f) = true) : Fun K x qual st f (PySem.W.fnOf x qual (Z8 st) (Z0 st) (Zf st) .none kV doc pm an cdv ct) := ⟨⟨oc, od, kV, doc, pm, an, cdv, ct, osl, rfl, l, c⟩, k⟩
end
section
variable {X : Cx}
theorem pv (i : Nat) {x : Str} {pos : Pos} (hN : X.N[i]? = some x := by rfl) (hv : Vis X.env.scope x := by first | exact Or.inl rfl | exact Or.inr (Or.inl rfl) | exact Or.inr (Or.inr rfl)) (hd : (x == ("__debug__" : Str)) = false := by decide)
    (hcd : (x == ("__classdict__" : Str)) = false := by decide) : PE X (.Name x pos) (Z6m i) := Zyd hN hv hd hcd
end
noncomputable def Same (H H' : Hp) : Prop := ∀ b o, H b = some o → H' b = some o
theorem Same.refl (H : Hp) : Same H H := fun _ _ h => h
theorem Same.trans {H H1 H2 : Hp} (a : Same H H1) (b : Same H1 H2) : Same H H2 := fun c o h => b c o (a c o h)
theorem Same.free {H H' : Hp} (e : Same H H') {l : Addr} (h : H' l = Option.none) : H l = Option.none := by
  cases q : H l with
  | none => rfl
  | some o =>
    rw [e l o q] at h
    cases h
end L2
set_option maxHeartbeats 4000000
namespace L2
open PySem PySem.Spec PyProof.Rows
noncomputable def Bt (n : Nat) (x : Int) : Prop := x.natAbs < 2 ^ n
theorem Bt.mono {m n : Nat} {x : Int} (h : Bt m x) (hn : m ≤ n) : Bt n x := Nat.lt_of_lt_of_le h (Nat.pow_le_pow_right (by decide) hn)
theorem Bt.mul {m n : Nat} {x y : Int} (h : Bt m x) (k : Bt n y) : Bt (m + n) (x * y) := by
  unfold Bt at *
  rw [Int.natAbs_mul, Nat.pow_add]
  exact Nat.mul_lt_mul'' h k
theorem Bt.neg {m : Nat} {x : Int} (h : Bt m x) : Bt m (-x) := by
  unfold Bt at *
  rw [Int.natAbs_neg]
  exact h
theorem Bt.abs {m : Nat} {x : Int} (h : Bt m x) : Bt m (x.natAbs : Int) := by
  unfold Bt at *
  simpa using h
theorem Bt.add' {m : Nat} {x y : Int} (h : Bt m x) (k : Bt m y) : Bt (m + 1) (x + y) := by
  unfold Bt at *
  have h3 : 2 ^ (m + 1) = 2 * 2 ^ m := by rw [Nat.pow_succ]; omega
  have h4 := Int.natAbs_add_le x y
  omega
theorem Bt.sub' {m : Nat} {x y : Int} (h : Bt m x) (k : Bt m y) : Bt (m + 1) (x - y) := by
  rw [Int.sub_eq_add_neg]
  exact h.add' k.neg
theorem Bt.of_le {m : Nat} {x y : Int} (h : Bt m x) (k : y.natAbs ≤ x.natAbs) : Bt m y := Nat.lt_of_le_of_lt k h
theorem Bt.of_lt {m : Nat} {x : Int} (h1 : -(2 ^ m) < x) (h2 : x < 2 ^ m) : Bt m x := by
  unfold Bt
  have e : ((2 ^ m : Nat) : Int) = 2 ^ m := by simp
  omega
theorem Bt.bits {m : Nat} {x : Int} (h : Bt m x) : Builtin.Int.intBits x ≤ m := by
  unfold Builtin.Int.intBits
  split
  · exact Nat.zero_le _
  · rename_i hx
    have hp : x.natAbs ≠ 0 := by
      intro e
      apply hx
      have : x = 0 := by omega
      subst this
      rfl
    have := (Nat.log2_lt hp).mpr h
    omega
theorem Bt.mulOk {m n : Nat} {x y : Int} (h : Bt m x) (k : Bt n y) (hmn : m + n ≤ 100000000 := by decide) : IntMulOk x y := by
  have h1 := h.bits
  have h2 := k.bits
  have h3 : Builtin.Int.intTooBig (Builtin.Int.intBits x + Builtin.Int.intBits y) = false := by
    unfold Builtin.Int.intTooBig bitsLine
    exact decide_eq_false (by omega)
  unfold IntMulOk
  rw [h3]
  simp
noncomputable def DivOk (_ j : Int) : Prop := j ≠ 0 ∧ j.natAbs.log2 < 9000
theorem DivOk.of {i j : Int} {n : Nat} (h0 : j ≠ 0) (h : Bt n j) (hn : n ≤ 9000 := by decide) : DivOk i j := by
  refine ⟨h0, ?_⟩
  have hp : j.natAbs ≠ 0 := by omega
  have := (Nat.log2_lt hp).mpr h
  omega
section
variable {X : Cx}
theorem Wy : OpR X (binaryOp .Mult) (rI IntMulOk fun i j => .int (i * j)) := opI fun _ _ _ _ _ _ _ hc q => mul_int q hc
theorem Wx : OpR X (binaryOp .FloorDiv) (rI DivOk fun i j => .int (i.fdiv j)) := opI fun _ _ _ _ _ _ _ hc q => floordiv_int hc.1 q (.inl (PyProof.noPylong_of_log2 hc.2))
theorem Zeo : OpR X (binaryOp .Pow) (rI Z12 fun i j => .int (i ^ j.toNat)) := Z0t
end
theorem Zht (elt target iter : Expr) (ifs : List Expr) (scope : Scope) (pos : Pos) (it acc : Value) (env : Env) :
    compTurn (.ListComp elt [⟨target, iter, ifs, 0⟩] scope pos) 0 it acc env = (standAt iter.pos >>= fun _ => pyNext it >>= fun r => match r with
      | none => pure (.done .next)
      | some v => letOwnedTupleGo target it v >>= fun _ => assign target env v >>= fun _ =>
        (forIn ifs true fun c r => if r = true then do let ok ← isTrue c env (eval c env); pure (ForInStep.yield ok) else pure (ForInStep.yield r)) >>= fun ok =>
          if ok = true then ((eval elt env >>= fun x => call (.builtin "list.append") [acc, x] >>= fun _ => pure ()) >>= fun _ =>
            again (.compLoop (.ListComp elt [⟨target, iter, ifs, 0⟩] scope pos) 0 it acc env))
          else again (.compLoop (.ListComp elt [⟨target, iter, ifs, 0⟩] scope pos) 0 it acc env)) := by rfl
end L2
namespace L2
open PySem PySem.Spec PyProof.Rows
theorem Zkw {prog : Program} {w : World} {A : Around} {R : Result → Shared → Prop} {s : Shared} {elt target iter : Expr} {ifs : List Expr} {scope : Scope} {pos : Pos} {it acc : Value} {env : Env} (I : Nat → Shared → Prop)
    (turn : ∀ n s, I n s → wpAny (model prog w) A (pyNext it) (fun r s₁ => match r with
      | none => R (.ok .next) s₁
      | some v => wpAny (model prog w) A (letOwnedTupleGo target it v) (fun _ s₁ => wpAny (model prog w) A (assign target env v) (fun _ s₂ =>
          wpAny (model prog w) A (forIn ifs true fun c r => if r = true then do let ok ← isTrue c env (eval c env); pure (ForInStep.yield ok) else pure (ForInStep.yield r)) (fun ok s₃ =>
            if ok = true then wpAny (model prog w) A (eval elt env) (fun x s₄ =>
              wpAny (model prog w) A (call (.builtin "list.append") [acc, x]) (fun _ s₅ => ∃ m, m < n ∧ I m s₅) (notedBy (model prog w) A env fun e s' => R (.error e) s') s₄) (notedBy (model prog w) A env fun e s' => R (.error e) s') s₃
            else ∃ m, m < n ∧ I m s₃) (notedBy (model prog w) A env fun e s' => R (.error e) s') s₂) (notedBy (model prog w) A env fun e s' => R (.error e) s') s₁) (notedBy (model prog w) A env fun e s' => R (.error e) s') s₁) (notedBy (model prog w) A env fun e s' => R (.error e) s') s)
    (n : Nat) (h : I n s) :
    codeAny (model prog w) A (.compLoop (.ListComp elt [⟨target, iter, ifs, 0⟩] scope pos) 0 it acc env) R s := by
  refine codeAny_loop rfl I (fun n s hI => ?_) n h
  show wpAny _ A ((compTurn (.ListComp elt [⟨target, iter, ifs, 0⟩] scope pos) 0 it acc env).onRaise (fun x => do noteFrame x env; theTreesLotGoes x)) _ _ s
  refine wpAny_noted ?_
  rw [Zht]
  refine wpAny_bind (wpAny_standAt (wpAny_bind (wpAny_mono (turn n s hI) (fun r s₁ h₁ => ?_) fun _ _ h' => h')))
  cases r with
  | none => exact wpAny_pure h₁
  | some v =>
    refine wpAny_bind (wpAny_mono h₁ (fun _ s₂ h₂ => ?_) fun _ _ h' => h')
    refine wpAny_bind (wpAny_mono h₂ (fun _ s₂ h₂ => wpAny_bind (wpAny_mono h₂ (fun ok s₃ h₃ => ?_) fun _ _ h' => h')) fun _ _ h' => h')
    cases ok with
    | false => exact wpAny_pure ⟨rfl, h₃⟩
    | true =>
      exact wpAny_bind (wpAny_bind (wpAny_mono h₃ (fun x s₄ h₄ => wpAny_bind (wpAny_mono h₄ (fun _ s₅ h₅ => wpAny_pure (wpAny_pure ⟨rfl, h₅⟩)) fun _ _ h' => h')) fun _ _ h' => h'))
noncomputable def Zhr (env : Env) : List (Str × NameKind) → List (Str × Addr) → List (Str × Addr)
  | [], acc => acc
  | (n, k) :: r, acc => if k == .free then Zhr env r ((n, (env.cells.lookup n).getD 0) :: acc) else Zhr env r acc
theorem Zix {env : Env} : ∀ (names : List (Str × NameKind)) (acc : List (Str × Addr)), (∀ y ∈ names, y.2 = .free → ∃ c, env.cells.lookup y.1 = some c) →
    (forIn names acc (fun (y : Str × NameKind) cs => (if y.2 == .free then (cellOf env y.1 >>= fun c => pure (ForInStep.yield ((y.1, c) :: cs))) else pure (ForInStep.yield cs) : Sem (ForInStep (List (Str × Addr)))))) = pure (Zhr env names acc)
  | [], acc, _ => by rw [List.forIn_nil]; rfl
  | (n, k) :: r, acc, h => by
    by_cases hk : k = .free
    · subst hk
      obtain ⟨c, hc⟩ := h (n, .free) (.head _) rfl
      have hc' : env.cells.lookup n = some c := hc
      have e := Zix (env := env) r ((n, c) :: acc) fun y hy => h y (.tail _ hy)
      have ec : cellOf env n = pure c := by
        unfold cellOf
        rw [hc']
      rw [List.forIn_cons]
      simp only [beq_self_eq_true, if_true]
      rw [ec]
      simp only [Zhr, beq_self_eq_true, if_true, hc', Option.getD_some]
      exact e
    · have e := Zix (env := env) r acc fun y hy => h y (.tail _ hy)
      have hb : (k == NameKind.free) = false := by simpa using hk
      rw [List.forIn_cons]
      simp only [Zhr, hb, Bool.false_eq_true, if_false]
      exact e
theorem Zef {scope : Scope} {env : Env} (h : ∀ y ∈ scope.names, y.2 = .free → ∃ c, env.cells.lookup y.1 = some c) : closureFor scope env = pure (Zhr env scope.names []) := by
  have e := Zix scope.names [] h
  have e' : (forIn scope.names ([] : List (Str × Addr)) (fun (y : Str × NameKind) cs => (match y with | (name, kind) => do
      if kind == .free then do let a ← cellOf env name; pure (ForInStep.yield ((name, a) :: cs)) else pure (ForInStep.yield cs) : Sem (ForInStep (List (Str × Addr)))))) = pure (Zhr env scope.names []) := e
  exact congrArg (fun (m : Sem (List (Str × Addr))) => m >>= fun x => pure x) e'
theorem Zin {env : Env} : ∀ (names : List (Str × NameKind)) (acc : List (Str × Addr)), (∀ y ∈ names, y.2 = .free → ∃ c, env.cells.lookup y.1 = some c) →
    ∀ n c, (n, c) ∈ Zhr env names acc → (n, c) ∈ acc ∨ ((n, NameKind.free) ∈ names ∧ env.cells.lookup n = some c)
  | [], acc, _, n, c, h => .inl h
  | (m, k) :: r, acc, h, n, c, hm => by
    by_cases hk : k = .free
    · subst hk
      obtain ⟨d, hd⟩ := h (m, .free) (.head _) rfl
      have hd' : env.cells.lookup m = some d := hd
      simp only [Zhr, beq_self_eq_true, if_true, hd', Option.getD_some] at hm
      rcases Zin r _ (fun y hy => h y (.tail _ hy)) n c hm with z | ⟨z1, z2⟩
      · rcases List.mem_cons.mp z with z | z
        · cases z; exact .inr ⟨.head _, hd'⟩
        · exact .inl z
      · exact .inr ⟨.tail _ z1, z2⟩
    · have hb : (k == NameKind.free) = false := by simpa using hk
      simp only [Zhr, hb, Bool.false_eq_true, if_false] at hm
      refine (Zin r _ (fun y hy => h y (.tail _ hy)) n c hm).imp id fun qz9 => ?_
      obtain ⟨z1, z2⟩ := qz9
      exact ⟨.tail _ z1, z2⟩
theorem Zjc {env : Env} : ∀ (names : List (Str × NameKind)) (acc : List (Str × Addr)), ∀ p ∈ acc, p ∈ Zhr env names acc
  | [], _, _, h => h
  | (m, k) :: r, acc, p, h => by
    unfold Zhr
    split
    · exact Zjc r _ p (.tail _ h)
    · exact Zjc r _ p h
theorem Zja {env : Env} : ∀ (names : List (Str × NameKind)) (acc : List (Str × Addr)) (n : Str), (n, NameKind.free) ∈ names → ∃ c, (n, c) ∈ Zhr env names acc
  | [], _, _, h => nomatch h
  | (m, k) :: r, acc, n, h => by
    rcases List.mem_cons.mp h with z | z
    · cases z
      exact ⟨_, by
        simp only [Zhr, beq_self_eq_true, if_true]
        exact Zjc _ _ _ (.head _)⟩
    · unfold Zhr
      split
      · exact Zja r _ n z
      · exact Zja r _ n z
theorem Zf6 {env : Env} (inj : ∀ x y c, env.cells.lookup x = some c → env.cells.lookup y = some c → x = y) : ∀ (names : List (Str × NameKind)) (acc : List (Str × Addr)),
    (∀ y ∈ names, y.2 = .free → ∃ c, env.cells.lookup y.1 = some c) → (names.map (·.1)).Nodup → (∀ p ∈ acc, env.cells.lookup p.1 = some p.2) → (∀ p ∈ acc, p.1 ∉ names.map (·.1)) → (acc.Pairwise fun x y => x.2 ≠ y.2) →
    (Zhr env names acc).Pairwise fun x y => x.2 ≠ y.2
  | [], _, _, _, _, _, h => h
  | (m, k) :: r, acc, hf, hn, ha, hd, hp => by
    rw [List.map_cons, List.nodup_cons] at hn
    have hf' : ∀ y ∈ r, y.2 = .free → ∃ c, env.cells.lookup y.1 = some c := fun y hy => hf y (.tail _ hy)
    have hd' : ∀ p ∈ acc, p.1 ∉ r.map (·.1) := fun p hp z => hd p hp (by rw [List.map_cons]; exact .tail _ z)
    by_cases hk : k = .free
    · subst hk
      obtain ⟨d, hd0⟩ := hf (m, .free) (.head _) rfl
      have hd1 : env.cells.lookup m = some d := hd0
      simp only [Zhr, beq_self_eq_true, if_true, hd1, Option.getD_some]
      refine Zf6 inj r _ hf' hn.2 (fun p hp' => ?_) (fun p hp' => ?_) (List.pairwise_cons.mpr ⟨fun p hp' z => ?_, hp⟩)
      · rcases List.mem_cons.mp hp' with rfl | hp'
        · exact hd1
        · exact ha p hp'
      · rcases List.mem_cons.mp hp' with rfl | hp'
        · exact hn.1
        · exact hd' p hp'
      · have e : m = p.1 := inj m p.1 d hd1 (by rw [ha p hp', ← z])
        exact hd p hp' (by rw [List.map_cons, ← e]; exact .head _)
    · have hb : (k == NameKind.free) = false := by simpa using hk
      simp only [Zhr, hb, Bool.false_eq_true, if_false]
      exact Zf6 inj r _ hf' hn.2 ha hd' hp
structure Zm4 (h : Heap) (lo : Nat) (names : List (Str × NameKind)) (acc cs : List (Str × Addr)) : Prop where
  mem : ∀ n c, (n, c) ∈ cs → (n, c) ∈ acc ∨ (h.IsCell c none ∧ lo ≤ c ∧ (n, NameKind.cell) ∈ names)
  has : ∀ n, (n, NameKind.cell) ∈ names → ∃ c, (n, c) ∈ cs
  old : ∀ p ∈ acc, p ∈ cs
theorem Zfp : ∀ (names : List (Str × NameKind)) (h : Heap) (lo : Nat) (acc : List (Str × Addr)), lo ≤ h.objs.size → Zm4 (pushCells h names) lo names acc (cellsFrom h.objs.size names acc)
  | [], _, _, _, _ => ⟨fun _ _ m => .inl m, (fun _ m => nomatch m), fun _ m => m⟩
  | (name, kind) :: r, h, lo, acc, hlo => by
    by_cases hk : (kind == NameKind.cell) = true
    · have ek : kind = .cell := by simpa using hk
      subst ek
      have ih := Zfp r (h.push { cls := .type "cell", data := .cell none }) lo ((name, h.objs.size) :: acc) (by rw [Heap.size_push]; omega)
      rw [Heap.size_push] at ih
      have e1 : cellsFrom h.objs.size ((name, .cell) :: r) acc = cellsFrom (h.objs.size + 1) r ((name, h.objs.size) :: acc) := by
        rw [cellsFrom, if_pos hk]
      have e2 : pushCells h ((name, .cell) :: r) = pushCells (h.push { cls := .type "cell", data := .cell none }) r := by
        rw [pushCells, if_pos hk]
      rw [e1, e2]
      refine ⟨fun n c m => ?_, fun n m => ?_, fun p m => ih.old p (.tail _ m)⟩
      · rcases ih.mem n c m with z | ⟨z1, z2, z3⟩
        · rcases List.mem_cons.mp z with z | z
          · cases z
            exact .inr ⟨⟨_, pushCells_keeps _ _ _ _ (Heap.get?_push_size _ rfl), rfl⟩, hlo, .head _⟩
          · exact .inl z
        · exact .inr ⟨z1, z2, .tail _ z3⟩
      · rcases List.mem_cons.mp m with z | z
        · cases z
          exact ⟨_, ih.old _ (.head _)⟩
        · exact ih.has n z
    · have ih := Zfp r h lo acc hlo
      have e1 : cellsFrom h.objs.size ((name, kind) :: r) acc = cellsFrom h.objs.size r acc := by
        rw [cellsFrom, if_neg hk]
      have e2 : pushCells h ((name, kind) :: r) = pushCells h r := by
        rw [pushCells, if_neg hk]
      rw [e1, e2]
      refine ⟨fun n c m => (ih.mem n c m).imp id fun ⟨z1, z2, z3⟩ => ⟨z1, z2, .tail _ z3⟩, fun n m => ?_, ih.old⟩
      rcases List.mem_cons.mp m with z | z
      · cases z
        exact absurd rfl hk
      · exact ih.has n z
theorem Zhe (names : List (Str × NameKind)) : ∀ (h : Heap) (acc : List (Str × Addr)), (acc.Pairwise fun x y => x.2 ≠ y.2) → (∀ p ∈ acc, p.2 < h.objs.size) → (cellsFrom h.objs.size names acc).Pairwise fun x y => x.2 ≠ y.2 := by
  induction names with
  | nil => intro h acc ha _; exact ha
  | cons y r ih =>
    intro h acc ha hb
    obtain ⟨name, kind⟩ := y
    unfold cellsFrom
    split
    · have := ih (h.push { cls := .type "cell", data := .cell none }) ((name, h.objs.size) :: acc) (List.pairwise_cons.mpr ⟨fun p hp => Nat.ne_of_gt (hb p hp), ha⟩) (fun p hp => by
        rw [Heap.size_push]
        rcases List.mem_cons.mp hp with rfl | hp
        · exact Nat.lt_succ_self _
        · exact Nat.lt_succ_of_lt (hb p hp))
      rwa [Heap.size_push] at this
    · exact ih h acc ha hb
theorem Zhy {M : Model} {A : Around} {E : Value → Shared → Prop} {s : Shared} {scope : Scope} {globals : Addr} {cl : List (Str × Addr)} {qual : Str} {env : Env} {Q : Env → Shared → Prop}
    (hQ : Q (newEnv scope s.heap.objs.size globals (cellsFrom (s.heap.objs.size + 1) scope.names cl) qual none .none (some env) builtinsNs)
      { s with heap := pushCells (s.heap.push { cls := .type "dict", data := .dict #[] }) scope.names }) :
    wpAny M A (newFunctionEnv scope globals cl [] qual none .none (some env)) Q E s := by
  simp only [newFunctionEnv, Option.isSome_some, if_true]
  refine wpAny_bind (wpAny_alloc ?_)
  refine wpAny_bind (wpAny_layCells _ (fun name kind cells => by cases hkc : kind == NameKind.cell <;> simp [hkc]) _ _ _ _ ?_)
  rw [show ({ s with heap := s.heap.push { cls := .type "dict", data := .dict #[] } } : Shared).heap.objs.size = s.heap.objs.size + 1 from Heap.size_push ..]
  rw [List.forIn_nil]
  exact wpAny_bind (wpAny_pure (wpAny_pure hQ))
end L2
namespace L2
open PySem PySem.Spec PyProof.Rows
noncomputable def Jw (X : Cx) (N' : List Str) (sc : Scope) (C : Addr) (cells : List (Str × Addr)) (s₂ : Shared) (H₂ : Hp) (fp : List Addr) : Cx :=
  { X with N := N', s₀ := s₂, H₀ := H₂, env := compEnvC sc cells C X.env, outer := X.stack, stack := X.stack, ex := fp, fn := fun x => sc.names.lookup x == some .cell, pn := [], xe := fun _ _ => False }
theorem Zea {env : Env} : ∀ {names : List (Str × NameKind)} {x : Str} {k : NameKind}, names.lookup x = some k →
    (names.map fun (n, k) => if (k == NameKind.free && env.scope.kind == .function && env.kindOf n == some .cell) then (n, NameKind.cell) else (n, k)).lookup x =
      some (if (k == NameKind.free && env.scope.kind == .function && env.kindOf x == some .cell) then NameKind.cell else k)
  | [], _, _, h => by simp at h
  | (n, k') :: r, x, k, h => by
    have ih := @Zea env r x k
    show List.lookup x ((if (k' == NameKind.free && env.scope.kind == .function && env.kindOf n == some .cell) = true then (n, NameKind.cell) else (n, k')) :: _) = _
    cases hx : x == n with
    | true =>
      simp only [List.lookup_cons, hx] at h
      cases h
      have e := beq_iff_eq.mp hx
      subst e
      split <;> simp [List.lookup_cons]
    | false =>
      simp only [List.lookup_cons, hx] at h
      split
      · simp only [List.lookup_cons, hx]; exact ih h
      · simp only [List.lookup_cons, hx]; exact ih h
theorem Zf8 {env : Env} : ∀ {names : List (Str × NameKind)} {x : Str}, names.lookup x = none →
    (names.map fun (n, k) => if (k == NameKind.free && env.scope.kind == .function && env.kindOf n == some .cell) then (n, NameKind.cell) else (n, k)).lookup x = none
  | [], _, _ => rfl
  | (n, k') :: r, x, h => by
    have ih := @Zf8 env r x
    show List.lookup x ((if (k' == NameKind.free && env.scope.kind == .function && env.kindOf n == some .cell) = true then (n, NameKind.cell) else (n, k')) :: _) = _
    cases hx : x == n with
    | true =>
      simp only [List.lookup_cons, hx] at h
      cases h
    | false =>
      simp only [List.lookup_cons, hx] at h
      split
      · simp only [List.lookup_cons, hx]; exact ih h
      · simp only [List.lookup_cons, hx]; exact ih h
theorem Zfj {α : Type} : ∀ {l : List (Str × α)} {n : Str} {c : α}, (l.map (·.1)).Nodup → (n, c) ∈ l → l.lookup n = some c
  | (k, v) :: r, n, c, hd, h => by
    rw [List.map_cons, List.nodup_cons] at hd
    rcases List.mem_cons.mp h with e | hr
    · cases e
      simp [List.lookup_cons]
    · have hne : (n == k) = false := by
        refine Bool.eq_false_iff.mpr fun z => hd.1 ?_
        have e : n = k := beq_iff_eq.mp z
        rw [← e]
        exact List.mem_map.mpr ⟨(n, c), hr, rfl⟩
      rw [List.lookup_cons, hne]
      exact Zfj hd.2 hr
theorem Wh {α : Type} : ∀ {l : List (Str × α)} {n : Str} {c : α}, (n, c) ∈ l → ∃ d, l.lookup n = some d ∧ (n, d) ∈ l
  | (k, v) :: r, n, c, h => by
    by_cases e : n = k
    · subst e
      exact ⟨v, by simp [List.lookup_cons], List.mem_cons_self⟩
    · have hne : (n == k) = false := by simpa using e
      rcases List.mem_cons.mp h with z | z
      · cases z; exact absurd rfl e
      · obtain ⟨d, h1, h2⟩ := Wh z
        exact ⟨d, by rw [List.lookup_cons, hne]; exact h1, .tail _ h2⟩
structure CompScope (X : Cx) (own : List Str) (caps : List Nat) (N' : List Str) (sc : Scope) : Prop where
  kind : sc.kind = .function
  nd : N'.Nodup
  names : N' = own ++ caps.map fun i => X.N.getD i Str.empty
  nn : (sc.names.map (·.1)).Nodup
  free : (sc.names.all fun y => y.2 != .free || (X.env.kindOf y.1 == some .cell || X.env.kindOf y.1 == some .free)) = true
  caps : (caps.all fun i => sc.names.lookup (X.N.getD i Str.empty) == some .free) = true
noncomputable def Zbb (own : List Str) (caps : List Nat) (σ : St) : St := own.map (fun _ => none) ++ caps.map fun i => (σ[i]?).getD none
section
variable {X : Cx} {own : List Str} {caps : List Nat} {N' : List Str} {sc : Scope}
theorem CompScope.lk (S : CompScope X own caps N' sc) {n : Str} {k : NameKind} (h : (n, k) ∈ sc.names) : sc.names.lookup n = some k := Zfj S.nn h
theorem CompScope.fr (S : CompScope X own caps N' sc) {n : Str} (h : (n, NameKind.free) ∈ sc.names) : X.env.kindOf n = some .cell ∨ X.env.kindOf n = some .free := by
  have := List.all_eq_true.mp S.free _ h
  simpa using this
theorem Znc {pins : List (Addr × Obj)} {σ : St} {H : Hp} {s : Shared} {fp : List Addr} {cl : List (Str × Addr)} (S : CompScope X own caps N' sc) (I : Inv X pins σ H s)
    (f : ∀ b ∈ fp, Zii X pins H b) (fo : ∀ b ∈ fp, ∃ o, s.heap.get? b = some o)
    (hcl : ∀ n c, (n, c) ∈ cl → (n, NameKind.free) ∈ sc.names ∧ X.env.cells.lookup n = some c) (hcl2 : ∀ n, (n, NameKind.free) ∈ sc.names → ∃ c, (n, c) ∈ cl) (hapart : cl.Pairwise fun x y => x.2 ≠ y.2) :
    Inv (Jw X N' sc (s.heap.objs.size + 1) (cellsFrom (s.heap.objs.size + 2) sc.names cl) s H fp) [] (Zbb own caps σ) (upd H s.heap.objs.size (.lst []))
      { s with heap := pushCells ((s.heap.push { cls := .type "list", data := .seq #[] }).push { cls := .type "dict", data := .dict #[] }) sc.names } := by
  generalize hh1 : s.heap.push { cls := .type "list", data := .seq #[] } = h1
  have z1 : h1.objs.size = s.heap.objs.size + 1 := by rw [← hh1, Heap.size_push]
  generalize hh2 : h1.push { cls := .type "dict", data := .dict #[] } = h2
  have z2 : h2.objs.size = s.heap.objs.size + 2 := by rw [← hh2, Heap.size_push, z1]
  have BC := Zfp sc.names h2 (s.heap.objs.size + 2) cl (by omega)
  have AP := Zhe sc.names h2 cl hapart (fun p hp => by
    obtain ⟨v, hv⟩ := I.cell p.1 p.2 (hcl p.1 p.2 hp).2
    exact Nat.lt_of_lt_of_le hv.lt (by omega))
  rw [z2] at BC AP
  have keep : ∀ b o, s.heap.get? b = some o → (pushCells h2 sc.names).get? b = some o := fun b o e => pushCells_keeps _ _ _ _ (by
    rw [← hh2]
    refine Heap.get?_push_of_some _ ?_
    rw [← hh1]
    exact Heap.get?_push_of_some _ e)
  have hD : (pushCells h2 sc.names).get? s.heap.objs.size = some { cls := .type "list", data := .seq #[] } := pushCells_keeps _ _ _ _ (by
    rw [← hh2]
    refine Heap.get?_push_of_some _ ?_
    rw [← hh1]
    exact Heap.get?_push_size _ rfl)
  have hC : (pushCells h2 sc.names).Ns (s.heap.objs.size + 1) (fun _ => none) := by
    refine Heap.Ns.keeps ?_ (pushCells_keeps _ _)
    have := Heap.Ns.new h1 (.type "dict")
    rw [hh2, z1] at this
    exact this
  have cellOld : ∀ n c, X.env.cells.lookup n = some c → c < s.heap.objs.size := fun n c e => by
    obtain ⟨v, hv⟩ := I.cell n c e
    exact hv.lt
  have lk' : ∀ n c, (cellsFrom (s.heap.objs.size + 2) sc.names cl).lookup n = some c → (n, c) ∈ cellsFrom (s.heap.objs.size + 2) sc.names cl := fun n c e => PySem.mem_of_lookup e
  have hnD : H s.heap.objs.size = none := I.fresh
  have fresh : ∀ c, s.heap.objs.size < c → upd H s.heap.objs.size (.lst []) c = none := fun c hc => by
    rw [Yl (Nat.ne_of_gt hc)]
    exact I.hok.fresh (Nat.le_of_lt hc)
  have isc : ∀ n c, (n, c) ∈ cellsFrom (s.heap.objs.size + 2) sc.names cl → ∃ v, (pushCells h2 sc.names).IsCell c v := fun n c m => by
    rcases BC.mem n c m with z | ⟨z, _⟩
    · obtain ⟨v, hv⟩ := I.cell n c (hcl n c z).2
      exact ⟨v, hv.keeps keep⟩
    · exact ⟨none, z⟩
  have okH : HOk X.prog X.w (upd H s.heap.objs.size (.lst [])) (pushCells h2 sc.names) := by
    refine I.hok.laid keep (Nat.le_refl _) ?_
    exact ⟨Nat.zero_le _, [], 0, .nil, hD⟩
  have kinds : ∀ x k, sc.names.lookup x = some k → (relabel sc X.env).names.lookup x = some (if (k == NameKind.free && X.env.scope.kind == .function && X.env.kindOf x == some .cell) then NameKind.cell else k) := fun x k e => Zea e
  have kindsR : ∀ x k, (relabel sc X.env).names.lookup x = some k → ∃ k', (x, k') ∈ sc.names ∧ k = (if (k' == NameKind.free && X.env.scope.kind == .function && X.env.kindOf x == some .cell) then NameKind.cell else k') := fun x k e => by
    cases q : sc.names.lookup x with
    | none =>
      have := Zf8 (env := X.env) q
      rw [show (relabel sc X.env).names.lookup x = _ from this] at e
      cases e
    | some k' =>
      refine ⟨k', PySem.mem_of_lookup q, ?_⟩
      rw [kinds x k' q] at e
      exact (Option.some.inj e).symm
  refine ⟨⟨I.ok.mod, S.kind, I.ok.glob, I.ok.blt, ?_, ?_, ?_, ?_, I.ok.hd, I.ok.frames, .inl rfl, ?_, ?_, ?_, ?_, ?_, ?_, ?_⟩, rfl, I.bare, ?_, ?_, ?_, ?_, ?_, (fun p hp => nomatch hp), okH, ?_⟩
  · show s.heap.objs.size ≤ s.heap.objs.size + 1; omega
  · intro x y c e1 e2
    exact name_of_addr AP (lk' x c e1) (lk' y c e2)
  · intro x hx
    rcases hx with hx | hx
    · obtain ⟨k', hm, hk'⟩ := kindsR x _ hx
      cases k' with
      | cell =>
        obtain ⟨c, hc⟩ := BC.has x hm
        obtain ⟨d, h1, _⟩ := Wh hc
        exact ⟨d, h1⟩
      | free =>
        obtain ⟨c, hc⟩ := hcl2 _ hm
        obtain ⟨d, h1, _⟩ := Wh (BC.old _ hc)
        exact ⟨d, h1⟩
      | _ => simp at hk'
    · obtain ⟨k', hm, hk'⟩ := kindsR x _ hx
      cases k' with
      | free =>
        obtain ⟨c, hc⟩ := hcl2 _ hm
        obtain ⟨d, h1, _⟩ := Wh (BC.old _ hc)
        exact ⟨d, h1⟩
      | _ => simp at hk'
  · intro x c hf e
    have hf' : sc.names.lookup x = some .cell := by simpa [Jw] using hf
    rcases BC.mem x c (lk' x c e) with z | ⟨_, z, _⟩
    · -- a free one and a cell at once: the name stands once
      exfalso
      have q := S.lk (hcl x c z).1
      rw [hf'] at q
      cases q
    · show s.heap.objs.size ≤ c; omega
  · intro b hb
    obtain ⟨o, ho⟩ := fo b hb
    have hlt := Heap.lt_size ho
    refine ⟨Nat.ne_of_lt (Nat.lt_trans hlt (Nat.lt_succ_self _)), fun x c e z => ?_⟩
    rcases BC.mem x c (lk' x c e) with q | ⟨_, q, _⟩
    · exact (f b hb).2.2.2.2.1 x c (hcl x c q).2 z
    · subst z
      exact absurd hlt (Nat.not_lt.mpr (Nat.le_trans (Nat.le_add_right _ 2) q))
  · exact I.bs
  · exact Nat.le_trans I.ok.bsz I.sz
  · intro b o e hb
    rcases (f b hb).2.2.2.1 with z | z
    · exact I.ok.noex b o e z
    · exact absurd (Nat.lt_of_lt_of_le (Heap.lt_size e) I.ok.bsz) (Nat.not_lt.mpr z)
  · intro b hb z
    rcases List.mem_cons.mp (I.stkSub b z) with q | q
    · exact (f b hb).2.1 q
    · exact (f b hb).2.2.1 q
  · exact I.stack
  · exact I.stkFree
  · exact Un.laid keep (Nat.le_refl _) hnD
  · refine ⟨_, hC, fun i x v e1 e2 e3 => ?_⟩
    have e1' : (own ++ caps.map fun i => X.N.getD i Str.empty)[i]? = some x := by rw [← S.names]; exact e1
    have e2' : (own.map (fun _ => (none : Option V)) ++ caps.map fun i => (σ[i]?).getD none)[i]? = some (some v) := e2
    by_cases hi : i < own.length
    · rw [List.getElem?_append_left (by simpa using hi), List.getElem?_map] at e2'
      cases q : own[i]? with
      | none => rw [q] at e2'; cases e2'
      | some y => rw [q] at e2'; cases e2'
    · rw [List.getElem?_append_right (by simpa using hi), List.getElem?_map] at e2'
      rw [List.getElem?_append_right (by omega), List.getElem?_map] at e1'
      rw [List.length_map] at e2'
      cases q : caps[i - own.length]? with
      | none => rw [q] at e2'; cases e2'
      | some j =>
        rw [q] at e1' e2'
        have e1 : X.N.getD j Str.empty = x := Option.some.inj e1'
        have e2 : (σ[j]?).getD none = some v := Option.some.inj e2'
        have e4 : σ[j]? = some (some v) := by
          cases r : σ[j]? with
          | none => rw [r] at e2; cases e2
          | some o => rw [r] at e2; exact congrArg some e2
        have hj : j < X.N.length := by rw [← I.len]; exact (List.getElem?_eq_some_iff.mp e4).1
        have e5 : X.N[j]? = some x := by rw [← e1]; simp [List.getD_eq_getElem?_getD, hj]
        have hc := List.all_eq_true.mp S.caps j (List.mem_of_getElem? q)
        have e6 : sc.names.lookup x = some .free := by rw [← e1]; simpa using hc
        have hm := PySem.mem_of_lookup e6
        have kx := S.fr hm
        obtain ⟨m, hn, hl⟩ := I.loc
        obtain ⟨u, ru, lo⟩ := hl j x v e5 e4 (by rcases kx with z | z; exact .inr (.inl z); exact .inr (.inr z))
        refine ⟨u, ru, .inr ⟨?_, ?_⟩⟩
        · have := kinds x _ e6
          show (relabel sc X.env).names.lookup x = _ ∨ (relabel sc X.env).names.lookup x = _
          rw [this]
          split
          · exact .inl rfl
          · exact .inr rfl
        · rcases lo with ⟨z, _⟩ | ⟨_, c, hc1, hc2⟩
          · rcases kx with w | w <;> (rw [w] at z; cases z)
          · obtain ⟨d, hd⟩ := hcl2 x hm
            obtain ⟨d', h1, h2⟩ := Wh (BC.old _ hd)
            refine ⟨d', h1, ?_⟩
            rcases BC.mem x d' h2 with w | ⟨_, _, w⟩
            · have w' := (hcl x d' w).2
              rw [hc1] at w'
              cases w'
              exact hc2.keeps keep
            · have := S.lk w
              rw [e6] at this
              cases this
  · intro x c e
    exact isc x c (lk' x c e)
  · exact fresh _ (Nat.lt_succ_self _)
  · intro x c e
    rcases BC.mem x c (lk' x c e) with z | ⟨_, z, _⟩
    · have e' := (hcl x c z).2
      have hlt := cellOld x c e'
      rw [Yl (Nat.ne_of_lt hlt)]
      exact I.freeC x c e'
    · exact fresh c (by omega)
  · show (Zbb own caps σ).length = N'.length
    rw [S.names]
    unfold Zbb
    simp
end
end L2
namespace L2
open PySem PySem.Spec PyProof.Rows
noncomputable def Zw3 (J : It) (g : TG) (tt : TT) (te : TE) (σ0 : St) (D : Addr) (Q : Hp → Prop) (H1 : Hp) : Prop :=
  ∃ W : Nat → Nat → St → Hp → Prop, (∃ m, W 0 m σ0 (upd H1 D (.lst []))) ∧ ∀ i m σ' H', W i m σ' H' →
    (J.stop i H' ∧ Q H') ∨ (J.go i H' ∧ ∀ x H2, J.yld i H' x H2 → g x σ' H2 fun σ2 H3 => tt σ2 H3 fun b H4 =>
      if b = true then te σ2 H4 fun y H5 => ∃ ys, H5 D = some (.lst ys) ∧ ys.length < sizeLine ∧ ∃ m', m' < m ∧ W (i + 1) m' σ2 (upd H5 D (.lst (ys ++ [y])))
      else ∃ m', m' < m ∧ W (i + 1) m' σ2 H4)
noncomputable def Zvu (own : List Str) (caps : List Nat) (wi : TI) (g : TG) (tt : TT) (te : TE) : TE := fun σ H Q => wi σ H fun J H1 => ∀ D, H1 D = none → Zw3 J g tt te (Zbb own caps σ) D (Q (.ref D)) H1
noncomputable def Z2q : TT := fun _ H Q => Q true H
noncomputable def Zwo (X : Cx) (ifs : List Expr) (t : TT) : Prop :=
  ∀ (pins : List (Addr × Obj)) (s : Shared) (σ : St) (H : Hp) (Q : Bool → Hp → Prop), Inv X pins σ H s → t σ H Q →
    wpAny (model X.prog X.w) X.A (forIn ifs true fun c r => if r = true then do let ok ← isTrue c X.env (eval c X.env); pure (ForInStep.yield ok) else pure (ForInStep.yield r)) (TP X pins σ Q) X.xe s
theorem Zwy {X : Cx} : Zwo X [] Z2q := fun pins s σ H Q I h => by
  rw [List.forIn_nil]
  exact wpAny_pure ⟨H, I, h⟩
theorem Zv0 {X : Cx} {c : Expr} {t : TT} (h : PT X c t) : Zwo X [c] t := fun pins s σ H Q I q => wpAny_tests_one (h pins s σ H Q I q)
theorem Zvz {M : Model} {A : Around} {α : Type} {t : Sem α} {Q Q' : α → Shared → Prop} {E : Value → Shared → Prop} {s : Shared} (h : wpAny M A t Q (fun _ _ => False) s) (hQ : ∀ a s, Q a s → Q' a s) : wpAny M A t Q' E s :=
  wpAny_mono h hQ fun _ _ z => z.elim
section
variable {X : Cx} {own : List Str} {caps : List Nat} {N' : List Str} {sc : Scope} {tg elt iter : Expr} {ifs : List Expr} {pos : Pos} {wi : TI} {g : TG} {tt : TT} {te : TE}
theorem Zmu {pins p' : List (Addr × Obj)} {σ σ' : St} {H H' : Hp} {s s' : Shared} {fp : List Addr} {C : Addr} {cells : List (Str × Addr)} {h' : Heap} (I : Inv X pins σ H s) (f : ∀ b ∈ fp, Zii X pins H b)
    (I' : Inv (Jw X N' sc C cells s H fp) p' σ' H' s') (hs : Heap.SameBut C s'.heap h') : Inv X pins σ H' { s' with heap := h' } := by
  have hC : s.heap.objs.size ≤ C := I'.ok.above
  have B := I'.base
  have ne : ∀ b o, s.heap.get? b = some o → b ≠ C := fun b o e => Nat.ne_of_lt (Nat.lt_of_lt_of_le (Heap.lt_size e) hC)
  obtain ⟨m, ⟨oC, _, _, hoC, _⟩, _⟩ := I'.loc
  refine I.call' (ch := fp) (s' := { s' with heap := h' }) I'.os ⟨fun b o e n hb hx => ?_, fun b o e n hb hx => ?_, B.free, fun b o e hx => ?_, B.tups, B.frzs, B.tbls⟩ (fun b ob e => ?_) I'.bare fun b hb => ?_
  · exact (hs.2 b (ne b o e)).trans (B.keep b o e n hb hx)
  · obtain ⟨sl, q⟩ := B.slot b o e n hb hx
    exact ⟨sl, (hs.2 b (ne b o e)).trans q⟩
  · obtain ⟨o', q⟩ := B.there b o e hx
    exact ⟨o', (hs.2 b (ne b o e)).trans q⟩
  · have hfree : H' C = none := I'.free
    refine (I'.hok b ob e).stay (fun c w' hc q => (hs.2 c ?_).trans q) (fun _ q => q) fun _ _ q => q
    rintro rfl
    rcases hc with rfl | hc
    · rw [hfree] at e; cases e
    · rw [hfree] at hc; cases hc
  · obtain ⟨_, f1, _, f3, f4, f5⟩ := f b hb
    exact ⟨f3, f1, f4, f5⟩
theorem Zh5 {Qf : Result → Shared → Prop} (S : CompScope X own caps N' sc) (hc : X.calm = true)
    (hg : ∀ C cells s₂ H₂ fp, PG (Jw X N' sc C cells s₂ H₂ fp) tg g) (ht : ∀ C cells s₂ H₂ fp, Zwo (Jw X N' sc C cells s₂ H₂ fp) ifs tt) (he : ∀ C cells s₂ H₂ fp, PE (Jw X N' sc C cells s₂ H₂ fp) elt te)
    {pins : List (Addr × Obj)} {σ : St} {H : Hp} {s : Shared} {fp : List Addr} {it : Addr} {tn : Nat → Heap → Prop} {J : It} {Q : Hp → Prop} (I : Inv X pins σ H s) (T : Turn X.prog X.w X.K tg J fp it tn) (st : tn 0 s.heap) (f : ∀ b ∈ fp, Zii X pins H b)
    (h : Zw3 J g tt te (Zbb own caps σ) s.heap.objs.size Q H)
    (fin : ∀ s' σ' H' p' C cells, Inv (Jw X N' sc C cells s H fp) p' σ' H' s' → C = s.heap.objs.size + 1 → Q H' → Qf (.ok .next) s') :
    wpAny (model X.prog X.w) X.A (newFunctionEnv sc X.env.globals (Zhr X.env sc.names []) [] X.env.qual none .none (some X.env)) (fun cenv s₄ =>
      cenv.locals = s.heap.objs.size + 1 ∧ codeAny (model X.prog X.w) X.A (.compStart (.ListComp elt [⟨tg, iter, ifs, 0⟩] sc pos) 0 (.ref it) (.ref s.heap.objs.size) { cenv with scope := relabel sc X.env }) Qf s₄) X.xe
        { s with heap := s.heap.push { cls := .type "list", data := .seq #[] } } := by
  have hf : ∀ y ∈ sc.names, y.2 = .free → ∃ c, X.env.cells.lookup y.1 = some c := fun y hy e => by
    obtain ⟨n, k⟩ := y
    have e' : k = .free := e
    subst e'
    exact I.ok.has n (S.fr hy)
  have hcl : ∀ n c, (n, c) ∈ Zhr X.env sc.names [] → (n, NameKind.free) ∈ sc.names ∧ X.env.cells.lookup n = some c := fun n c m => (Zin sc.names [] hf n c m).elim (fun z => nomatch z) id
  have hap := Zf6 I.ok.inj sc.names [] hf S.nn (fun _ z => nomatch z) (fun _ z => nomatch z) .nil
  have I0 := Znc (cl := Zhr X.env sc.names []) S I f (fun b hb => let ⟨o, e, _⟩ := T.obj _ _ st b hb; ⟨o, e⟩) hcl (fun n m => Zja sc.names [] n m) hap
  refine Zhy ?_
  rw [show ({ s with heap := s.heap.push { cls := .type "list", data := .seq #[] } } : Shared).heap.objs.size = s.heap.objs.size + 1 from Heap.size_push ..]
  refine ⟨rfl, ?_⟩
  dsimp only
  generalize hs0 : ({ s with heap := pushCells ((s.heap.push { cls := .type "list", data := .seq #[] }).push { cls := .type "dict", data := .dict #[] }) sc.names } : Shared) = s0 at I0 ⊢
  have st0 : tn 0 s0.heap := T.keep _ _ _ st fun b hb o e => by
    rw [← hs0]
    exact pushCells_keeps _ _ _ _ (Heap.get?_push_of_some _ (Heap.get?_push_of_some _ e))
  generalize hcells : cellsFrom (s.heap.objs.size + 1 + 1) sc.names (Zhr X.env sc.names []) = cells at I0 ⊢
  -- the loop
  obtain ⟨W, ⟨m0, w0⟩, turn⟩ := h
  have loop : codeAny (model X.prog X.w) X.A (.compLoop (.ListComp elt [⟨tg, iter, ifs, 0⟩] sc pos) 0 (.ref it) (.ref s.heap.objs.size) (Jw X N' sc (s.heap.objs.size + 1) cells s H fp).env) Qf s0 := by
    generalize hX' : Jw X N' sc (s.heap.objs.size + 1) cells s H fp = X' at I0 ⊢
    have hg' := hg (s.heap.objs.size + 1) cells s H fp
    have ht' := ht (s.heap.objs.size + 1) cells s H fp
    have he' := he (s.heap.objs.size + 1) cells s H fp
    have fin' := fun s' σ' H' p' (z : Inv (Jw X N' sc (s.heap.objs.size + 1) cells s H fp) p' σ' H' s') => fin s' σ' H' p' _ _ z rfl
    rw [hX'] at hg' ht' he' fin'
    have hxe : X'.xe = fun _ _ => False := by rw [← hX']; rfl
    have hpr : X'.prog = X.prog := by rw [← hX']; rfl
    have hw : X'.w = X.w := by rw [← hX']; rfl
    have hK : X'.K = X.K := by rw [← hX']; rfl
    have hA : X'.A = X.A := by rw [← hX']; rfl
    have hcm : X'.calm = true := by rw [← hX']; exact hc
    have hex : X'.ex = fp := by rw [← hX']; rfl
    have hpn : X'.pn = [] := by rw [← hX']; rfl
    have stat : ∀ {H' : Hp}, (∀ b ∈ fp, H' b = none) → ∀ b ∈ fp, Zii X' [] H' b := fun hn b hb => by
      have e1 := I0.ok.exf b (by rw [hex]; exact hb)
      have e2 := I0.ok.exfs b (by rw [hex]; exact hb)
      exact ⟨hn b hb, e1.1, e2, .inl (by rw [hex]; exact hb), e1.2, fun p hp => by rw [hpn] at hp; exact nomatch hp⟩
    have frD : ∀ b ∈ fp, (upd H s.heap.objs.size (.lst [])) b = none := fun b hb => by
      obtain ⟨o, e, _⟩ := T.obj _ _ st b hb
      rw [Yl (Nat.ne_of_lt (Heap.lt_size e))]
      exact (f b hb).1
    have T' : Turn X'.prog X'.w X'.K tg J fp it tn := by rw [hpr, hw, hK]; exact T
    rw [← hpr, ← hw, ← hA]
    refine Zkw (fun n s' => ∃ i σ' H', Inv X' [] σ' H' s' ∧ tn i s'.heap ∧ (∀ b ∈ fp, H' b = none) ∧ W i n σ' H') ?_ m0 ⟨0, _, _, I0, st0, frD, w0⟩
    rintro n s3 ⟨i, σ3, H3, I3, st3, fr3, w3⟩
    rcases turn i n σ3 H3 w3 with ⟨stop, qn⟩ | ⟨go, step⟩
    · refine Zvz (T'.done X' rfl rfl rfl hcm i [] s3 σ3 H3 _ I3 (stat fr3) st3 stop) fun r s4 qz9 => ?_
      obtain ⟨hr, I4⟩ := qz9
      subst hr
      exact fin' s4 σ3 H3 [] I4 qn
    · refine Zvz (T'.item X' rfl rfl rfl hcm i [] s3 σ3 H3 _ I3 (stat fr3) st3 go) fun r s4 qz9 => ?_
      obtain ⟨u, hr, h4⟩ := qz9
      subst hr
      refine Zvz h4 fun _ s5 qz9 => ?_
      obtain ⟨x, H5, I5, r5, y5, st5, fr5⟩ := qz9
      have I5' := I5.pinned (stat fr5) (T.obj _ _ st5)
      have hgg := hg' _ s5 σ3 H5 x u _ I5' r5 (step x H5 y5)
      rw [hxe] at hgg
      refine Zvz hgg fun _ s6 qz9 => ?_
      obtain ⟨σ6, H6, I6, q6⟩ := qz9
      have htt := ht' _ s6 σ6 H6 _ I6 q6
      rw [hxe] at htt
      refine Zvz htt fun ok s7 qz9 => ?_
      obtain ⟨H7, I7, q7⟩ := qz9
      have again : ∀ {σ7 : St} {H7 : Hp} {s7 : Shared} {m : Nat}, Inv X' ([] ++ Zjq fp s5.heap) σ7 H7 s7 → W (i + 1) m σ7 H7 → m < n → ∃ m, m < n ∧ ∃ i σ' H', Inv X' [] σ' H' s7 ∧ tn i s7.heap ∧ (∀ b ∈ fp, H' b = none) ∧ W i m σ' H' := fun {σ7 H7 s7 m} I7 w7 hm => by
        refine ⟨m, hm, i + 1, σ7, H7, I7.unpinned, T.keep _ _ _ st5 fun b hb o e => (I7.pin (b, o) (List.mem_append_right _ (List.mem_append_right _ (Zd6 hb e)))).1, fun b hb => ?_, w7⟩
        obtain ⟨o, e, d⟩ := T.obj _ _ st5 b hb
        exact (I7.pin (b, o) (List.mem_append_right _ (List.mem_append_right _ (Zd6 hb e)))).2.1
      cases ok with
      | false =>
        obtain ⟨m', hm, w7⟩ := q7
        rw [if_neg Bool.false_ne_true]
        exact again I7 w7 hm
      | true =>
        rw [if_pos rfl]
        have hee := he' _ s7 σ6 H7 _ I7 q7
        rw [hxe] at hee
        refine Zvz hee fun y s8 qz9 => ?_
        obtain ⟨vy, H8, I8, r8, ys, hD, hlen, m', hm, w8⟩ := qz9
        have hap := Zkq (X := X') _ s8 σ6 H8 (.ref s.heap.objs.size) [vy] (.ref s.heap.objs.size) [y] (fun _ H' => W (i + 1) m' σ6 H') I8 rfl (.cons r8 .nil) ⟨_, ys, vy, rfl, rfl, hD, hlen, w8⟩
        rw [hxe] at hap
        refine Zvz hap fun z s9 qz9 => ?_
        obtain ⟨_, H9, I9, _, w9⟩ := qz9
        exact again I9 w9 hm
  exact codeAny_compStart_list loop (T.self _ 0 _ _ _ st0 loop)
theorem Zxe (S : CompScope X own caps N' sc) (hc : X.calm = true) (hi : PI X tg iter wi)
    (hg : ∀ C cells s₂ H₂ fp, PG (Jw X N' sc C cells s₂ H₂ fp) tg g) (ht : ∀ C cells s₂ H₂ fp, Zwo (Jw X N' sc C cells s₂ H₂ fp) ifs tt) (he : ∀ C cells s₂ H₂ fp, PE (Jw X N' sc C cells s₂ H₂ fp) elt te)
    (hs : ∀ x, foldedSetIterable iter X.env x = pure x := by intro _; rfl) : PE X (.ListComp elt [⟨tg, iter, ifs, 0⟩] sc pos) (Zvu own caps wi g tt te) := by
  intro pins s σ H Q I h
  rw [eval_ListComp]
  have hf : ∀ y ∈ sc.names, y.2 = .free → ∃ c, X.env.cells.lookup y.1 = some c := fun y hy e => by
    obtain ⟨n, k⟩ := y
    have e' : k = .free := e
    subst e'
    exact I.ok.has n (S.fr hy)
  refine wpAny_comprehension_free (use := none) rfl hs (Zef hf) S.kind (fun y hy e => by obtain ⟨n, k⟩ := y; have e' : k = .local := e; subst e'; exact S.lk hy) ?_
  refine thn (hi pins s σ H _ I h) fun v s1 h1 => thn h1 fun itv s2 h2 => ?_
  obtain ⟨it, fp, tn, J, H2, e, I2, T, st2, f2, q⟩ := h2
  subst e
  refine wpAny_newObj_type ?_
  refine thn (Zh5 (iter := iter) (pos := pos) (Qf := compPost (model X.prog X.w) X.A X.xe none (EP X pins σ Q) (.ref s2.heap.objs.size) (s2.heap.objs.size + 1)) S hc hg ht he I2 T st2 f2 (q s2.heap.objs.size I2.fresh) ?_) fun cenv s4 ⟨hl, hr⟩ => ?_
  · intro s' σ' H' p' C cells I' eC q'
    subst eC
    obtain ⟨m, hn, _⟩ := id I'.loc
    exact ⟨m, hn, fun h' hs' => ⟨.ref s2.heap.objs.size, H', Zmu I2 f2 I' hs', rfl, q'⟩⟩
  · rw [← hl] at hr
    exact hr
end
end L2
namespace L2
open PySem PySem.Spec PyProof.Rows
section
variable {X : Cx} {own : List Str} {caps : List Nat} {N' : List Str} {sc : Scope} {tg elt iter : Expr} {ifs : List Expr} {pos : Pos} {wi : TI} {g : TG} {tt : TT} {te : TE}
theorem Znm {i : Nat} {y : Str} {py spos : Pos} (hN : X.N.Nodup) (hy : X.N[i]? = some y) (hx : Loc X.env.scope y) (S : CompScope X own caps N' sc) (hc : X.calm = true) (hi : PI X tg iter wi)
    (hg : ∀ C cells s₂ H₂ fp, PG (Jw X N' sc C cells s₂ H₂ fp) tg g) (ht : ∀ C cells s₂ H₂ fp, Zwo (Jw X N' sc C cells s₂ H₂ fp) ifs tt) (he : ∀ C cells s₂ H₂ fp, PE (Jw X N' sc C cells s₂ H₂ fp) elt te)
    (hsw : swapsWith (.ListComp elt [⟨tg, iter, ifs, 0⟩] sc pos) (some (.Name y py)) spos.line X.env = pure true := by rfl)
    (hs : ∀ x, foldedSetIterable iter X.env x = pure x := by intro _; rfl) (hf : X.fn y = true ∨ X.env.scope.names.lookup y = some .local := by first | exact .inl rfl | exact .inr rfl | assumption) :
    PS X (.Assign [.Name y py] (.ListComp elt [⟨tg, iter, ifs, 0⟩] sc pos) spos) (Z0n (Zvu own caps wi g tt te) (Zqf i)) := by
  intro pins s σ H D I h
  have hfr : ∀ y ∈ sc.names, y.2 = .free → ∃ c, X.env.cells.lookup y.1 = some c := fun y hy e => by
    obtain ⟨n, k⟩ := y
    have e' : k = .free := e
    subst e'
    exact I.ok.has n (S.fr hy)
  rw [exec_Assign_Name_used _ _ _ _ hsw]
  refine wpAny_bind (wpAny_standAt (wpAny_bind ?_))
  show wpAny _ X.A (do let _ ← comprehension (.ListComp elt [⟨tg, iter, ifs, 0⟩] sc pos) sc X.env _ (newList []) false (eval iter X.env) (some (assign (.Name y py) X.env))) _ _ s
  refine wpAny_bind (wpAny_mono (wpAny_comprehension_free (use := some (assign (.Name y py) X.env)) (Q := fun _ s' => SP X pins D .next s') rfl hs (Zef hfr) S.kind (fun y hy e => by obtain ⟨n, k⟩ := y; have e' : k = .local := e; subst e'; exact S.lk hy) ?_) (fun _ s' hq => wpAny_pure (wpAny_pure hq)) fun _ _ e => e)
  refine thn (hi pins s σ H _ I h) fun v s1 h1 => thn h1 fun itv s2 h2 => ?_
  obtain ⟨it, fp, tn, J, H2, e, I2, T, st2, f2, q⟩ := h2
  subst e
  refine wpAny_newObj_type ?_
  refine thn (Zh5 (iter := iter) (pos := pos) (Qf := compPost (model X.prog X.w) X.A X.xe (some (assign (.Name y py) X.env)) (fun _ s' => SP X pins D .next s') (.ref s2.heap.objs.size) (s2.heap.objs.size + 1)) S hc hg ht he I2 T st2 f2 (q s2.heap.objs.size I2.fresh) ?_) fun cenv s4 ⟨hl, hr⟩ => ?_
  · intro s' σ' H' p' C cells I' eC q'
    subst eC
    obtain ⟨m, hn, _⟩ := id I'.loc
    have I3 : Inv X pins σ H' s' := Zmu I2 f2 I' (.refl ..)
    show wpAny _ X.A (assign (.Name y py) X.env (.ref s2.heap.objs.size)) _ _ s'
    refine wpAny_assign_Name (Zkg (v := .ref s2.heap.objs.size) I3 hN hy hx rfl (fun s5 I5 hsb => ?_) hf)
    have hC : s2.heap.objs.size < s2.heap.objs.size + 1 := Nat.lt_succ_self _
    have ltL : X.env.locals < s2.heap.objs.size := I2.lt
    have ltC : ∀ x c, X.env.cells.lookup x = some c → c < s2.heap.objs.size := fun x c e => by
      obtain ⟨w', z⟩ := I2.cell x c e
      exact z.lt
    refine ⟨m, ?_, fun h' hs' => ⟨σ.set i (some (.ref s2.heap.objs.size)), H', ?_, q'⟩⟩
    · obtain ⟨a, hsa, ha⟩ := hsb
      refine hn.sameBut hsa ?_
      rcases ha with ha | ha
      · rw [ha]; exact Nat.ne_of_gt (Nat.lt_trans ltL hC)
      · exact Nat.ne_of_gt (Nat.lt_trans (ltC _ _ ha) hC)
    · refine I5.turned (t' := s5.toks) (it := s2.heap.objs.size + 1) (fun b o hb e => (hs'.2 b hb).trans e) I'.free (Nat.ne_of_gt (Nat.lt_trans ltL hC)) (.inr (Nat.le_trans I2.sz (Nat.le_of_lt hC))) (fun x c e => Nat.ne_of_lt (Nat.lt_trans (ltC x c e) hC)) fun p hp => ?_
      obtain ⟨e, _⟩ := I2.pin p hp
      exact Nat.ne_of_lt (Nat.lt_trans (Heap.lt_size e) hC)
  · rw [← hl] at hr
    exact hr
end
section
variable (n : Nat) (D : Addr) (Pv : Nat → List V → St → Hp → Prop)
variable {n D Pv}
end
end L2
namespace L2
open PySem PySem.Spec PyProof.Rows
mutual
inductive Is (H : Hp) (L : Addr → Prop) : V → PyData → Prop where
  | non : Is H L .non .none
  | bl (b : Bool) : Is H L (.bl b) (.bool b)
  | int (i : Int) : Is H L (.int i) (.int i)
  | str (x : Str) : Is H L (.str x) (.str x)
  | lst {a : Addr} {xs : List V} {ds : List PyData} : L a → H a = some (.lst xs) → IsAll H L xs ds → Is H L (.ref a) (.list ds)
  | tup {a : Addr} {xs : List V} {ds : List PyData} : H a = some (.tup xs) → IsAll H L xs ds → Is H L (.ref a) (.tuple ds)
inductive IsAll (H : Hp) (L : Addr → Prop) : List V → List PyData → Prop where
  | nil : IsAll H L [] []
  | cons {x : V} {xs : List V} {d : PyData} {ds : List PyData} : Is H L x d → IsAll H L xs ds → IsAll H L (x :: xs) (d :: ds)
end
section
variable {H H' : Hp} {L L' : Addr → Prop}
theorem IsAll.ind {Q : List V → List PyData → Prop} (n : Q [] []) (c : ∀ {x : V} {xs : List V} {d : PyData} {ds : List PyData}, Is H L x d → IsAll H L xs ds → Q xs ds → Q (x :: xs) (d :: ds)) : ∀ {xs ds}, IsAll H L xs ds → Q xs ds := fun h =>
  IsAll.rec (motive_1 := fun _ _ _ => True) (motive_2 := fun xs ds _ => Q xs ds) trivial (fun _ => trivial) (fun _ => trivial) (fun _ => trivial) (fun _ _ _ _ => trivial) (fun _ _ _ => trivial) n (fun p q _ r => c p q r) h
theorem IsAll.length {xs : List V} {ds : List PyData} (h : IsAll H L xs ds) : xs.length = ds.length := IsAll.ind (Q := fun xs ds => xs.length = ds.length) rfl (fun _ _ r => congrArg (· + 1) r) h
theorem IsAll.set {xs : List V} {ds : List PyData} {x : V} {d : PyData} (i : Nat) (h : IsAll H L xs ds) (k : Is H L x d) : IsAll H L (xs.set i x) (ds.set i d) :=
  IsAll.ind (Q := fun xs ds => ∀ i, IsAll H L (xs.set i x) (ds.set i d)) (fun _ => .nil) (fun h q r i => Nat.casesOn i (.cons k q) fun i => .cons h (r i)) h i
end
section
variable {X : Cx} {pins : List (Addr × Obj)} {σ : St} {H : Hp} {s : Shared} {L L' : Addr → Prop}
end
noncomputable abbrev Shp (d : PyData) : Prop := SeqAt.shaped d = true
section
variable {X : Cx}
end
mutual
noncomputable def Wf : PyData → Bool
  | .none => true
  | .int _ => true
  | .str _ => true
  | .list ds => Zan ds
  | .tuple ds => Zan ds
  | _ => false
noncomputable def Zan : List PyData → Bool
  | [] => true
  | d :: ds => Wf d && Zan ds
end
mutual
theorem Zld : ∀ (d e : PyData), Wf d = true → Wf e = true → (PyData.eqv d e = true ↔ d = e)
  | .none, e, _, he => by cases e <;> simp_all [PyData.eqv, Wf]
  | .int i, e, _, he => by cases e <;> simp_all [PyData.eqv, Wf]
  | .str i, e, _, he => by cases e <;> simp_all [PyData.eqv, Wf]
  | .list ds, e, hd, he => by
    cases e with
    | list es =>
      rw [Wf] at hd he
      rw [PyData.eqv, PyData.list.injEq]
      exact Zf3 ds es hd he
    | _ => simp_all [PyData.eqv, Wf]
  | .tuple ds, e, hd, he => by
    cases e with
    | tuple es =>
      rw [Wf] at hd he
      rw [PyData.eqv, PyData.tuple.injEq]
      exact Zf3 ds es hd he
    | _ => simp_all [PyData.eqv, Wf]
  | .bool b, e, hd, _ => by simp [Wf] at hd
  | .dict b, e, hd, _ => by simp [Wf] at hd
theorem Zf3 : ∀ (ds es : List PyData), Zan ds = true → Zan es = true → (PyData.eqvAll ds es = true ↔ ds = es)
  | [], [], _, _ => by simp [PyData.eqvAll]
  | [], _ :: _, _, _ => by simp [PyData.eqvAll]
  | _ :: _, [], _, _ => by simp [PyData.eqvAll]
  | d :: ds, e :: es, hd, he => by
    rw [Zan, Bool.and_eq_true] at hd he
    rw [PyData.eqvAll, Bool.and_eq_true, Zld d e hd.1 he.1, Zf3 ds es hd.2 he.2, List.cons.injEq]
end
theorem Ztw {d e : PyData} (h : Wf d = true) (k : Wf e = true) (q : d = e) : PyData.eqv d e = true := (Zld d e h k).mpr q
theorem Zyp {d e : PyData} (h : Wf d = true) (k : Wf e = true) (q : d ≠ e) : PyData.eqv d e = false := Bool.eq_false_iff.mpr fun z => q ((Zld d e h k).mp z)
noncomputable def fr (a b : Int) : PyData := .tuple [.int a, .int b]
theorem Zgs (a b : Int) : Wf (fr a b) = true := rfl
theorem Zzp {a b c d : Int} : fr a b = fr c d ↔ a = c ∧ b = d := by
  unfold fr
  simp
end L2
namespace L2
open PySem PySem.Spec PyProof.Rows
theorem Zff {t b : Int} (hb : b ≠ 0) : 0 < (Int.gcd t b : Int) := by
  have := Int.gcd_pos_of_ne_zero_right t hb
  omega
theorem Wl {t g : Int} (hg : 0 < g) : t.fdiv g = t / g := Int.fdiv_eq_ediv_of_nonneg t (by omega)
theorem Zdl {t g : Int} (hg : 0 < g) (h : g ∣ t) : t.fdiv (-g) = -(t / g) := by
  obtain ⟨k, rfl⟩ := h
  rw [Int.mul_ediv_cancel_left _ (by omega)]
  have e : g * k = (-k) * (-g) := by rw [Int.neg_mul_neg, Int.mul_comm]
  rw [e, Int.mul_fdiv_cancel _ (by omega)]
noncomputable def shr (t b : Int) : Int := if b < 0 then -(Int.gcd t b : Int) else (Int.gcd t b : Int)
theorem Zur {t b : Int} (hb : b ≠ 0) : t.fdiv (shr t b) = (Rat.divInt t b).num := by
  have hg := Zff (t := t) hb
  have hd : (Int.gcd t b : Int) ∣ t := Int.gcd_dvd_left ..
  rw [Rat.num_divInt, Int.gcd_comm b t]
  unfold shr
  by_cases h : b < 0
  · rw [if_pos h, Zdl hg hd, Int.sign_eq_neg_one_of_neg h, Int.neg_one_mul, Int.neg_ediv_of_dvd hd]
  · rw [if_neg h, Wl hg, Int.sign_eq_one_of_pos (by omega), Int.one_mul]
theorem Zwa {t b : Int} (hb : b ≠ 0) : b.fdiv (shr t b) = ((Rat.divInt t b).den : Int) := by
  have hg := Zff (t := t) hb
  have hd : (Int.gcd t b : Int) ∣ b := Int.gcd_dvd_right ..
  rw [Rat.den_divInt, if_neg hb, Int.gcd_comm b t]
  unfold shr
  by_cases h : b < 0
  · have e : (b.natAbs : Int) = -b := by omega
    rw [if_pos h, Zdl hg hd, Int.natCast_ediv, e, Int.neg_ediv_of_dvd hd]
  · have e : (b.natAbs : Int) = b := by omega
    rw [if_neg h, Wl hg, Int.natCast_ediv, e]
theorem Zub {t b : Int} (hb : b ≠ 0) : shr t b ≠ 0 := by
  have hg := Zff (t := t) hb
  unfold shr
  split <;> omega
theorem Zt7 {n : Nat} {t b : Int} (hb : b ≠ 0) (h : Bt n b) : Bt n (shr t b) := by
  have h1 : Bt n (Int.gcd t b : Int) := by
    refine Bt.of_le h ?_
    have := Int.gcd_le_natAbs_right t hb
    omega
  unfold shr
  split
  · exact h1.neg
  · exact h1
theorem Z03 {n : Nat} {t b : Int} (hb : b ≠ 0) (h : Bt n t) : Bt n (Rat.divInt t b).num := by
  rw [Rat.num_divInt]
  refine Bt.of_le h ?_
  refine Nat.le_trans (Int.natAbs_ediv_le_natAbs _ _) ?_
  rw [Int.natAbs_mul]
  have : b.sign.natAbs ≤ 1 := by
    rw [Int.natAbs_sign]
    split <;> omega
  calc b.sign.natAbs * t.natAbs ≤ 1 * t.natAbs := Nat.mul_le_mul_right _ this
    _ = t.natAbs := Nat.one_mul _
theorem Z07 {n : Nat} {t b : Int} (hb : b ≠ 0) (h : Bt n b) : Bt n ((Rat.divInt t b).den : Int) := by
  rw [Rat.den_divInt, if_neg hb]
  refine Bt.of_le h ?_
  show ((b.natAbs / b.gcd t : Nat) : Int).natAbs ≤ _
  rw [Int.natAbs_natCast]
  exact Nat.div_le_self _ _
theorem Zot (q : Rat) : (q.den : Int) ≠ 0 := by
  have := q.den_pos
  omega
theorem Zce (q : Rat) : (0 : Int) < (q.den : Int) := by
  have := q.den_pos
  omega
theorem Zsy (q r : Rat) : Rat.divInt (q.num * (r.den : Int) + r.num * (q.den : Int)) ((q.den : Int) * (r.den : Int)) = q + r := by
  rw [Rat.add_def', ← Int.natCast_mul, Rat.divInt_ofNat]
theorem Zj3 (q r : Rat) : Rat.divInt (q.num * (r.den : Int) - r.num * (q.den : Int)) ((q.den : Int) * (r.den : Int)) = q - r := by
  rw [Rat.sub_def', ← Int.natCast_mul, Rat.divInt_ofNat]
theorem Zqp (q r : Rat) : q.num * (r.den : Int) < r.num * (q.den : Int) ↔ q < r := (Rat.lt_iff q r).symm
noncomputable def frD (q : Rat) : PyData := fr q.num (q.den : Int)
theorem Zql {q r : Rat} : frD q = frD r ↔ q = r := by
  unfold frD
  rw [Zzp]
  constructor
  · rintro ⟨h1, h2⟩
    exact Rat.ext h1 (by omega)
  · rintro rfl
    exact ⟨rfl, rfl⟩
theorem Zt4 (q r : Rat) : PyData.eqv (frD q) (frD r) = decide (q = r) := by
  by_cases h : q = r
  · rw [decide_eq_true h]
    exact Ztw (Zgs _ _) (Zgs _ _) (Zql.mpr h)
  · rw [decide_eq_false h]
    exact Zyp (Zgs _ _) (Zgs _ _) fun z => h (Zql.mp z)
noncomputable def BQ (n : Nat) (q : Rat) : Prop := Bt n q.num ∧ Bt n (q.den : Int)
end L2
namespace L2
open PySem PySem.Spec PyProof.Rows
section
variable {X : Cx}
end
end L2
namespace L2
open PySem PySem.Spec PyProof.Rows
section
variable {X : Cx} {K : PySem.W.Frag} {a b o e : Expr} {ta tb tl to : TE} {pos : Pos}
theorem Zs5 (hK : X.K = K) : IxR X (Z23 K) := hK ▸ Zq7
theorem Zw (hK : X.K = K) : IxR X (rIx K) := hK ▸ Zyu
theorem Zs7 (hK : X.K = K) : SlR X (Z5g K) := hK ▸ Zwj
noncomputable def Z4u (K : PySem.W.Frag) : List V → Hp → VK → Prop := fun xs H Q => ∃ p ys, xs = [.ref p] ∧ (SqL K H p ys ∨ SqT K H p ys) ∧ Q (.int ys.length) H
theorem Zb2 (hK : X.K = K) : Zfq X (.builtin "len") (Z4u K) := by subst hK; exact Zjx
noncomputable def Zp6 (K : PySem.W.Frag) : List V → Hp → VK → Prop := fun xs H Q => ∃ p ys, xs = [.ref p] ∧ (SqL K H p ys ∨ SqT K H p ys) ∧ ∀ l, H l = none → Q (.ref l) (upd H l (.lst ys))
theorem Zh2 (hK : X.K = K) : Zfq X (.type "list") (Zp6 K) := by subst hK; exact Zj8
noncomputable def Z7o (K : PySem.W.Frag) (ta : TE) : TT := fun σ H Q => ta σ H fun x H' => ∃ k, Z3g K x H' k ∧ Q k H'
theorem Zu2 (hK : X.K = K) (ha : PE X a ta) (he : ∀ whole, isTrue a X.env whole = (do let v ← whole; standAt a.pos; holding [v] (truthy v))) : PT X a (Z7o K ta) := by subst hK; exact Zsi ha he
theorem Zst {tg l : Expr} (hK : X.K = K) (hl : PE X l tl) : PI X tg l (Zxz K tl) := by subst hK; exact Zvk hl
theorem Zob (hK : X.K = K) : OpR X (compareOp .In) (rIn K false) := by subst hK; exact Zpn
end
end L2
namespace L2
open PySem PySem.Spec PyProof.Rows
theorem Wi {H : Hp} {p : Addr} (h : H p = none) (o : HO) : Same H (upd H p o) := fun b u q => by rw [Yl (Ws q h)]; exact q
noncomputable def Pl (H : Hp) (p : Addr) (n : Nat) : Prop := ∃ a b c : Int, H p = some (.lst [.int a, .int b, .int c]) ∧ 0 ≤ c ∧ c ≤ n
theorem Pl.at {H : Hp} {p : Addr} {n : Nat} (h : Pl H p n) : ∃ xs, H p = some (.lst xs) := by
  obtain ⟨a, b, c, e, h1, h2⟩ := h
  exact ⟨_, e⟩
namespace B
theorem boot_abs : bootBuiltins "abs" = some (.builtin "abs") := by decide +kernel
theorem boot_len : bootBuiltins "len" = some (.builtin "len") := by decide +kernel
theorem boot_max : bootBuiltins "max" = some (.builtin "max") := by decide +kernel
theorem boot_isinstance : bootBuiltins "isinstance" = some (.builtin "isinstance") := by decide +kernel
theorem boot_sum : bootBuiltins "sum" = some (.builtin "sum") := by decide +kernel
theorem boot_sorted : bootBuiltins "sorted" = some (.builtin "sorted") := by decide +kernel
theorem boot_int : bootBuiltins "int" = some (.type "int") := by decide +kernel
theorem boot_bool : bootBuiltins "bool" = some (.type "bool") := by decide +kernel
theorem boot_list : bootBuiltins "list" = some (.type "list") := by decide +kernel
theorem boot_tuple : bootBuiltins "tuple" = some (.type "tuple") := by decide +kernel
theorem boot_range : bootBuiltins "range" = some (.type "range") := by decide +kernel
theorem boot_zip : bootBuiltins "zip" = some (.type "zip") := by decide +kernel
end B
theorem Zfi {a b : Int} (hb : 0 < b) : a.fmod b = a % b := Int.fmod_eq_emod_of_nonneg a (by omega)
theorem Zsj {x y : Int} (hx : 0 ≤ x) (hy : 0 < y) : Int.gcd y (x.fmod y) = Int.gcd x y := by
  rw [Zfi hy, Int.gcd_comm x y]
  have e := Int.emod_add_mul_ediv x y
  conv => rhs; rw [← e]
  rw [Int.gcd_add_mul_left_right]
theorem Z0a : (2 : Nat) ≤ sizeLine := by decide
end L2
namespace L2
open PySem PySem.Spec PyProof.Rows
section
variable {X : Cx} {K : PySem.W.Frag} {pos : Pos}
end
end L2
namespace L2
open PySem PySem.Spec PyProof.Rows
theorem Zsz (q : Rat) : Rat.divInt q.num (q.den : Int) = q := Rat.num_divInt_den q
end L2
namespace L2
open PySem PySem.Spec PyProof.Rows
section
variable {X : Cx}
end
end L2
namespace L2
open PySem PySem.Spec PyProof.Rows
theorem BQ.n {n : Nat} {q : Rat} (h : BQ n q) : Bt n q.num := h.1
theorem BQ.d {n : Nat} {q : Rat} (h : BQ n q) : Bt n (q.den : Int) := h.2
theorem Z7h (q : Rat) : (((q.den : Int)) : Rat) ≠ 0 := by
  intro z
  exact Zot q (Rat.intCast_eq_zero_iff.mp z)
theorem Z7n (q : Rat) : ((q.num : Int) : Rat) = q * (((q.den : Int)) : Rat) := by
  have h := Zsz q
  rw [Rat.divInt_eq_div] at h
  have d := Z7h q
  conv => rhs; lhs; rw [← h]
  grind
end L2
namespace L2
end L2
namespace L2
end L2
namespace L2
open PySem PySem.Spec PyProof.Rows
variable {G : PySem.W.Frag}
noncomputable def KS (G : PySem.W.Frag) (a : Addr) (ns : List Int) : Prop := ∃ (o : Obj) (its : Array Value) (n : Nat), G.lookup a = some o ∧ o.cls = .type "list" ∧ o.dict = none ∧ o.data = .seq its n ∧ its.size ≤ sizeLine ∧ Vals (ns.map V.int) its.toList
theorem KS.sq {G : PySem.W.Frag} {H : Hp} {a : Addr} {ns : List Int} (h : KS G a ns) : SqL G H a (ns.map V.int) := .inr h
noncomputable def exD (x : Str) : PyData := .dict [(.str x, .none)]
noncomputable def fnD (x : Str) : PyData := .dict [(.str x, .bool true)]
noncomputable def Zje : PyData → Bool | .dict [(_, .bool _)] => true | _ => false
noncomputable def ClsAt (G : PySem.W.Frag) (x : Str) (C : Addr) : Prop := PySem.W.nsIn G mainGlobals x = some (some (.ref C))
structure Zik (G : PySem.W.Frag) (C : Addr) : Prop where
  ga : PySem.W.findIn G (.ref C) "__getattribute__" = some (some (.builtin "BaseException.__getattribute__"))
  gt : PySem.W.findIn G (.ref C) "__getattr__" = some none
  cl : PySem.W.findIn G (.ref C) "__class__" = some (some (.builtin "object.__class__"))
  isB : PySem.W.subIn G (.ref C) (.type "BaseException") = some true
  isO : PySem.W.subIn G (.ref C) (.type "object") = some true
  isC : (PySem.W.clsIn G C).isSome = true
  k1 : PySem.W.kitOne G (.ref C) (.type "int") = some false
  k2 : PySem.W.kitOne G (.ref C) (.type "bool") = some false
  k3 : PySem.W.kitOne G (.ref C) (.type "str") = some false
  k4 : PySem.W.kitOne G (.ref C) (.type "list") = some false
  k5 : PySem.W.kitOne G (.ref C) (.type "tuple") = some false
noncomputable def ExO (C a : Addr) (h : Heap) : Prop := ∃ o vs, h.get? a = some o ∧ o.cls = .ref C ∧ o.data = .fields vs
inductive ImO where
  | tup (xs : List V)
  | ext (φ : Heap → Prop)
noncomputable def ImO.ho : ImO → HO
  | .tup xs => .tup xs
  | .ext φ => .ext φ
theorem ImO.nl {H : Hp} {a : Addr} {x : ImO} {ys : List V} (h : H a = some x.ho) (h' : H a = some (.lst ys)) : False := by
  rw [h] at h'
  cases x <;> cases h'
mutual
inductive Da (G : PySem.W.Frag) (H : Hp) (L : Addr → Prop) : V → PyData → Prop where
  | non : Da G H L .non .none
  | bl (b : Bool) : Da G H L (.bl b) (.bool b)
  | int (i : Int) : Da G H L (.int i) (.int i)
  | str (x : Str) : Da G H L (.str x) (.str x)
  | lst {a : Addr} {xs : List V} {ds : List PyData} : L a → Rd H a (.lst xs) → Das G H L xs ds → Da G H L (.ref a) (.list ds)
  | tup {a : Addr} {xs : List V} {ds : List PyData} : H a = some (.tup xs) → Das G H L xs ds → Da G H L (.ref a) (.tuple ds)
  | scr {a : Addr} {ns : List Int} : KS G a ns → Da G H L (.ref a) (.list (ns.map PyData.int))
  | exc {a C : Addr} {x : Str} : Zik G C → ClsAt G x C → H a = some (.ext (ExO C a)) → Da G H L (.ref a) (exD x)
  | fn {a : Addr} {x : Str} : ClsAt G x a → Da G H L (.ref a) (fnD x)
inductive Das (G : PySem.W.Frag) (H : Hp) (L : Addr → Prop) : List V → List PyData → Prop where
  | nil : Das G H L [] []
  | cons {x : V} {xs : List V} {d : PyData} {ds : List PyData} : Da G H L x d → Das G H L xs ds → Das G H L (x :: xs) (d :: ds)
end
section
variable {H H' : Hp} {L L' : Addr → Prop}
theorem Da.both {P : V → PyData → Prop} {Q : List V → List PyData → Prop} (c1 : P .non .none) (c2 : ∀ b, P (.bl b) (.bool b)) (c3 : ∀ i, P (.int i) (.int i)) (c4 : ∀ x, P (.str x) (.str x))
    (c5 : ∀ {a : Addr} {xs : List V} {ds : List PyData}, L a → Rd H a (.lst xs) → Q xs ds → P (.ref a) (.list ds)) (c6 : ∀ {a : Addr} {xs : List V} {ds : List PyData}, H a = some (.tup xs) → Q xs ds → P (.ref a) (.tuple ds))
    (c7 : ∀ {a : Addr} {ns : List Int}, KS G a ns → P (.ref a) (.list (ns.map PyData.int))) (c8 : ∀ {a C : Addr} {x : Str}, Zik G C → ClsAt G x C → H a = some (.ext (ExO C a)) → P (.ref a) (exD x)) (c9 : ∀ {a : Addr} {x : Str}, ClsAt G x a → P (.ref a) (fnD x))
    (n : Q [] []) (c : ∀ {x : V} {xs : List V} {d : PyData} {ds : List PyData}, P x d → Q xs ds → Q (x :: xs) (d :: ds)) : (∀ {v d}, Da G H L v d → P v d) ∧ ∀ {xs ds}, Das G H L xs ds → Q xs ds :=
  ⟨fun h => Da.rec (motive_1 := fun v d _ => P v d) (motive_2 := fun xs ds _ => Q xs ds) c1 c2 c3 c4 (fun p e _ r => c5 p e r) (fun e _ r => c6 e r) (fun k => c7 k) (fun k l m => c8 k l m) (fun k => c9 k) n (fun _ _ p q => c p q) h,
   fun h => Das.rec (motive_1 := fun v d _ => P v d) (motive_2 := fun xs ds _ => Q xs ds) c1 c2 c3 c4 (fun p e _ r => c5 p e r) (fun e _ r => c6 e r) (fun k => c7 k) (fun k l m => c8 k l m) (fun k => c9 k) n (fun _ _ p q => c p q) h⟩
theorem Das.ind {Q : List V → List PyData → Prop} (n : Q [] []) (c : ∀ {x : V} {xs : List V} {d : PyData} {ds : List PyData}, Da G H L x d → Das G H L xs ds → Q xs ds → Q (x :: xs) (d :: ds)) : ∀ {xs ds}, Das G H L xs ds → Q xs ds := fun h =>
  Das.rec (motive_1 := fun _ _ _ => True) (motive_2 := fun xs ds _ => Q xs ds) trivial (fun _ => trivial) (fun _ => trivial) (fun _ => trivial) (fun _ _ _ _ => trivial) (fun _ _ _ => trivial) (fun _ => trivial) (fun _ _ _ => trivial) (fun _ => trivial) n (fun p q _ r => c p q r) h
theorem Da.frame2 (hl : ∀ a xs, L a → Rd H a (.lst xs) → L' a ∧ Rd H' a (.lst xs)) (ht : ∀ a (xs : ImO), H a = some xs.ho → H' a = some xs.ho) : (∀ {v : V} {d : PyData}, Da G H L v d → Da G H' L' v d) ∧ ∀ {xs : List V} {ds : List PyData}, Das G H L xs ds → Das G H' L' xs ds :=
  Da.both .non .bl .int .str (fun p e r => .lst (hl _ _ p e).1 (hl _ _ p e).2 r) (fun {_ xs _} e r => .tup (ht _ (.tup xs) e) r) .scr (fun c n e => .exc c n (ht _ (.ext _) e)) .fn .nil .cons
theorem Da.frame (hl : ∀ a xs, L a → Rd H a (.lst xs) → L' a ∧ Rd H' a (.lst xs)) (ht : ∀ a (xs : ImO), H a = some xs.ho → H' a = some xs.ho) {v : V} {d : PyData} (h : Da G H L v d) : Da G H' L' v d := (Da.frame2 hl ht).1 h
theorem Das.frame (hl : ∀ a xs, L a → Rd H a (.lst xs) → L' a ∧ Rd H' a (.lst xs)) (ht : ∀ a (xs : ImO), H a = some xs.ho → H' a = some xs.ho) {xs : List V} {ds : List PyData} (h : Das G H L xs ds) : Das G H' L' xs ds := (Da.frame2 hl ht).2 h
theorem Rd.same {a : Addr} {u : HO} (s : Same H H') (h : Rd H a u) : Rd H' a u := h.imp (s _ _) fun ⟨o, h⟩ => ⟨o, s _ _ h⟩
theorem Rd.some {a : Addr} {u : HO} (h : Rd H a u) : H a ≠ Option.none := by
  rcases h with h | ⟨o, h⟩ <;> rw [h] <;> intro z <;> cases z
theorem Da.same (h : Same H H') {v : V} {d : PyData} (x : Da G H L v d) : Da G H' L v d := x.frame (fun a xs p e => ⟨p, e.same h⟩) fun a xs e => h _ _ e
theorem Das.same (h : Same H H') {v : List V} {d : List PyData} (x : Das G H L v d) : Das G H' L v d := x.frame (fun a xs p e => ⟨p, e.same h⟩) fun a xs e => h _ _ e
theorem Da.wide (h : ∀ a, L a → H a ≠ none → L' a) {v : V} {d : PyData} (x : Da G H L v d) : Da G H L' v d := x.frame (fun a xs p e => ⟨h a p e.some, e⟩) fun a xs e => e
theorem Das.wide (h : ∀ a, L a → H a ≠ none → L' a) {v : List V} {d : List PyData} (x : Das G H L v d) : Das G H L' v d := x.frame (fun a xs p e => ⟨h a p e.some, e⟩) fun a xs e => e
theorem Das.length {xs : List V} {ds : List PyData} (h : Das G H L xs ds) : xs.length = ds.length := Das.ind (Q := fun xs ds => xs.length = ds.length) rfl (fun _ _ r => congrArg (· + 1) r) h
theorem Das.append {xs ys : List V} {ds es : List PyData} (h : Das G H L xs ds) (k : Das G H L ys es) : Das G H L (xs ++ ys) (ds ++ es) := Das.ind (Q := fun xs ds => Das G H L (xs ++ ys) (ds ++ es)) k (fun h _ r => .cons h r) h
theorem Das.get {xs : List V} {ds : List PyData} {i : Nat} {d : PyData} (h : Das G H L xs ds) : ds[i]? = some d → ∃ x, xs[i]? = some x ∧ Da G H L x d :=
  Das.ind (Q := fun xs ds => ∀ i, ds[i]? = some d → ∃ x, xs[i]? = some x ∧ Da G H L x d) (fun _ e => (Option.some_ne_none _ (e.symm.trans List.getElem?_nil)).elim) (fun {x _ _ _} h _ r i => Nat.casesOn i (fun e => ⟨x, rfl, Option.some.inj e ▸ h⟩) fun i e => r i e) h i
theorem Das.get' {xs : List V} {ds : List PyData} {i : Nat} {x : V} (h : Das G H L xs ds) : xs[i]? = some x → ∃ d, ds[i]? = some d ∧ Da G H L x d :=
  Das.ind (Q := fun xs ds => ∀ i, xs[i]? = some x → ∃ d, ds[i]? = some d ∧ Da G H L x d) (fun _ e => (Option.some_ne_none _ (e.symm.trans List.getElem?_nil)).elim) (fun {_ _ d _} h _ r i => Nat.casesOn i (fun e => ⟨d, rfl, Option.some.inj e ▸ h⟩) fun i e => r i e) h i
theorem Das.take {xs : List V} {ds : List PyData} (n : Nat) (h : Das G H L xs ds) : Das G H L (xs.take n) (ds.take n) :=
  Das.ind (Q := fun xs ds => ∀ n, Das G H L (xs.take n) (ds.take n)) (fun n => by rw [List.take_nil, List.take_nil]; exact .nil) (fun h _ r n => Nat.casesOn n .nil fun n => .cons h (r n)) h n
theorem Das.drop {xs : List V} {ds : List PyData} (n : Nat) (h : Das G H L xs ds) : Das G H L (xs.drop n) (ds.drop n) :=
  Das.ind (Q := fun xs ds => ∀ n, Das G H L (xs.drop n) (ds.drop n)) (fun n => by rw [List.drop_nil, List.drop_nil]; exact .nil) (fun h q r n => Nat.casesOn n (.cons h q) fun n => r n) h n
theorem Das.ints (ns : List Int) : Das G H L (ns.map V.int) (ns.map PyData.int) := by
  induction ns with
  | nil => exact .nil
  | cons n ns ih => exact .cons (.int n) ih
theorem Das.int_inv {xs : List V} {ns : List Int} (h : Das G H L xs (ns.map PyData.int)) : xs = ns.map V.int := by
  induction ns generalizing xs with
  | nil => cases h; rfl
  | cons n ns ih =>
    rw [List.map_cons] at h
    cases h with
    | cons h r => cases h; rw [ih r]; rfl
end
theorem Znu {h : Heap} (ns : List Int) {us : List Value} (v : Vals (ns.map V.int) us) : ∃ as, ReadsAll h us (ns.map PyData.int) as := by
  induction ns generalizing us with
  | nil => cases v; exact ⟨_, .nil⟩
  | cons n ns ih =>
    rw [List.map_cons] at v
    cases v with
    | cons r rs =>
      obtain ⟨t, e⟩ := (show ∃ t, _ = Value.int n t from r)
      subst e
      obtain ⟨bs, k'⟩ := ih rs
      exact ⟨_, .cons (.int n t) k'⟩
section
variable {X : Cx} {pins : List (Addr × Obj)} {σ : St} {H : Hp} {s : Shared} {L L' : Addr → Prop}
theorem Da.reads2 (hG : X.K = G) (I : Inv X pins σ H s) : (∀ {v : V} {d : PyData}, Da G H L v d → ∀ u, RelV v u → d.canLay0 = true → ∃ as, Reads s.heap u d as) ∧ ∀ {xs : List V} {ds : List PyData}, Das G H L xs ds → ∀ us, Vals xs us → PyData.canLayAll0 ds = true → ∃ as, ReadsAll s.heap us ds as := by
  refine Da.both ?_ ?_ ?_ ?_ ?_ ?_ ?_ ?_ ?_ ?_ ?_
  · intro u r _
    cases (show _ = Value.none from r)
    exact ⟨_, .none⟩
  · intro b u r _
    cases (show _ = Value.bool b from r)
    exact ⟨_, .bool b⟩
  · intro i u r _
    obtain ⟨t, e⟩ := (show ∃ t, _ = Value.int i t from r)
    subst e
    exact ⟨_, .int i t⟩
  · intro x u r _
    obtain ⟨t, e⟩ := (show ∃ t, _ = Value.str x t from r)
    subst e
    exact ⟨_, .str x t⟩
  · intro a xs ds _ e q u r hcl
    cases (show _ = Value.ref a from r)
    obtain ⟨_, its, n, vs, h1⟩ := (show ObjOk X.prog X.w H s.heap a (.lst xs) from e.ok I.hok)
    rw [PyData.canLay0] at hcl
    obtain ⟨as, k⟩ := q _ vs hcl
    exact ⟨_, Reads.list h1 rfl rfl k⟩
  · intro a xs ds e q u r hcl
    cases (show _ = Value.ref a from r)
    obtain ⟨_, its, vs, o, ho, hc, n, hd⟩ := (show ObjOk X.prog X.w H s.heap a (.tup xs) from I.hok a _ e)
    rw [PyData.canLay0] at hcl
    obtain ⟨as, k⟩ := q _ vs hcl
    exact ⟨_, Reads.tuple ho hc hd k⟩
  · intro a ns k u r _
    cases (show _ = Value.ref a from r)
    subst hG
    obtain ⟨its, vs, ⟨o, n, ho, hc, hd, hs⟩, _⟩ := I.list (k.sq (H := H))
    obtain ⟨as, q⟩ := Znu ns vs
    exact ⟨_, Reads.list ho hc hs q⟩
  · intro a C x _ _ e u r hc
    rw [exD, PyData.canLay0] at hc
    cases hc
  · intro a x _ u r hc
    rw [fnD, PyData.canLay0] at hc
    cases hc
  · intro us v _
    cases v
    exact ⟨_, .nil⟩
  · intro x xs d ds h q us v hc
    cases v with
    | cons r rs =>
      rw [PyData.canLayAll0, Bool.and_eq_true] at hc
      obtain ⟨as, k⟩ := h _ r hc.1
      obtain ⟨bs, k'⟩ := q _ rs hc.2
      exact ⟨_, .cons k k'⟩
theorem Da.reads (hG : X.K = G) (I : Inv X pins σ H s) {v : V} {d : PyData} {u : Value} (h : Da G H L v d) (r : RelV v u) (c : d.canLay0 = true) : ∃ as, Reads s.heap u d as := (Da.reads2 hG I).1 h u r c
theorem Das.reads (hG : X.K = G) (I : Inv X pins σ H s) {xs : List V} {ds : List PyData} {us : List Value} (h : Das G H L xs ds) (r : Vals xs us) (c : PyData.canLayAll0 ds = true) : ∃ as, ReadsAll s.heap us ds as := (Da.reads2 hG I).2 h us r c
end
inductive OT where
  | fz (d : PyData)
  | nd (ts : List OT)
  | tp (ts : List OT)
mutual
noncomputable def OT.data : OT → PyData
  | .fz d => d
  | .nd ts => .list (OT.datas ts)
  | .tp ts => .tuple (OT.datas ts)
noncomputable def OT.datas : List OT → List PyData
  | [] => []
  | t :: ts => t.data :: OT.datas ts
end
theorem OT.datas_map : ∀ (ts : List OT), OT.datas ts = ts.map OT.data
  | [] => rfl
  | t :: ts => by rw [OT.datas, OT.datas_map ts]; rfl
@[simp] theorem OT.data_fz (d : PyData) : (OT.fz d).data = d := by rw [OT.data]
@[simp] theorem OT.data_nd (ts : List OT) : (OT.nd ts).data = .list (ts.map OT.data) := by rw [OT.data, OT.datas_map]
@[simp] theorem OT.data_tp (ts : List OT) : (OT.tp ts).data = .tuple (ts.map OT.data) := by rw [OT.data, OT.datas_map]
@[simp] theorem OT.map_fz (ds : List PyData) : (ds.map OT.fz).map OT.data = ds := by
  rw [List.map_map]
  exact (List.map_congr_left fun d _ => OT.data_fz d).trans (List.map_id _)
mutual
inductive Own (G : PySem.W.Frag) (H : Hp) (L : Addr → Prop) : V → OT → List Addr → Prop where
  | fz {v : V} {d : PyData} : Da G H L v d → Own G H L v (.fz d) []
  | nd {a : Addr} {xs : List V} {ts : List OT} {bs : List Addr} : H a = some (.lst xs) → Owns G H L xs ts bs → Own G H L (.ref a) (.nd ts) (a :: bs)
  | tp {a : Addr} {xs : List V} {ts : List OT} {bs : List Addr} : H a = some (.tup xs) → Owns G H L xs ts bs → Own G H L (.ref a) (.tp ts) bs
inductive Owns (G : PySem.W.Frag) (H : Hp) (L : Addr → Prop) : List V → List OT → List Addr → Prop where
  | nil : Owns G H L [] [] []
  | cons {x : V} {xs : List V} {t : OT} {ts : List OT} {as bs : List Addr} : Own G H L x t as → Owns G H L xs ts bs → Owns G H L (x :: xs) (t :: ts) (as ++ bs)
end
section
variable {H H' : Hp} {L L' : Addr → Prop}
theorem Own.both {P : V → OT → List Addr → Prop} {Q : List V → List OT → List Addr → Prop} (c1 : ∀ {v : V} {d : PyData}, Da G H L v d → P v (.fz d) []) (c2 : ∀ {a : Addr} {xs : List V} {ts : List OT} {bs : List Addr}, H a = some (.lst xs) → Q xs ts bs → P (.ref a) (.nd ts) (a :: bs))
    (c3 : ∀ {a : Addr} {xs : List V} {ts : List OT} {bs : List Addr}, H a = some (.tup xs) → Q xs ts bs → P (.ref a) (.tp ts) bs) (n : Q [] [] []) (c : ∀ {x : V} {xs : List V} {t : OT} {ts : List OT} {as bs : List Addr}, P x t as → Q xs ts bs → Q (x :: xs) (t :: ts) (as ++ bs)) :
    (∀ {v t as}, Own G H L v t as → P v t as) ∧ ∀ {xs ts as}, Owns G H L xs ts as → Q xs ts as :=
  ⟨fun h => Own.rec (motive_1 := fun v t as _ => P v t as) (motive_2 := fun xs ts as _ => Q xs ts as) c1 (fun e _ r => c2 e r) (fun e _ r => c3 e r) n (fun _ _ p q => c p q) h,
   fun h => Owns.rec (motive_1 := fun v t as _ => P v t as) (motive_2 := fun xs ts as _ => Q xs ts as) c1 (fun e _ r => c2 e r) (fun e _ r => c3 e r) n (fun _ _ p q => c p q) h⟩
theorem Own.frame2 (hl : ∀ a xs, L a → Rd H a (.lst xs) → L' a ∧ Rd H' a (.lst xs)) (ht : ∀ a (xs : ImO), H a = some xs.ho → H' a = some xs.ho) :
    (∀ {v : V} {t : OT} {as : List Addr}, Own G H L v t as → (∀ a ∈ as, ∀ xs, H a = some (.lst xs) → H' a = some (.lst xs)) → Own G H' L' v t as) ∧ ∀ {xs : List V} {ts : List OT} {as : List Addr}, Owns G H L xs ts as → (∀ a ∈ as, ∀ xs, H a = some (.lst xs) → H' a = some (.lst xs)) → Owns G H' L' xs ts as :=
  Own.both (fun h _ => .fz (h.frame hl ht)) (fun e r ha => .nd (ha _ (.head _) _ e) (r fun a m => ha a (.tail _ m))) (fun {_ xs _ _} e r ha => .tp (ht _ (.tup xs) e) (r ha)) (fun _ => .nil) (fun h r ha => .cons (h fun a m => ha a (List.mem_append_left _ m)) (r fun a m => ha a (List.mem_append_right _ m)))
theorem Own.frame (hl : ∀ a xs, L a → Rd H a (.lst xs) → L' a ∧ Rd H' a (.lst xs)) (ht : ∀ a (xs : ImO), H a = some xs.ho → H' a = some xs.ho) {v : V} {t : OT} {as : List Addr} (ha : ∀ a ∈ as, ∀ xs, H a = some (.lst xs) → H' a = some (.lst xs)) (h : Own G H L v t as) : Own G H' L' v t as := (Own.frame2 hl ht).1 h ha
theorem Owns.frame (hl : ∀ a xs, L a → Rd H a (.lst xs) → L' a ∧ Rd H' a (.lst xs)) (ht : ∀ a (xs : ImO), H a = some xs.ho → H' a = some xs.ho) {xs : List V} {ts : List OT} {as : List Addr} (ha : ∀ a ∈ as, ∀ xs, H a = some (.lst xs) → H' a = some (.lst xs)) (h : Owns G H L xs ts as) : Owns G H' L' xs ts as := (Own.frame2 hl ht).2 h ha
theorem Own.same (h : Same H H') {v : V} {t : OT} {as : List Addr} (x : Own G H L v t as) : Own G H' L v t as := x.frame (fun a xs p e => ⟨p, e.same h⟩) (fun a xs e => h _ _ e) fun a _ xs e => h _ _ e
theorem Own.wide (h : ∀ a, L a → H a ≠ none → L' a) {v : V} {t : OT} {as : List Addr} (x : Own G H L v t as) : Own G H L' v t as := x.frame (fun a xs p e => ⟨h a p e.some, e⟩) (fun a xs e => e) fun a _ xs e => e
theorem Owns.wide (h : ∀ a, L a → H a ≠ none → L' a) {v : List V} {t : List OT} {as : List Addr} (x : Owns G H L v t as) : Owns G H L' v t as := x.frame (fun a xs p e => ⟨h a p e.some, e⟩) (fun a xs e => e) fun a _ xs e => e
theorem Owns.same (h : Same H H') {v : List V} {t : List OT} {as : List Addr} (x : Owns G H L v t as) : Owns G H' L v t as := x.frame (fun a xs p e => ⟨p, e.same h⟩) (fun a xs e => h _ _ e) fun a _ xs e => h _ _ e
theorem Own.da2 (h : ∀ a, L a → H a ≠ none → L' a) : (∀ {v : V} {t : OT} {as : List Addr}, Own G H L v t as → (∀ a ∈ as, L' a) → Da G H L' v t.data) ∧ ∀ {v : List V} {t : List OT} {as : List Addr}, Owns G H L v t as → (∀ a ∈ as, L' a) → Das G H L' v (OT.datas t) :=
  Own.both (fun k _ => by rw [OT.data_fz]; exact k.wide h) (fun e r ha => by rw [OT.data]; exact .lst (ha _ (.head _)) (.inl e) (r fun a m => ha a (.tail _ m))) (fun e r ha => by rw [OT.data]; exact .tup e (r ha)) (fun _ => .nil) (fun k r ha => .cons (k fun a m => ha a (List.mem_append_left _ m)) (r fun a m => ha a (List.mem_append_right _ m)))
theorem Own.da (h : ∀ a, L a → H a ≠ none → L' a) {v : V} {t : OT} {as : List Addr} (ha : ∀ a ∈ as, L' a) (k : Own G H L v t as) : Da G H L' v t.data := (Own.da2 h).1 k ha
theorem Owns.das (h : ∀ a, L a → H a ≠ none → L' a) {v : List V} {t : List OT} {as : List Addr} (ha : ∀ a ∈ as, L' a) (k : Owns G H L v t as) : Das G H L' v (OT.datas t) := (Own.da2 h).2 k ha
theorem Own.some2 : (∀ {v : V} {t : OT} {as : List Addr}, Own G H L v t as → ∀ a ∈ as, ∃ xs, H a = some (.lst xs)) ∧ ∀ {v : List V} {t : List OT} {as : List Addr}, Owns G H L v t as → ∀ a ∈ as, ∃ xs, H a = some (.lst xs) :=
  Own.both (fun _ _ m => nomatch m) (fun e r a m => (List.mem_cons.mp m).elim (fun q => ⟨_, q ▸ e⟩) (r a)) (fun _ r => r) (fun _ m => nomatch m) (fun k r a m => (List.mem_append.mp m).elim (k a) (r a))
theorem Own.some {v : V} {t : OT} {as : List Addr} (h : Own G H L v t as) : ∀ a ∈ as, ∃ xs, H a = some (.lst xs) := Own.some2.1 h
theorem Owns.some {v : List V} {t : List OT} {as : List Addr} (h : Owns G H L v t as) : ∀ a ∈ as, ∃ xs, H a = some (.lst xs) := Own.some2.2 h
theorem Owns.length {xs : List V} {ts : List OT} {as : List Addr} (h : Owns G H L xs ts as) : xs.length = ts.length := (Own.both (P := fun _ _ _ => True) (Q := fun xs ts _ => xs.length = ts.length) (fun _ => trivial) (fun _ _ => trivial) (fun _ _ => trivial) rfl (fun _ r => congrArg (· + 1) r)).2 h
theorem Das.owns {xs : List V} {ds : List PyData} (h : Das G H L xs ds) : Owns G H L xs (ds.map OT.fz) [] := Das.ind (Q := fun xs ds => Owns G H L xs (ds.map OT.fz) []) .nil (fun h _ r => .cons (.fz h) r) h
end
end L2
namespace L2
open PySem PySem.Spec PyProof.Rows
variable {G : PySem.W.Frag}
noncomputable abbrev Zn := List (Option OT)
noncomputable abbrev Fp := Nat → List Addr
set_option genInjectivity false in
structure MC (G : PySem.W.Frag) where
  H₀ : Hp
  as₀ : Addr → Prop
  L : Addr → Prop
  σ₀ : St
noncomputable def Foot (fp : Fp) (a : Addr) : Prop := ∃ i, a ∈ fp i
noncomputable def Lf (C : MC G) (fp : Fp) (ex : Addr → Prop) (a : Addr) : Prop := ¬ Foot fp a ∧ ¬ ex a ∧ (C.L a ∨ C.H₀ a = none)
structure Rel (C : MC G) (io : List Nat) (H : Hp) (σ : St) (δ : Zn) (fp : Fp) (ex : Addr → Prop) : Prop where
  len : σ.length = δ.length
  own : ∀ (i : Nat) (t : OT), δ[i]? = some (some t) → ∃ v, σ[i]? = some (some v) ∧ Own G H (Lf C fp ex) v t (fp i)
  emp : ∀ i : Nat, (∀ t, δ[i]? ≠ some (some t)) → fp i = []
  nd : ∀ i, (fp i).Nodup
  dj : ∀ i j a, a ∈ fp i → a ∈ fp j → i = j
  dx : ∀ i a, a ∈ fp i → ¬ ex a
  xa : ∀ a, ex a → H a ≠ none
  fr : ∀ b o, C.H₀ b = some o → ¬ C.as₀ b → H b = some o
  al : ∀ b, H b = none → C.H₀ b = none
  new : ∀ i a, a ∈ fp i → (i ∈ io ∧ C.as₀ a) ∨ C.H₀ a = none
  io : ∀ i ∈ io, σ[i]? = C.σ₀[i]?
structure Stp (p : Bool) (H : Hp) (δ : Zn) (fp : Fp) (H' : Hp) (δ' : Zn) (fp' : Fp) : Prop where
  keep : ∀ b o, H b = some o → (p = true ∨ ¬ Foot fp b) → H' b = some o
  env : p = true → δ' = δ ∧ fp' = fp
  grow : ∀ a, Foot fp' a → Foot fp a ∨ H a = none
  al : ∀ b, H' b = none → H b = none
section
variable {C : MC G} {io : List Nat} {H H' H'' : Hp} {σ : St} {δ δ' δ'' : Zn} {fp fp' fp'' : Fp} {ex ex' : Addr → Prop} {p p' c : Bool} {v : V} {d : PyData} {r : OT} {new : List Addr}
theorem Rel.foot (R : Rel C io H σ δ fp ex) {a : Addr} (h : Foot fp a) : ∃ xs, H a = some (.lst xs) := by
  obtain ⟨i, h⟩ := h
  by_cases q : ∃ t, δ[i]? = some (some t)
  · obtain ⟨t, q⟩ := q
    obtain ⟨v, _, o⟩ := R.own i t q
    exact o.some a h
  · rw [R.emp i (fun t z => q ⟨t, z⟩)] at h
    exact nomatch h
theorem Rel.footSome (R : Rel C io H σ δ fp ex) {a : Addr} (h : H a = none) : ¬ Foot fp a := fun z => by
  obtain ⟨xs, e⟩ := R.foot z
  rw [h] at e
  cases e
theorem Stp.refl (p : Bool) (H : Hp) (δ : Zn) (fp : Fp) : Stp p H δ fp H δ fp := ⟨fun _ _ h _ => h, fun _ => ⟨rfl, rfl⟩, fun _ h => .inl h, fun _ h => h⟩
theorem Stp.same (h : Same H H') (hn : ∀ b, H' b = none → H b = none) : Stp p H δ fp H' δ fp := ⟨fun _ _ q _ => h _ _ q, fun _ => ⟨rfl, rfl⟩, fun _ h => .inl h, hn⟩
theorem Same.al (h : Same H H') : ∀ b, H' b = none → H b = none := fun _ q => h.free q
theorem Stp.trans (a : Stp p H δ fp H' δ' fp') (b : Stp p' H' δ' fp' H'' δ'' fp'') : Stp (p && p') H δ fp H'' δ'' fp'' where
  keep := fun x o e h => by
    rcases h with h | h
    · rw [Bool.and_eq_true] at h
      exact b.keep x o (a.keep x o e (.inl h.1)) (.inl h.2)
    · refine b.keep x o (a.keep x o e (.inr h)) (.inr fun z => ?_)
      rcases a.grow x z with z | z
      · exact h z
      · rw [e] at z; cases z
  env := fun h => by
    rw [Bool.and_eq_true] at h
    obtain ⟨e1, e2⟩ := a.env h.1
    obtain ⟨e3, e4⟩ := b.env h.2
    exact ⟨e3.trans e1, e4.trans e2⟩
  grow := fun x h => by
    rcases b.grow x h with h | h
    · exact a.grow x h
    · exact .inr (a.al x h)
  al := fun x h => a.al x (b.al x h)
theorem Rel.frameL (R : Rel C io H σ δ fp ex) (S : Stp p H δ fp H' δ' fp') (hc : p = true ∨ c = true) (hx : ∀ a, ex' a → ex a ∨ H a = none) :
    (∀ a xs, (c = true → Lf C fp ex a) → Rd H a (.lst xs) → (c = true → Lf C fp' ex' a) ∧ Rd H' a (.lst xs)) ∧ (∀ a (xs : ImO), H a = some xs.ho → H' a = some xs.ho) := by
  have nf : ∀ a, Foot fp a → ∃ xs, H a = some (.lst xs) := fun a h => R.foot h
  refine ⟨fun a xs l q => ⟨fun hc' => ?_, ?_⟩, fun a xs q => S.keep a _ q (.inr fun z => ?_)⟩
  · obtain ⟨l1, l2, l3⟩ := l hc'
    refine ⟨fun z => ?_, fun z => ?_, l3⟩
    · rcases S.grow a z with z | z
      · exact l1 z
      · exact q.some z
    · rcases hx a z with z | z
      · exact l2 z
      · exact q.some z
  · have hk : p = true ∨ ¬ Foot fp a := by
      rcases hc with h | h
      · exact .inl h
      · exact .inr (l h).1
    rcases q with q | ⟨o, q⟩
    · exact .inl (S.keep a _ q hk)
    · exact .inr ⟨o, S.keep a _ q hk⟩
  · obtain ⟨ys, e⟩ := nf a z
    exact ImO.nl q e
theorem Rel.own_step (R : Rel C io H σ δ fp ex) (S : Stp p H δ fp H' δ' fp') (hc : p = true ∨ c = true) (hx : ∀ a, ex' a → ex a ∨ H a = none) (hn : ∀ a ∈ new, ex a)
    (x : Own G H (fun a => c = true → Lf C fp ex a) v r new) : Own G H' (fun a => c = true → Lf C fp' ex' a) v r new :=
  x.frame (R.frameL S hc hx).1 (R.frameL S hc hx).2 fun a m xs e => S.keep a _ e (.inr fun ⟨i, z⟩ => R.dx i a z (hn a m))
theorem Rel.owns_step (R : Rel C io H σ δ fp ex) (S : Stp p H δ fp H' δ' fp') (hc : p = true ∨ c = true) (hx : ∀ a, ex' a → ex a ∨ H a = none) (hn : ∀ a ∈ new, ex a) {vs : List V} {rs : List OT}
    (x : Owns G H (fun a => c = true → Lf C fp ex a) vs rs new) : Owns G H' (fun a => c = true → Lf C fp' ex' a) vs rs new :=
  x.frame (R.frameL S hc hx).1 (R.frameL S hc hx).2 fun a m xs e => S.keep a _ e (.inr fun ⟨i, z⟩ => R.dx i a z (hn a m))
theorem Rel.drop (R : Rel C io H σ δ fp ex) (h : ∀ a, ex' a → ex a) : Rel C io H σ δ fp ex' :=
  ⟨R.len, fun i t e => by
    obtain ⟨v, e1, o⟩ := R.own i t e
    exact ⟨v, e1, o.wide fun a l _ => ⟨l.1, fun z => l.2.1 (h a z), l.2.2⟩⟩, R.emp, R.nd, R.dj, fun i a m z => R.dx i a m (h a z), fun a z => R.xa a (h a z), R.fr, R.al, R.new, R.io⟩
theorem Rel.made (R : Rel C io H σ δ fp ex) (s : Same H H') (hn : ∀ a ∈ new, H a = none ∧ H' a ≠ none) : Rel C io H' σ δ fp (fun a => ex a ∨ a ∈ new) :=
  ⟨R.len, fun i t e => by
    obtain ⟨v, e1, o⟩ := R.own i t e
    refine ⟨v, e1, (o.wide fun a l q => ⟨l.1, fun z => ?_, l.2.2⟩).same s⟩
    rcases z with z | z
    · exact l.2.1 z
    · exact q (hn a z).1, R.emp, R.nd, R.dj, fun i a m z => by
      rcases z with z | z
      · exact R.dx i a m z
      · exact R.footSome (hn a z).1 ⟨i, m⟩, fun a z => by
      rcases z with z | z
      · intro q; exact R.xa a z (s.free q)
      · exact (hn a z).2, fun b o e n => s _ _ (R.fr b o e n), fun b q => R.al b (s.free q), R.new, R.io⟩
end
noncomputable abbrev MEt := Zn → (OT → Zn → Prop) → Prop
noncomputable abbrev MAt := Zn → (List OT → Zn → Prop) → Prop
noncomputable abbrev MTt := Zn → (Bool → Zn → Prop) → Prop
noncomputable abbrev exu (ex : Addr → Prop) (new : List Addr) : Addr → Prop := fun a => ex a ∨ a ∈ new
structure RE (C : MC G) (io : List Nat) (p c : Bool) (H : Hp) (σ : St) (δ : Zn) (fp : Fp) (ex : Addr → Prop) (H' : Hp) (v : V) (r : OT) (δ' : Zn) (fp' : Fp) (new : List Addr) : Prop where
  rel : Rel C io H' σ δ' fp' (exu ex new)
  stp : Stp p H δ fp H' δ' fp'
  own : Own G H' (fun a => c = true → Lf C fp' (exu ex new) a) v r new
  nd : new.Nodup
  fresh : ∀ a ∈ new, H a = none
structure RA (C : MC G) (io : List Nat) (p c : Bool) (H : Hp) (σ : St) (δ : Zn) (fp : Fp) (ex : Addr → Prop) (H' : Hp) (v : List V) (r : List OT) (δ' : Zn) (fp' : Fp) (new : List Addr) : Prop where
  rel : Rel C io H' σ δ' fp' (exu ex new)
  stp : Stp p H δ fp H' δ' fp'
  own : Owns G H' (fun a => c = true → Lf C fp' (exu ex new) a) v r new
  nd : new.Nodup
  fresh : ∀ a ∈ new, H a = none
noncomputable def SE (G : PySem.W.Frag) (io : List Nat) (p c : Bool) (t : TE) (m : MEt) : Prop := ∀ (C : MC G) (H : Hp) (σ : St) (δ : Zn) (fp : Fp) (ex : Addr → Prop) (K : OT → Zn → Prop) (Q : VK), Rel C io H σ δ fp ex → m δ K →
  (∀ H' v r δ' fp' new, RE C io p c H σ δ fp ex H' v r δ' fp' new → K r δ' → Q v H') → t σ H Q
noncomputable def SA (G : PySem.W.Frag) (io : List Nat) (p c : Bool) (t : TA) (m : MAt) : Prop := ∀ (C : MC G) (H : Hp) (σ : St) (δ : Zn) (fp : Fp) (ex : Addr → Prop) (K : List OT → Zn → Prop) (Q : List V → Hp → Prop), Rel C io H σ δ fp ex → m δ K →
  (∀ H' v r δ' fp' new, RA C io p c H σ δ fp ex H' v r δ' fp' new → K r δ' → Q v H') → t σ H Q
noncomputable def STt (G : PySem.W.Frag) (io : List Nat) (p : Bool) (t : TT) (m : MTt) : Prop := ∀ (C : MC G) (H : Hp) (σ : St) (δ : Zn) (fp : Fp) (ex : Addr → Prop) (K : Bool → Zn → Prop) (Q : Bool → Hp → Prop), Rel C io H σ δ fp ex → m δ K →
  (∀ H' b δ' fp', Rel C io H' σ δ' fp' ex → Stp p H δ fp H' δ' fp' → K b δ' → Q b H') → t σ H Q
noncomputable def ME (X : Cx) (io : List Nat) (p c : Bool) (e : Expr) (m : MEt) : Prop := ∃ t, PE X e t ∧ SE X.K io p c t m
noncomputable def MA (X : Cx) (io : List Nat) (p c : Bool) (e : List Expr) (m : MAt) : Prop := ∃ t, PA X e t ∧ SA X.K io p c t m
noncomputable def MT (X : Cx) (io : List Nat) (p : Bool) (e : Expr) (m : MTt) : Prop := ∃ t, PT X e t ∧ STt X.K io p t m
noncomputable def MW (X : Cx) (io : List Nat) (p : Bool) (e : Expr) (m : MTt) : Prop := ∃ t, PW X e t ∧ STt X.K io p t m
section
variable {C : MC G} {io : List Nat} {H H' H'' : Hp} {σ : St} {δ δ' δ'' : Zn} {fp fp' fp'' : Fp} {ex ex' : Addr → Prop} {p p' c : Bool} {v : V} {d : PyData} {r : OT} {vs : List V} {rs : List OT} {new : List Addr}
theorem Rel.newOk (R : Rel C io H σ δ fp ex) {a : Addr} (h : H a = none) : ¬ Foot fp a ∧ ¬ ex a ∧ C.H₀ a = none := ⟨R.footSome h, fun z => R.xa a z h, R.al a h⟩
theorem RE.da (R : RE C io p c H σ δ fp ex H' v r δ' fp' new) (R0 : Rel C io H σ δ fp ex) : Da G H' (fun a => c = true → Lf C fp' ex a) v r.data := by
  refine R.own.da (fun a l _ h => ?_) (fun a m _ => ?_)
  · exact ⟨(l h).1, fun z => (l h).2.1 (.inl z), (l h).2.2⟩
  · refine ⟨fun qz9 => ?_, (R0.newOk (R.fresh a m)).2.1, .inr (R0.newOk (R.fresh a m)).2.2⟩
    obtain ⟨i, z⟩ := qz9
    exact R.rel.dx i a z (.inr m)
theorem RA.das (R : RA C io p c H σ δ fp ex H' vs rs δ' fp' new) (R0 : Rel C io H σ δ fp ex) : Das G H' (fun a => c = true → Lf C fp' ex a) vs (OT.datas rs) := by
  refine R.own.das (fun a l _ h => ?_) (fun a m _ => ?_)
  · exact ⟨(l h).1, fun z => (l h).2.1 (.inl z), (l h).2.2⟩
  · refine ⟨fun qz9 => ?_, (R0.newOk (R.fresh a m)).2.1, .inr (R0.newOk (R.fresh a m)).2.2⟩
    obtain ⟨i, z⟩ := qz9
    exact R.rel.dx i a z (.inr m)
theorem RE.base (R : RE C io p c H σ δ fp ex H' v r δ' fp' new) : Rel C io H' σ δ' fp' ex := R.rel.drop fun a z => .inl z
theorem RA.base (R : RA C io p c H σ δ fp ex H' vs rs δ' fp' new) : Rel C io H' σ δ' fp' ex := R.rel.drop fun a z => .inl z
theorem Zdo {a : Addr} : exu ex [] a ↔ ex a := by simp [exu]
theorem RE.fz (R : Rel C io H' σ δ' fp' ex) (S : Stp p H δ fp H' δ' fp') (h : Da G H' (fun a => c = true → Lf C fp' ex a) v d) : RE C io p c H σ δ fp ex H' v (.fz d) δ' fp' [] :=
  ⟨R.drop fun a z => Zdo.mp z, S, .fz (h.wide fun a l _ hc => ⟨(l hc).1, fun z => (l hc).2.1 (Zdo.mp z), (l hc).2.2⟩), .nil, fun a m => nomatch m⟩
theorem RE.tree {H1 : Hp} (R0 : Rel C io H σ δ fp ex) (R : Rel C io H1 σ δ' fp' ex) (S : Stp p H δ fp H1 δ' fp') (s : Same H1 H') (hn : ∀ a ∈ new, H1 a = none) (nd : new.Nodup)
    (o : Own G H' (fun a => ((c = true → Lf C fp' ex a) ∨ H1 a = none) ∧ a ∉ new) v r new) : RE C io p c H σ δ fp ex H' v r δ' fp' new := by
  refine ⟨R.made s fun a m => ⟨hn a m, fun z => ?_⟩, ?_, o.wide fun a l q hc => ?_, nd, fun a m => S.al a (hn a m)⟩
  · obtain ⟨xs, e⟩ := o.some a m
    rw [z] at e; cases e
  · have := S.trans (p' := true) (Stp.same (p := true) (δ := δ') (fp := fp') s s.al)
    rwa [Bool.and_true] at this
  · rcases l.1 with l1 | l1
    · exact ⟨(l1 hc).1, fun z => z.elim (l1 hc).2.1 l.2, (l1 hc).2.2⟩
    · exact ⟨R.footSome l1, fun z => z.elim (fun z => R.xa a z l1) l.2, .inr (R.al a l1)⟩
end
inductive ScD : V → PyData → Prop where
  | non : ScD .non .none
  | bl (b : Bool) : ScD (.bl b) (.bool b)
  | int (i : Int) : ScD (.int i) (.int i)
  | str (x : Str) : ScD (.str x) (.str x)
theorem ScD.da {H : Hp} {L : Addr → Prop} {v : V} {d : PyData} (h : ScD v d) : Da G H L v d := by
  cases h
  · exact .non
  · exact .bl _
  · exact .int _
  · exact .str _
section
variable {X : Cx} {io : List Nat} {p p' c c' : Bool} {e a b : Expr} {m ma mb : MEt} {es : List Expr}
noncomputable def Z1x (i : Nat) : MEt := fun δ K => match δ[i]? with | some (some (.fz d)) => K (.fz d) δ | _ => False
noncomputable def Z1n (i : Nat) : MEt := fun δ K => match δ[i]? with | some (some t) => K (.fz t.data) δ | _ => False
noncomputable def mC (d : PyData) : MEt := fun δ K => K (.fz d) δ
theorem mv (i : Nat) {x : Str} {pos : Pos} (hN : X.N[i]? = some x := by rfl) (hv : Vis X.env.scope x := by first | exact Or.inl rfl | exact Or.inr (Or.inl rfl) | exact Or.inr (Or.inr rfl)) (hd : (x == ("__debug__" : Str)) = false := by decide)
    (hcd : (x == ("__classdict__" : Str)) = false := by decide) : ME X io true true (.Name x pos) (Z1x i) := by
  refine ⟨_, pv i hN hv hd hcd, fun C H σ δ fp ex K Q R h k => ?_⟩
  unfold Z1x at h
  split at h
  · rename_i d hd
    obtain ⟨v, e, o⟩ := R.own i _ hd
    refine ⟨v, e, k H v _ δ fp [] (.fz R (.refl _ _ _ _) ?_) h⟩
    generalize fp i = as at o
    cases o with
    | fz q => exact q.wide fun a l _ _ => l
  · exact h.elim
theorem mo (i : Nat) {x : Str} {pos : Pos} (hN : X.N[i]? = some x := by rfl) (hv : Vis X.env.scope x := by first | exact Or.inl rfl | exact Or.inr (Or.inl rfl) | exact Or.inr (Or.inr rfl)) (hd : (x == ("__debug__" : Str)) = false := by decide)
    (hcd : (x == ("__classdict__" : Str)) = false := by decide) : ME X io true false (.Name x pos) (Z1n i) := by
  refine ⟨_, pv i hN hv hd hcd, fun C H σ δ fp ex K Q R h k => ?_⟩
  unfold Z1n at h
  split at h
  · rename_i d hd
    obtain ⟨v, e, o⟩ := R.own i _ hd
    exact ⟨v, e, k H v _ δ fp [] (.fz R (.refl _ _ _ _) (o.da (fun a _ _ z => (nomatch z)) fun a _ z => (nomatch z))) h⟩
  · exact h.elim
theorem Zq5 {t : V} {d : PyData} (h : PE X e (tC t)) (s : ScD t d) : ME X io true true e (mC d) :=
  ⟨_, h, fun C H σ δ fp ex K Q R h k => k H t _ δ fp [] (.fz R (.refl _ _ _ _) s.da) h⟩
theorem Zg {i j pos} : ME X io true true (.Constant (.int i) j pos) (mC (.int i)) := Zq5 Zoo (.int i)
theorem Zwf {b j pos} : ME X io true true (.Constant (.bool b) j pos) (mC (.bool b)) := Zq5 Z4i (.bl b)
theorem SE.two {ta tb : TE} (ha : SE G io p c ta ma) (hb : SE G io p' c' tb mb) (hc : p' = true ∨ c = true) {C : MC G} {H : Hp} {σ : St} {δ : Zn} {fp : Fp} {ex : Addr → Prop} {K : OT → OT → Zn → Prop} {Q : V → V → Hp → Prop}
    (R : Rel C io H σ δ fp ex) (h : ma δ fun x δ1 => mb δ1 fun y δ2 => K x y δ2)
    (k : ∀ H' x y u v δ' fp', Rel C io H' σ δ' fp' ex → Stp (p && p') H δ fp H' δ' fp' → Da G H' (fun a => (c && c') = true → Lf C fp' ex a) x u.data → Da G H' (fun a => (c && c') = true → Lf C fp' ex a) y v.data → K u v δ' → Q x y H') :
    ta σ H fun x H1 => tb σ H1 fun y H2 => Q x y H2 := by
  refine ha C H σ δ fp ex _ _ R h fun H1 x u δ1 fp1 new1 r1 h1 => ?_
  refine hb C H1 σ δ1 fp1 (exu ex new1) _ _ r1.rel h1 fun H2 y v δ2 fp2 new2 r2 h2 => ?_
  have o1 := r1.rel.own_step (ex' := exu (exu ex new1) new2) r2.stp (c := c) hc (fun a z => z.imp id fun z => r2.fresh a z) (fun a m => .inr m) r1.own
  have R2 : Rel C io H2 σ δ2 fp2 ex := r2.rel.drop fun a z => .inl (.inl z)
  have q1 : Da G H2 (fun a => c = true → Lf C fp2 ex a) x u.data := by
    refine o1.da (fun a l _ z => ?_) (fun a m z => ?_)
    · exact ⟨(l z).1, fun w => (l z).2.1 (.inl (.inl w)), (l z).2.2⟩
    · have := R.newOk (r1.fresh a m)
      refine ⟨fun qz9 => ?_, this.2.1, .inr this.2.2⟩
      obtain ⟨i, w⟩ := qz9
      exact r2.rel.dx i a w (.inl (.inr m))
  have q2 := r2.da r1.rel
  refine k H2 x y u v δ2 fp2 R2 (r1.stp.trans r2.stp) (q1.wide fun a l _ z => l (by rw [Bool.and_eq_true] at z; exact z.1)) (q2.wide fun a l _ z => ?_) h2
  have l := l (by rw [Bool.and_eq_true] at z; exact z.2)
  exact ⟨l.1, fun w => l.2.1 (.inl w), l.2.2⟩
noncomputable def P2s (G : PySem.W.Frag) (r : R2) (rp : PyData → PyData → (PyData → Prop) → Prop) : Prop := ∀ (H : Hp) (L : Addr → Prop) (x y : V) (d e : PyData) (k : PyData → Prop) (Q : VK), Da G H L x d → Da G H L y e → rp d e k → (∀ v d', ScD v d' → k d' → Q v H) → r x y H Q
noncomputable def P2 (G : PySem.W.Frag) (r : R2) (rp : PyData → PyData → (OT → Prop) → Prop) : Prop := ∀ (H : Hp) (L : Addr → Prop) (x y : V) (d e : PyData) (k : OT → Prop) (Q : VK), Da G H L x d → Da G H L y e → rp d e k →
  (∀ H' v o new, Same H H' → Own G H' (fun a => (L a ∨ H a = none) ∧ a ∉ new) v o new → new.Nodup → (∀ a ∈ new, H a = none) → k o → Q v H') → r x y H Q
noncomputable def Zlu (rp : PyData → PyData → (PyData → Prop) → Prop) (ma mb : MEt) : MEt := fun δ K => ma δ fun x δ1 => mb δ1 fun y δ2 => rp x.data y.data fun d => K (.fz d) δ2
noncomputable def Z16 (rp : PyData → PyData → (OT → Prop) → Prop) (ma mb : MEt) : MEt := fun δ K => ma δ fun x δ1 => mb δ1 fun y δ2 => rp x.data y.data fun d => K d δ2
theorem Zwt {r : R2} {rp} {ta tb : TE} (P : P2s G r rp) (ha : SE G io p c ta ma) (hb : SE G io p' c' tb mb) (hc : p' = true ∨ c = true) : SE G io (p && p') true (tOp r ta tb) (Zlu rp ma mb) := by
  intro C H σ δ fp ex K Q R h k
  refine SE.two (K := fun x y δ2 => rp x.data y.data fun d => K (.fz d) δ2) (Q := fun x y H2 => r x y H2 Q) ha hb hc R h fun H' x y u v δ' fp' R' S q1 q2 h' => ?_
  exact P H' _ x y _ _ _ _ q1 q2 h' fun w d' sc h'' => k H' w _ δ' fp' [] (.fz R' S sc.da) h''
theorem Z5e {r : R2} {rp} {ta tb : TE} (P : P2 G r rp) (ha : SE G io p c ta ma) (hb : SE G io p' c' tb mb) (hc : p' = true ∨ c = true) : SE G io (p && p') (c && c') (tOp r ta tb) (Z16 rp ma mb) := by
  intro C H σ δ fp ex K Q R h k
  refine SE.two (K := fun x y δ2 => rp x.data y.data fun d => K d δ2) (Q := fun x y H2 => r x y H2 Q) ha hb hc R h fun H' x y u v δ' fp' R' S q1 q2 h' => ?_
  exact P H' _ x y _ _ _ _ q1 q2 h' fun H2 w o new s ow nd hn h'' => k H2 w o δ' fp' new (RE.tree R R' S s hn nd ow) h''
theorem Yb {op : Operator} {r : R2} {rp} {pos : Pos} (ho : OpR X (binaryOp op) r) (P : P2s X.K r rp) (ha : ME X io p c a ma) (hb : ME X io p' c' b mb) (hc : p' = true ∨ c = true := by first | exact Or.inl rfl | exact Or.inr rfl) : ME X io (p && p') true (.BinOp a op b pos) (Zlu rp ma mb) := by
  obtain ⟨_, A, sa⟩ := ha
  obtain ⟨_, B, sb⟩ := hb
  exact ⟨_, Zvg ho A B, Zwt P sa sb hc⟩
theorem Z1z {op : Operator} {r : R2} {rp} {pos : Pos} (ho : OpR X (binaryOp op) r) (P : P2 X.K r rp) (ha : ME X io p c a ma) (hb : ME X io p' c' b mb) (hc : p' = true ∨ c = true := by first | exact Or.inl rfl | exact Or.inr rfl) : ME X io (p && p') (c && c') (.BinOp a op b pos) (Z16 rp ma mb) := by
  obtain ⟨_, A, sa⟩ := ha
  obtain ⟨_, B, sb⟩ := hb
  exact ⟨_, Zvg ho A B, Z5e P sa sb hc⟩
theorem Zng {op : CmpOp} {r : R2} {rp} {pos : Pos} (ho : OpR X (compareOp op) r) (P : P2s X.K r rp) (ha : ME X io p c a ma) (hb : ME X io p' c' b mb) (hc : p' = true ∨ c = true := by first | exact Or.inl rfl | exact Or.inr rfl) (hm : behindInMarks op b = false) : ME X io (p && p') true (.Compare a [op] [b] pos) (Zlu rp ma mb) := by
  obtain ⟨_, A, sa⟩ := ha
  obtain ⟨_, B, sb⟩ := hb
  exact ⟨_, Zvf ho A B hm, Zwt P sa sb hc⟩
theorem Zat {r : R2} {rp} {pos : Pos} (ho : IxR X r) (P : P2 X.K r rp) (ha : ME X io p c a ma) (hb : ME X io p' c' b mb) (hc : p' = true ∨ c = true := by first | exact Or.inl rfl | exact Or.inr rfl) (hs : Zk5 b) : ME X io (p && p') (c && c') (.Subscript a b pos) (Z16 rp ma mb) := by
  obtain ⟨_, A, sa⟩ := ha
  obtain ⟨_, B, sb⟩ := hb
  exact ⟨_, Zxt ho A B hs, Z5e P sa sb hc⟩
noncomputable def kB (K : Bool → Zn → Prop) : OT → Zn → Prop := fun o δ => match o with | .fz (.bool b) => K b δ | _ => False
theorem Z28 {t : TE} (h : SE G io p c t m) : STt G io p (Z09 t) (fun δ K => m δ (kB K)) := by
  intro C H σ δ fp ex K Q R h' k
  refine h C H σ δ fp ex _ _ R h' fun H' v r δ' fp' new r1 h1 => ?_
  cases r with
  | nd ts => exact h1.elim
  | tp ts => exact h1.elim
  | fz d =>
    cases d with
    | bool b =>
      cases r1.own with
      | fz q =>
        cases q
        exact ⟨b, rfl, k H' b δ' fp' r1.base r1.stp h1⟩
    | _ => exact h1.elim
theorem Je {op : CmpOp} {r : R2} {rp} {pos : Pos} (ho : OpR X (compareOp op) r) (P : P2s X.K r rp) (ha : ME X io p c a ma) (hb : ME X io p' c' b mb) (hc : p' = true ∨ c = true := by first | exact Or.inl rfl | exact Or.inr rfl) (hm : behindInMarks op b = false) :
    MT X io (p && p') (.Compare a [op] [b] pos) (fun δ K => Zlu rp ma mb δ (kB K)) := by
  obtain ⟨_, A, sa⟩ := ha
  obtain ⟨_, B, sb⟩ := hb
  exact ⟨_, Zu5 ho A B hm, Z28 (Zwt P sa sb hc)⟩
end
end L2
namespace L2
open PySem PySem.Spec PyProof.Rows
variable {G : PySem.W.Frag}
section
variable {X : Cx} {io : List Nat} {p p' p'' c c' : Bool} {e a b : Expr} {m ma mb : MEt} {es rest : List Expr} {ta tb : MTt} {pos : Pos}
noncomputable def Z6i (t : MTt) : MTt := fun δ K => t δ fun b δ' => K (!b) δ'
noncomputable def Z5c (t u : MTt) : MTt := fun δ K => t δ fun b δ' => if b = true then u δ' K else K false δ'
noncomputable def mOr (t u : MTt) : MTt := fun δ K => t δ fun b δ' => if b = true then K true δ' else u δ' K
theorem Zee (h : MT X io p a ta) : MT X io p (.UnaryOp .Not a pos) (Z6i ta) := by
  obtain ⟨_, A, sa⟩ := h
  exact ⟨_, Zx6 A, fun C H σ δ fp ex K Q R h k => sa C H σ δ fp ex _ _ R h fun H' b δ' fp' R' S h' => k H' (!b) δ' fp' R' S h'⟩
theorem Zwv (h : MT X io p a ta) : MW X io p (.BoolOp .And [a] pos) ta := by
  obtain ⟨_, A, sa⟩ := h
  exact ⟨_, Zuq A, sa⟩
theorem Zid (h : MT X io p a ta) : MW X io p (.BoolOp .Or [a] pos) ta := by
  obtain ⟨_, A, sa⟩ := h
  exact ⟨_, Zye A, sa⟩
theorem Stp.andL {H H' : Hp} {δ δ' : Zn} {fp fp' : Fp} (S : Stp p H δ fp H' δ' fp') : Stp (p && p') H δ fp H' δ' fp' := by
  have := S.trans (Stp.refl p' H' δ' fp')
  exact this
theorem Z0k (h : MT X io p a ta) (g : MW X io p' (.BoolOp .And (b :: rest) pos) tb) : MW X io (p && p') (.BoolOp .And (a :: b :: rest) pos) (Z5c ta tb) := by
  obtain ⟨_, A, sa⟩ := h
  obtain ⟨_, B, sb⟩ := g
  exact ⟨_, Zy0 A B, fun C H σ δ fp ex K Q R h k => sa C H σ δ fp ex _ _ R h fun H' b δ' fp' R' S h' => by
    cases b with
    | true =>
      rw [if_pos rfl] at h' ⊢
      exact sb C H' σ δ' fp' ex _ _ R' h' fun H2 b2 δ2 fp2 R2 S2 h2 => k H2 b2 δ2 fp2 R2 (S.trans S2) h2
    | false =>
      rw [if_neg Bool.false_ne_true] at h' ⊢
      exact k H' false δ' fp' R' S.andL h'⟩
theorem Zgg (h : MT X io p a ta) (g : MW X io p' (.BoolOp .Or (b :: rest) pos) tb) : MW X io (p && p') (.BoolOp .Or (a :: b :: rest) pos) (mOr ta tb) := by
  obtain ⟨_, A, sa⟩ := h
  obtain ⟨_, B, sb⟩ := g
  exact ⟨_, Z2h A B, fun C H σ δ fp ex K Q R h k => sa C H σ δ fp ex _ _ R h fun H' b δ' fp' R' S h' => by
    cases b with
    | true =>
      rw [if_pos rfl] at h' ⊢
      exact k H' true δ' fp' R' S.andL h'
    | false =>
      rw [if_neg Bool.false_ne_true] at h' ⊢
      exact sb C H' σ δ' fp' ex _ _ R' h' fun H2 b2 δ2 fp2 R2 S2 h2 => k H2 b2 δ2 fp2 R2 (S.trans S2) h2⟩
theorem MW.mt (h : MW X io p e ta) : MT X io p e ta := by
  obtain ⟨_, A, sa⟩ := h
  exact ⟨_, A.pt, sa⟩
noncomputable def Zr2 : PyData → Option Bool
  | .none => some false
  | .bool b => some b
  | .int i => some (i != 0)
  | .list ds => some (!ds.isEmpty)
  | .tuple ds => some (!ds.isEmpty)
  | _ => none
noncomputable def Z57 (m : MEt) : MTt := fun δ K => m δ fun r δ' => match Zr2 r.data with | some b => K b δ' | none => False
theorem Das.isEmpty {H : Hp} {L : Addr → Prop} {xs : List V} {ds : List PyData} (h : Das G H L xs ds) : xs.isEmpty = ds.isEmpty := by cases h <;> rfl
theorem Zdv (ha : ME X io p c a ma) (he : ∀ whole, isTrue a X.env whole = (do let v ← whole; standAt a.pos; holding [v] (truthy v))) : MT X io p a (Z57 ma) := by
  obtain ⟨_, A, sa⟩ := ha
  exact ⟨_, Zu2 rfl A he, fun C H σ δ fp ex K' Q R h k => sa C H σ δ fp ex _ _ R h fun H' v r δ' fp' new r1 h1 => by
    have q := r1.da R
    generalize r.data = d at q h1
    cases q with
    | non => exact ⟨_, rfl, k H' _ δ' fp' r1.base r1.stp h1⟩
    | bl b => exact ⟨_, rfl, k H' _ δ' fp' r1.base r1.stp h1⟩
    | int b => exact ⟨_, rfl, k H' _ δ' fp' r1.base r1.stp h1⟩
    | str x => exact h1.elim
    | lst _ e q => exact ⟨_, .inl ⟨_, .inl e, rfl⟩, k H' _ δ' fp' r1.base r1.stp (by rw [q.isEmpty]; exact h1)⟩
    | tup e q => exact ⟨_, .inr (.inl ⟨_, .inl (.inl e), rfl⟩), k H' _ δ' fp' r1.base r1.stp (by rw [q.isEmpty]; exact h1)⟩
    | scr q => exact ⟨_, .inl ⟨_, q.sq, rfl⟩, k H' _ δ' fp' r1.base r1.stp (by simpa [Zr2] using h1)⟩
    | exc _ _ _ => exact h1.elim
    | fn _ => exact h1.elim⟩
noncomputable def asB (d : PyData) (k : Bool → Prop) : Prop := match d with | .bool b => k b | _ => False
noncomputable def Z00 (a b : MEt) : MEt := fun δ K => a δ fun x δ1 => asB x.data fun c => if c = true then b δ1 K else K (.fz (.bool false)) δ1
noncomputable def Z0f (a : MEt) : MEt := fun δ K => a δ fun x δ1 => asB x.data fun c => K (.fz (.bool (!c))) δ1
noncomputable def mIf (t : MTt) (a b : MEt) : MEt := fun δ K => t δ fun c δ1 => if c = true then a δ1 K else b δ1 K
theorem Da.boolInv {H : Hp} {L : Addr → Prop} {v : V} {d : PyData} {k : Bool → Prop} (q : Da G H L v d) (h : asB d k) : ∃ b, v = .bl b ∧ k b := by
  cases q with
  | bl b => exact ⟨b, rfl, h⟩
  | _ => exact h.elim
theorem RE.step {C : MC G} {H H1 H2 : Hp} {σ : St} {δ δ1 δ2 : Zn} {fp fp1 fp2 : Fp} {ex : Addr → Prop} {v : V} {r : OT} {new : List Addr} (S : Stp p H δ fp H1 δ1 fp1) (R : RE C io p' c H1 σ δ1 fp1 ex H2 v r δ2 fp2 new) :
    RE C io (p && p') c H σ δ fp ex H2 v r δ2 fp2 new := ⟨R.rel, S.trans R.stp, R.own, R.nd, fun a m => S.al a (R.fresh a m)⟩
theorem Zux {op} (h : ME X io p c a ma) : ME X io p c (.BoolOp op [a] pos) ma := by
  obtain ⟨_, A, sa⟩ := h
  exact ⟨_, Zz0 A, sa⟩
theorem Zvw (ha : ME X io p c a ma) (hb : ME X io p' c' (.BoolOp .And (b :: rest) pos) mb) : ME X io (p && p') c' (.BoolOp .And (a :: b :: rest) pos) (Z00 ma mb) := by
  obtain ⟨_, A, sa⟩ := ha
  obtain ⟨_, B, sb⟩ := hb
  exact ⟨_, Zxu A B, fun C H σ δ fp ex K Q R h k => sa C H σ δ fp ex _ _ R h fun H' v r δ' fp' new r1 h1 => by
    obtain ⟨b, rfl, h1⟩ := (r1.da R).boolInv h1
    refine ⟨b, rfl, ?_⟩
    cases b with
    | true =>
      rw [if_pos rfl] at h1 ⊢
      exact sb C H' σ δ' fp' ex _ _ r1.base h1 fun H2 w r2 δ2 fp2 new2 R2 h2 => k H2 w r2 δ2 fp2 new2 (R2.step r1.stp) h2
    | false =>
      rw [if_neg Bool.false_ne_true] at h1 ⊢
      exact k H' _ _ δ' fp' [] (RE.fz r1.base r1.stp.andL (.bl false)) h1⟩
theorem Zxw (ha : ME X io p c a ma) : ME X io p true (.UnaryOp .Not a pos) (Z0f ma) := by
  obtain ⟨_, A, sa⟩ := ha
  exact ⟨_, Z0b A, fun C H σ δ fp ex K Q R h k => sa C H σ δ fp ex _ _ R h fun H' v r δ' fp' new r1 h1 => by
    obtain ⟨b, rfl, h1⟩ := (r1.da R).boolInv h1
    exact ⟨b, rfl, k H' _ _ δ' fp' [] (RE.fz r1.base r1.stp (.bl _)) h1⟩⟩
theorem Stp.cast {p p' : Bool} {H H' : Hp} {δ δ' : Zn} {fp fp' : Fp} (h : p' = true → p = true) (S : Stp p H δ fp H' δ' fp') : Stp p' H δ fp H' δ' fp' :=
  ⟨fun b o e q => S.keep b o e (q.imp h id), fun q => S.env (h q), S.grow, S.al⟩
theorem RE.cast {C : MC G} {H H1 : Hp} {σ : St} {δ δ1 : Zn} {fp fp1 : Fp} {ex : Addr → Prop} {v : V} {r : OT} {new : List Addr} (hp : p' = true → p = true) (hc : c' = true → c = true) (R : RE C io p c H σ δ fp ex H1 v r δ1 fp1 new) :
    RE C io p' c' H σ δ fp ex H1 v r δ1 fp1 new := ⟨R.rel, R.stp.cast hp, R.own.wide fun a l _ z => l (hc z), R.nd, R.fresh⟩
theorem Z7y {t : Expr} (ht : MT X io p t ta) (ha : ME X io p' c a ma) (hb : ME X io p'' c' b mb) : ME X io (p && (p' && p'')) (c && c') (.IfExp t a b pos) (mIf ta ma mb) := by
  obtain ⟨_, T, st⟩ := ht
  obtain ⟨_, A, sa⟩ := ha
  obtain ⟨_, B, sb⟩ := hb
  exact ⟨_, Zrh T A B, fun C H σ δ fp ex K Q R h k => st C H σ δ fp ex _ _ R h fun H' b δ' fp' R' S h' => by
    cases b with
    | true =>
      rw [if_pos rfl] at h' ⊢
      exact sa C H' σ δ' fp' ex _ _ R' h' fun H2 w r2 δ2 fp2 new2 R2 h2 => k H2 w r2 δ2 fp2 new2 ((R2.step S).cast (fun z => by simp at z; simp [z]) (fun z => by simp at z; exact z.1)) h2
    | false =>
      rw [if_neg Bool.false_ne_true] at h' ⊢
      exact sb C H' σ δ' fp' ex _ _ R' h' fun H2 w r2 δ2 fp2 new2 R2 h2 => k H2 w r2 δ2 fp2 new2 ((R2.step S).cast (fun z => by simp at z; simp [z]) (fun z => by simp at z; exact z.2)) h2⟩
end
section
variable {X : Cx} {io : List Nat} {p p' p'' c c' : Bool} {e a b : Expr} {m ma mb : MEt} {es rest : List Expr} {mr : MAt} {pos : Pos}
noncomputable def Z4q : MAt := fun δ K => K [] δ
noncomputable def Zzn (m : MEt) (mr : MAt) : MAt := fun δ K => m δ fun r δ1 => mr δ1 fun rs δ2 => K (r :: rs) δ2
theorem Zi : MA X io true true [] Z4q := ⟨_, Zl2, fun C H σ δ fp ex K Q R h k => k H [] [] δ fp [] ⟨R.drop fun a z => Zdo.mp z, .refl _ _ _ _, .nil, .nil, fun a m => nomatch m⟩ h⟩
theorem Zvo (ha : ME X io p c e m) (hr : MA X io p' c' es mr) (hc : p' = true ∨ c = true) (hs : starEach (e :: es) X.env = (false, eval e X.env) :: starEach es X.env := by rfl) : MA X io (p && p') (c && c') (e :: es) (Zzn m mr) := by
  obtain ⟨tA, A, sa⟩ := ha
  obtain ⟨tB, B, sb⟩ := hr
  refine ⟨_, Zg9 A B hs, fun C H σ δ fp ex K Q R h k => ?_⟩
  refine sa C H σ δ fp ex _ _ R h fun H1 x u δ1 fp1 new1 r1 h1 => ?_
  refine sb C H1 σ δ1 fp1 (exu ex new1) _ _ r1.rel h1 fun H2 ys us δ2 fp2 new2 r2 h2 => ?_
  have o1 := r1.rel.own_step (ex' := exu (exu ex new1) new2) r2.stp (c := c) hc (fun a z => z.imp id fun z => r2.fresh a z) (fun a m => .inr m) r1.own
  have eqx : ∀ a, exu ex (new1 ++ new2) a → exu (exu ex new1) new2 a := fun a z => by
    rcases z with z | z
    · exact .inl (.inl z)
    · rcases List.mem_append.mp z with z | z
      · exact .inl (.inr z)
      · exact .inr z
  refine k H2 (x :: ys) (u :: us) δ2 fp2 (new1 ++ new2) ⟨r2.rel.drop eqx, r1.stp.trans r2.stp, .cons (o1.wide fun a l _ z => ?_) (r2.own.wide fun a l _ z => ?_), ?_, ?_⟩ h2
  · have l := l (by rw [Bool.and_eq_true] at z; exact z.1)
    exact ⟨l.1, fun w => l.2.1 (eqx a w), l.2.2⟩
  · have l := l (by rw [Bool.and_eq_true] at z; exact z.2)
    exact ⟨l.1, fun w => l.2.1 (eqx a w), l.2.2⟩
  · refine List.nodup_append.mpr ⟨r1.nd, r2.nd, fun a m b m' z => ?_⟩
    subst z
    obtain ⟨xs, e⟩ := r1.own.some a m
    rw [r2.fresh a m'] at e
    cases e
  · intro a m
    rcases List.mem_append.mp m with m | m
    · exact r1.fresh a m
    · exact r1.stp.al a (r2.fresh a m)
noncomputable def Z5f (m : MAt) : MEt := fun δ K => m δ fun rs δ' => rs.length ≤ sizeLine ∧ K (.fz (.tuple (OT.datas rs))) δ'
noncomputable def Z4z (m : MAt) : MEt := fun δ K => m δ fun rs δ' => rs.length ≤ sizeLine ∧ K (.nd rs) δ'
theorem Zd9 {x1} (h : MA X io p c es mr) : ME X io p c (.Tuple es x1 pos) (Z5f mr) := by
  obtain ⟨tA, A, sa⟩ := h
  refine ⟨_, Z0j A, fun C H σ δ fp ex K Q R h k => ?_⟩
  refine sa C H σ δ fp ex _ _ R h fun H1 vs rs δ1 fp1 new1 r1 h1 => ⟨by rw [r1.own.length]; exact h1.1, fun q hq => ?_⟩
  have s := Wi hq (.tup vs)
  have R1 := r1.base
  have S := r1.stp.trans (p' := true) (Stp.same (p := true) (δ := δ1) (fp := fp1) s s.al)
  rw [Bool.and_true] at S
  refine k _ _ _ δ1 fp1 [] (.fz ?_ S (.tup Y7 ((r1.das R).same s))) h1.2
  exact (R1.made (new := []) s fun a m => nomatch m).drop fun a z => .inl z
theorem Zg7 (h : MA X io p c es mr) : ME X io p c (.List es pos) (Z4z mr) := by
  obtain ⟨tA, A, sa⟩ := h
  refine ⟨_, Ztg A, fun C H σ δ fp ex K Q R h k => ?_⟩
  refine sa C H σ δ fp ex _ _ R h fun H1 vs rs δ1 fp1 new1 r1 h1 => ⟨by rw [r1.own.length]; exact h1.1, fun q hq => ?_⟩
  have s := Wi hq (.lst vs)
  have S := r1.stp.trans (p' := true) (Stp.same (p := true) (δ := δ1) (fp := fp1) s s.al)
  rw [Bool.and_true] at S
  have hqn : q ∉ new1 := fun m => by
    obtain ⟨xs, e⟩ := r1.own.some q m
    rw [hq] at e; cases e
  have R2 := (r1.rel.made (new := [q]) s fun a m => by
    rcases List.mem_singleton.mp m with rfl
    exact ⟨hq, by rw [Y7]; intro z; cases z⟩)
  have eqx : ∀ a, exu ex (q :: new1) a → exu (exu ex new1) [q] a := fun a z => by
    rcases z with z | z
    · exact .inl (.inl z)
    · rcases List.mem_cons.mp z with z | z
      · exact .inr (List.mem_singleton.mpr z)
      · exact .inl (.inr z)
  refine k _ _ _ δ1 fp1 (q :: new1) ⟨R2.drop eqx, S, .nd Y7 ((r1.own.wide fun a l w z => ?_).same s), List.nodup_cons.mpr ⟨hqn, r1.nd⟩, fun a m => ?_⟩ h1.2
  · have l := l z
    refine ⟨l.1, fun y => ?_, l.2.2⟩
    rcases eqx a y with y | y
    · exact l.2.1 y
    · rcases List.mem_singleton.mp y with rfl
      exact w hq
  · rcases List.mem_cons.mp m with rfl | m
    · exact r1.stp.al _ hq
    · exact r1.fresh a m
end
end L2
namespace L2
open PySem PySem.Spec PyProof.Rows
variable {G : PySem.W.Frag}
noncomputable def spD (G : PySem.W.Frag) (S : List PyData → (OT → Prop) → Prop) : Sp := fun vs H Q _ => ∃ L ds k, Das G H L vs ds ∧ S ds k ∧
  ∀ r v H' new, k r → Same H H' → Own G H' (fun a => (L a ∨ H a = none) ∧ a ∉ new) v r new → new.Nodup → (∀ a ∈ new, H a = none) → Q v H'
section
variable {X : Cx} {io : List Nat} {p p' p'' c c' : Bool} {e a b : Expr} {m ma mb : MEt} {es rest : List Expr} {mr : MAt} {pos : Pos}
variable {CX : CXT} {k : Nat} {f : Addr} {fd : FuncData} {ps : List Str} {E : XK} {x : Str} {pp : Pos}
noncomputable def Zvy (S : List PyData → (OT → Prop) → Prop) (mr : MAt) : MEt := fun δ K => mr δ fun rs δ1 => S (OT.datas rs) fun r => K r δ1
theorem Z34 {S} {t : TA} (sa : SA G io p c t mr) : SE G io p c (Zym (spD G S) [] E t) (Zvy S mr) := by
  intro C H σ δ fp ex K Q R h kk
  refine sa C H σ δ fp ex _ _ R h fun H1 vs rs δ1 fp1 new1 r1 h1 => ?_
  rw [List.append_nil]
  refine ⟨_, _, _, r1.das R, h1, fun r v H' new kr s o nd hn => ?_⟩
  exact kk H' v r δ1 fp1 new (RE.tree R r1.base r1.stp s hn nd o) kr
theorem Zx {S} (F : FnOk X.prog X.w X.K X.mg X.base CX k f fd ps (spD X.K S)) (hr : Room k X.A) (hg : Gl X x) (hm : X.mg x = some (.ref f)) (hk : PySem.W.keepIn X.K (.ref f) = true) (hb : Binds X.K fd ps []) (hx : Zmo CX X E)
    (ha : MA X io p c (e :: es) mr) (hdb : (x == ("__debug__" : Str)) = false := by decide) (he : starEach (e :: es) X.env = (false, eval e X.env) :: starEach es X.env := by rfl) (hpl : (backTo pos (starEach es X.env)).any (·.1) = false := by rfl) :
    ME X io p c (.Call (.Name x pp) (e :: es) [] pos) (Zvy S mr) := by
  obtain ⟨_, A, sa⟩ := ha
  exact ⟨_, Zxd F hr hg hm hk hb .nil hx A hdb he hpl, Z34 sa⟩
noncomputable def fpu (fp : Fp) (i : Nat) (as : List Addr) : Fp := fun j => if j = i then as else fp j
theorem Y5 {fp : Fp} {i : Nat} {as : List Addr} : fpu fp i as i = as := if_pos rfl
theorem W0 {fp : Fp} {i j : Nat} {as : List Addr} (h : j ≠ i) : fpu fp i as j = fp j := if_neg h
theorem Foot.of_u {fp : Fp} {i : Nat} {as : List Addr} {a : Addr} (h : Foot (fpu fp i as) a) : a ∈ as ∨ ∃ j, j ≠ i ∧ a ∈ fp j := by
  obtain ⟨j, h⟩ := h
  by_cases e : j = i
  · subst e; rw [Y5] at h; exact .inl h
  · rw [W0 e] at h; exact .inr ⟨j, e, h⟩
theorem Rel.change {C : MC G} {H H' : Hp} {σ : St} {δ : Zn} {fp : Fp} {ex : Addr → Prop} {i : Nat} {t t' : OT} {v : V} {as' new : List Addr} (R : Rel C io H σ δ fp ex) (hi : δ[i]? = some (some t)) (hv : σ[i]? = some (some v))
    (keep : ∀ b o, H b = some o → b ∉ fp i → H' b = some o) (al : ∀ b, H' b = none → H b = none) (o : Own G H' (Lf C (fpu fp i as') (exu ex new)) v t' as') (nd : as'.Nodup) (new' : ∀ a ∈ as', a ∈ fp i ∨ H a = none)
    (hn : ∀ a ∈ new, H a = none ∧ H' a ≠ none ∧ a ∉ as') :
    Rel C io H' σ (δ.set i (some t')) (fpu fp i as') (exu ex new) ∧ Stp false H δ fp H' (δ.set i (some t')) (fpu fp i as') := by
  have hil : i < δ.length := (List.getElem?_eq_some_iff.mp hi).1
  have apart : ∀ j a, j ≠ i → a ∈ fp j → a ∉ as' := fun j a e m z => by
    rcases new' a z with z | z
    · exact e (R.dj j i a m z)
    · exact R.footSome z ⟨j, m⟩
  constructor
  · refine ⟨by rw [List.length_set]; exact R.len, fun j t'' e => ?_, fun j h => ?_, fun j => ?_, fun j k a h1 h2 => ?_, fun j a h z => ?_, fun a z w => z.elim (fun z => R.xa a z (al a w)) (fun z => (hn a z).2.1 w), fun b ob e n => ?_, fun b z => R.al b (al b z), fun j a h => ?_, R.io⟩
    · by_cases ej : j = i
      · subst ej
        rw [List.getElem?_set_self hil] at e
        cases e
        exact ⟨v, hv, by rw [Y5]; exact o⟩
      · rw [List.getElem?_set_ne (Ne.symm ej)] at e
        obtain ⟨w, e1, o1⟩ := R.own j t'' e
        refine ⟨w, e1, ?_⟩
        rw [W0 ej]
        refine o1.frame (fun a xs l q => ?_) (fun a xs q => keep a _ q fun z => ?_) fun a m xs q => keep a _ q fun z => ej (R.dj j i a m z)
        · have na : a ∉ fp i := fun z => l.1 ⟨i, z⟩
          refine ⟨⟨fun z => ?_, fun z => z.elim l.2.1 fun z => q.some (hn a z).1, l.2.2⟩, ?_⟩
          · rcases z.of_u with z | ⟨k, _, z⟩
            · rcases new' a z with z | z
              · exact na z
              · exact q.some z
            · exact l.1 ⟨k, z⟩
          · rcases q with q | ⟨u, q⟩
            · exact .inl (keep a _ q na)
            · exact .inr ⟨u, keep a _ q na⟩
        · obtain ⟨ys, e⟩ := R.foot ⟨i, z⟩
          exact ImO.nl q e
    · by_cases ej : j = i
      · subst ej
        exact absurd (List.getElem?_set_self hil) (h t')
      · rw [W0 ej]
        refine R.emp j fun t'' z => h t'' ?_
        rw [List.getElem?_set_ne (Ne.symm ej)]
        exact z
    · by_cases ej : j = i
      · subst ej; rw [Y5]; exact nd
      · rw [W0 ej]; exact R.nd j
    · by_cases ej : j = i
      · subst ej
        rw [Y5] at h1
        by_cases ek : k = j
        · exact ek.symm
        · rw [W0 ek] at h2
          exact absurd h1 (apart k a ek h2)
      · rw [W0 ej] at h1
        by_cases ek : k = i
        · subst ek
          rw [Y5] at h2
          exact absurd h2 (apart j a ej h1)
        · rw [W0 ek] at h2
          exact R.dj j k a h1 h2
    · by_cases ej : j = i
      · subst ej
        rw [Y5] at h
        rcases z with z | z
        · rcases new' a h with w | w
          · exact R.dx _ a w z
          · exact R.xa a z w
        · exact (hn a z).2.2 h
      · rw [W0 ej] at h
        rcases z with z | z
        · exact R.dx j a h z
        · exact R.footSome (hn a z).1 ⟨j, h⟩
    · refine keep b ob (R.fr b ob e n) fun z => ?_
      rcases R.new i b z with w | w
      · exact n w.2
      · rw [e] at w; cases w
    · by_cases ej : j = i
      · subst ej
        rw [Y5] at h
        rcases new' a h with w | w
        · exact R.new _ a w
        · exact .inr (R.al a w)
      · rw [W0 ej] at h
        exact R.new j a h
  · refine ⟨fun b ob e q => keep b ob e fun z => (q.resolve_left (by decide)) ⟨i, z⟩, fun z => (nomatch z), fun a z => ?_, al⟩
    rcases z.of_u with z | ⟨j, _, z⟩
    · exact (new' a z).imp (fun w => ⟨i, w⟩) id
    · exact .inl ⟨j, z⟩
noncomputable def PNs (G : PySem.W.Frag) (r : List V → Hp → VK → Prop) (rp : List PyData → (PyData → Prop) → Prop) : Prop := ∀ (H : Hp) (L : Addr → Prop) (xs : List V) (ds : List PyData) (k : PyData → Prop) (Q : VK), Das G H L xs ds → rp ds k → (∀ v d', ScD v d' → k d' → Q v H) → r xs H Q
noncomputable def PN (G : PySem.W.Frag) (r : List V → Hp → VK → Prop) (rp : List PyData → (OT → Prop) → Prop) : Prop := ∀ (H : Hp) (L : Addr → Prop) (xs : List V) (ds : List PyData) (k : OT → Prop) (Q : VK), Das G H L xs ds → rp ds k →
  (∀ H' v o new, Same H H' → Own G H' (fun a => (L a ∨ H a = none) ∧ a ∉ new) v o new → new.Nodup → (∀ a ∈ new, H a = none) → k o → Q v H') → r xs H Q
noncomputable def Z11 (rp : List PyData → (PyData → Prop) → Prop) (mr : MAt) : MEt := fun δ K => mr δ fun rs δ1 => rp (OT.datas rs) fun d => K (.fz d) δ1
noncomputable def mBl (rp : List PyData → (OT → Prop) → Prop) (mr : MAt) : MEt := fun δ K => mr δ fun rs δ1 => rp (OT.datas rs) fun o => K o δ1
theorem Z4s {r rp} {t : TA} (P : PNs G r rp) (sa : SA G io p c t mr) : SE G io p true (tCB r t) (Z11 rp mr) := fun C H σ δ fp ex K Q R h kk =>
  sa C H σ δ fp ex _ _ R h fun H1 vs rs δ1 fp1 new1 r1 h1 => P H1 _ vs _ _ _ (r1.das R) h1 fun v d' sc h2 => kk H1 v _ δ1 fp1 [] (.fz r1.base r1.stp sc.da) h2
theorem sBl {r rp} {t : TA} (P : PN G r rp) (sa : SA G io p c t mr) : SE G io p c (tCB r t) (mBl rp mr) := fun C H σ δ fp ex K Q R h kk =>
  sa C H σ δ fp ex _ _ R h fun H1 vs rs δ1 fp1 new1 r1 h1 => P H1 _ vs _ _ _ (r1.das R) h1 fun H' v o new s ow nd hn h2 => kk H' v o δ1 fp1 new (RE.tree R r1.base r1.stp s hn nd ow) h2
variable {id T : String} {r : List V → Hp → VK → Prop}
theorem Zf4 {rp} (P : PNs X.K r rp) (hc : Zfq X (.builtin id) r) (hg : Gl X x) (hm : X.mg x = none) (hv : bootBuiltins x = some (.builtin id)) (ha : MA X io p c (e :: es) mr) (hn : x ≠ "__name__" := by decide) (hdb : (x == ("__debug__" : Str)) = false := by decide)
    (he : starEach (e :: es) X.env = (false, eval e X.env) :: starEach es X.env := by rfl) (hpl : (backTo pos (starEach es X.env)).any (·.1) = false := by rfl) : ME X io p true (.Call (.Name x pp) (e :: es) [] pos) (Z11 rp mr) := by
  obtain ⟨_, A, sa⟩ := ha
  exact ⟨_, Ziu hc hg hm hv A hn hdb he hpl, Z4s P sa⟩
theorem Z6w {rp} (P : PN X.K r rp) (hc : Zfq X (.builtin id) r) (hg : Gl X x) (hm : X.mg x = none) (hv : bootBuiltins x = some (.builtin id)) (ha : MA X io p c (e :: es) mr) (hn : x ≠ "__name__" := by decide) (hdb : (x == ("__debug__" : Str)) = false := by decide)
    (he : starEach (e :: es) X.env = (false, eval e X.env) :: starEach es X.env := by rfl) (hpl : (backTo pos (starEach es X.env)).any (·.1) = false := by rfl) : ME X io p c (.Call (.Name x pp) (e :: es) [] pos) (mBl rp mr) := by
  obtain ⟨_, A, sa⟩ := ha
  exact ⟨_, Ziu hc hg hm hv A hn hdb he hpl, sBl P sa⟩
theorem Z46 {rp} (P : PN X.K r rp) (hc : Zfq X (.type T) r) (hg : Gl X x) (hm : X.mg x = none) (hv : bootBuiltins x = some (.type T)) (ha : MA X io p c (e :: es) mr) (hn : x ≠ "__name__" := by decide) (hdb : (x == ("__debug__" : Str)) = false := by decide)
    (he : starEach (e :: es) X.env = (false, eval e X.env) :: starEach es X.env := by rfl) (hpl : (backTo pos (starEach es X.env)).any (·.1) = false := by rfl) : ME X io p c (.Call (.Name x pp) (e :: es) [] pos) (mBl rp mr) := by
  obtain ⟨_, A, sa⟩ := ha
  exact ⟨_, Zoe hc hg hm hv A hn hdb he hpl, sBl P sa⟩
end
end L2
namespace L2
open PySem PySem.Spec PyProof.Rows
variable {G : PySem.W.Frag}
mutual
noncomputable def Zdb : PyData → Bool
  | .none => true
  | .bool _ => true
  | .int _ => true
  | .str _ => true
  | .tuple ds => Zjl ds
  | .list _ => false
  | .dict _ => false
noncomputable def Zjl : List PyData → Bool
  | [] => true
  | d :: ds => Zdb d && Zjl ds
end
theorem Da.flat2 {H : Hp} {L L' : Addr → Prop} : (∀ {v : V} {d : PyData}, Da G H L v d → Zdb d = true → Da G H L' v d) ∧ ∀ {v : List V} {d : List PyData}, Das G H L v d → Zjl d = true → Das G H L' v d :=
  Da.both (fun _ => .non) (fun b _ => .bl b) (fun i _ => .int i) (fun x _ => .str x) (fun _ _ _ h => by rw [Zdb] at h; cases h) (fun e r h => .tup e (r (by rw [Zdb] at h; exact h))) (fun k _ => .scr k) (fun c n e _ => .exc c n e) (fun k _ => .fn k) (fun _ => .nil)
    (fun k r h => by rw [Zjl, Bool.and_eq_true] at h; exact .cons (k h.1) (r h.2))
theorem Da.flat {H : Hp} {L L' : Addr → Prop} {v : V} {d : PyData} (h : Da G H L v d) (f : Zdb d = true) : Da G H L' v d := Da.flat2.1 h f
set_option genInjectivity false in
structure Zh0 where
  nx : Zn → Prop
  rt : OT → Zn → Prop
  bk : Zn → Prop := fun _ => False
  ct : Zn → Prop := fun _ => False
noncomputable abbrev MSt := Zh0 → Zn → Prop
noncomputable abbrev Kp (H : Hp) (fp : Fp) (H' : Hp) (fp' : Fp) : Prop := Stp false H [] fp H' [] fp'
theorem Stp.kp {p : Bool} {H H' : Hp} {δ δ' : Zn} {fp fp' : Fp} (S : Stp p H δ fp H' δ' fp') : Kp H fp H' fp' := ⟨fun b o e q => S.keep b o e (.inr (q.resolve_left (by decide))), fun z => (nomatch z), S.grow, S.al⟩
theorem Kp.trans {H H1 H2 : Hp} {fp fp1 fp2 : Fp} (a : Kp H fp H1 fp1) (b : Kp H1 fp1 H2 fp2) : Kp H fp H2 fp2 := Stp.trans a b
theorem Kp.refl (H : Hp) (fp : Fp) : Kp H fp H fp := Stp.refl _ _ _ _
structure RelEnds (C : MC G) (io : List Nat) (ex : Addr → Prop) (H : Hp) (fp : Fp) (D : Zh0) (D' : Ends) : Prop where
  nx : ∀ H' σ' δ' fp', Rel C io H' σ' δ' fp' ex → Kp H fp H' fp' → D.nx δ' → D'.nx σ' H'
  bk : ∀ H' σ' δ' fp', Rel C io H' σ' δ' fp' ex → Kp H fp H' fp' → D.bk δ' → D'.bk σ' H'
  ct : ∀ H' σ' δ' fp', Rel C io H' σ' δ' fp' ex → Kp H fp H' fp' → D.ct δ' → D'.ct σ' H'
  rt : ∀ H' σ' v r δ' fp' new, Rel C io H' σ' δ' fp' (exu ex new) → Own G H' (Lf C fp' (exu ex new)) v r new → new.Nodup → (∀ a ∈ new, C.H₀ a = none) → D.rt r δ' → D'.rt v H'
theorem RelEnds.shift {C : MC G} {io : List Nat} {ex : Addr → Prop} {H H1 : Hp} {fp fp1 : Fp} {D : Zh0} {D' : Ends} (E : RelEnds C io ex H fp D D') (k : Kp H fp H1 fp1) : RelEnds C io ex H1 fp1 D D' :=
  ⟨fun H' σ' δ' fp' R q => E.nx H' σ' δ' fp' R (k.trans q), fun H' σ' δ' fp' R q => E.bk H' σ' δ' fp' R (k.trans q), fun H' σ' δ' fp' R q => E.ct H' σ' δ' fp' R (k.trans q), E.rt⟩
noncomputable def SS (G : PySem.W.Frag) (io : List Nat) (t : TS) (m : MSt) : Prop := ∀ (C : MC G) (H : Hp) (σ : St) (δ : Zn) (fp : Fp) (ex : Addr → Prop) (D : Zh0) (D' : Ends), Rel C io H σ δ fp ex → m D δ → RelEnds C io ex H fp D D' → t D' σ H
noncomputable def MS (X : Cx) (io : List Nat) (st : Stmt) (m : MSt) : Prop := ∃ t, PS X st t ∧ SS X.K io t m
noncomputable def MSs (X : Cx) (io : List Nat) (st : List Stmt) (m : MSt) : Prop := ∃ t, PSs X st t ∧ SS X.K io t m
section
variable {X : Cx} {io : List Nat} {p p' p'' c c' : Bool} {e a b : Expr} {m ma mb : MEt} {es rest : List Expr} {mr : MAt} {pos : Pos} {st : Stmt} {sts : List Stmt} {u w : MSt} {mt : MTt}
noncomputable def Zyt : MSt := fun D δ => D.nx δ
noncomputable def Z7v (w : MSt) (D : Zh0) (δ : Zn) : Prop := w D δ
noncomputable def Z3q (u w : MSt) : MSt := fun D δ => u { D with nx := Z7v w D } δ
theorem Ji : MSs X io [] Zyt := ⟨_, Zv8, fun C H σ δ fp ex D D' R h E => E.nx H σ δ fp R (.refl _ _) h⟩
theorem Zt (h : MS X io st u) : MSs X io [st] u := by
  obtain ⟨_, A, s⟩ := h
  exact ⟨_, Zu3 A, s⟩
theorem Zk (h : MS X io st u) (g : MSs X io sts w) : MSs X io (st :: sts) (Z3q u w) := by
  obtain ⟨_, A, s⟩ := h
  obtain ⟨tb, B, s'⟩ := g
  exact ⟨_, Zrc A B, fun C H σ δ fp ex D D' R h E => s C H σ δ fp ex _ _ R h ⟨fun H1 σ1 δ1 fp1 R1 k1 h1 => s' C H1 σ1 δ1 fp1 ex D D' R1 h1 (E.shift k1), E.bk, E.ct, E.rt⟩⟩
noncomputable def Z0q : MSt := fun _ _ => False
theorem Zs1 : MS X io st Z0q := ⟨_, Zri, fun C H σ δ fp ex D D' R h E => h.elim⟩
noncomputable def Z6j (m : MEt) : MSt := fun D δ => m δ fun r δ' => D.rt r δ'
theorem Y4 (he : ME X io p true e m) : MS X io (.Return (some e) pos) (Z6j m) := by
  obtain ⟨_, A, s⟩ := he
  exact ⟨_, Zua A, fun C H σ δ fp ex D D' R h E => s C H σ δ fp ex _ _ R h fun H' v r δ' fp' new r1 h1 => E.rt H' σ v r δ' fp' new r1.rel (r1.own.wide fun a l _ => l rfl) r1.nd (fun a m => (R.newOk (r1.fresh a m)).2.2) h1⟩
noncomputable def Zrs (i : Nat) : MSt := fun D δ => match δ[i]? with | some (some t) => D.rt t (δ.set i none) | _ => False
theorem Rel.take {C : MC G} {H : Hp} {σ : St} {δ : Zn} {fp : Fp} {ex : Addr → Prop} {i : Nat} {t : OT} (R : Rel C io H σ δ fp ex) (hi : δ[i]? = some (some t)) : Rel C io H σ (δ.set i none) (fpu fp i []) (exu ex (fp i)) := by
  have hil : i < δ.length := (List.getElem?_eq_some_iff.mp hi).1
  have get : ∀ j (t' : OT), (δ.set i none)[j]? = some (some t') → j ≠ i ∧ δ[j]? = some (some t') := fun j t' e => by
    by_cases ej : j = i
    · subst ej; rw [List.getElem?_set_self hil] at e; cases e
    · rw [List.getElem?_set_ne (Ne.symm ej)] at e; exact ⟨ej, e⟩
  have sub : ∀ j a, a ∈ fpu fp i [] j → j ≠ i ∧ a ∈ fp j := fun j a m => by
    by_cases ej : j = i
    · subst ej; rw [Y5] at m; exact nomatch m
    · rw [W0 ej] at m; exact ⟨ej, m⟩
  have lw : ∀ a, Lf C fp ex a → Lf C (fpu fp i []) (exu ex (fp i)) a := fun a l => ⟨fun ⟨j, z⟩ => l.1 ⟨j, (sub j a z).2⟩, fun z => z.elim l.2.1 fun z => l.1 ⟨i, z⟩, l.2.2⟩
  refine ⟨by rw [List.length_set]; exact R.len, fun j t' e => ?_, fun j h => ?_, fun j => ?_, fun j k a h1 h2 => R.dj j k a (sub j a h1).2 (sub k a h2).2, fun j a h z => ?_, fun a z w => ?_, R.fr, R.al, fun j a h => R.new j a (sub j a h).2, R.io⟩
  · obtain ⟨ej, e⟩ := get j t' e
    obtain ⟨w, e1, o⟩ := R.own j t' e
    exact ⟨w, e1, by rw [W0 ej]; exact o.wide fun a l _ => lw a l⟩
  · by_cases ej : j = i
    · subst ej; rw [Y5]
    · rw [W0 ej]
      exact R.emp j fun t' z => h t' (by rw [List.getElem?_set_ne (Ne.symm ej)]; exact z)
  · by_cases ej : j = i
    · subst ej; rw [Y5]; exact .nil
    · rw [W0 ej]; exact R.nd j
  · obtain ⟨ej, h⟩ := sub j a h
    rcases z with z | z
    · exact R.dx j a h z
    · exact ej (R.dj j i a h z)
  · rcases z with z | z
    · exact R.xa a z w
    · exact R.footSome w ⟨i, z⟩
theorem Zdh (i : Nat) {x : Str} {px : Pos} (hio : i ∉ io := by decide) (hN : X.N[i]? = some x := by rfl) (hv : Vis X.env.scope x := by first | exact Or.inl rfl | exact Or.inr (Or.inl rfl) | exact Or.inr (Or.inr rfl)) (hd : (x == ("__debug__" : Str)) = false := by decide)
    (hcd : (x == ("__classdict__" : Str)) = false := by decide) : MS X io (.Return (some (.Name x px)) pos) (Zrs i) := by
  refine ⟨_, Zua (pv i hN hv hd hcd), fun C H σ δ fp ex D D' R h E => ?_⟩
  unfold Zrs at h
  split at h
  case h_2 => exact h.elim
  rename_i t hi
  obtain ⟨v, e, o⟩ := R.own i t hi
  have lw : ∀ a, Lf C fp ex a → H a ≠ none → Lf C (fpu fp i []) (exu ex (fp i)) a := fun a l _ => ⟨fun z => by
    rcases z.of_u with z | ⟨j, _, z⟩
    · exact nomatch z
    · exact l.1 ⟨j, z⟩, fun z => z.elim l.2.1 fun z => l.1 ⟨i, z⟩, l.2.2⟩
  have hn : ∀ a ∈ fp i, C.H₀ a = none := fun a m => by
    rcases R.new i a m with z | z
    · exact absurd z.1 hio
    · exact z
  exact ⟨v, e, E.rt H σ v t _ _ (fp i) (R.take hi) (o.wide lw) (R.nd i) hn h⟩
noncomputable def Z43 (t : MTt) (u w : MSt) : MSt := fun D δ => t δ fun b δ' => if b = true then u D δ' else w D δ'
theorem Zd4 {cnd : Expr} {ss ss' : List Stmt} (hc : MT X io p cnd mt) (ha : MSs X io ss u) (hb : MSs X io ss' w) : MS X io (.If cnd ss ss' pos) (Z43 mt u w) := by
  obtain ⟨_, T, s⟩ := hc
  obtain ⟨_, A, sa⟩ := ha
  obtain ⟨_, B, sb⟩ := hb
  exact ⟨_, Z3i T A B, fun C H σ δ fp ex D D' R h E => s C H σ δ fp ex _ _ R h fun H' b δ' fp' R' S h' => by
    cases b with
    | true =>
      rw [if_pos rfl] at h' ⊢
      exact sa C H' σ δ' fp' ex D D' R' h' (E.shift S.kp)
    | false =>
      rw [if_neg Bool.false_ne_true] at h' ⊢
      exact sb C H' σ δ' fp' ex D D' R' h' (E.shift S.kp)⟩
theorem Rel.put {C : MC G} {H : Hp} {σ : St} {δ : Zn} {fp : Fp} {ex : Addr → Prop} {i : Nat} {v : V} {r : OT} {new : List Addr} (R : Rel C io H σ δ fp (exu ex new)) (hio : i ∉ io) (o : Own G H (Lf C fp (exu ex new)) v r new) (nd : new.Nodup)
    (hn : ∀ a ∈ new, C.H₀ a = none ∧ ¬ ex a) : ∃ fp', Rel C io H (σ.set i (some v)) (δ.set i (some r)) fp' ex ∧ ∀ a, Foot fp' a → Foot fp a ∨ a ∈ new := by
  by_cases hil : i < δ.length
  case neg =>
    refine ⟨fp, ?_, fun a h => .inl h⟩
    have hl := R.len
    rw [List.set_eq_of_length_le (show δ.length ≤ i by omega), List.set_eq_of_length_le (show σ.length ≤ i by omega)]
    exact R.drop fun a z => .inl z
  have hsl : i < σ.length := by rw [R.len]; exact hil
  have sub : ∀ a, Foot (fpu fp i new) a → Foot fp a ∨ a ∈ new := fun a z => by
    rcases z.of_u with z | ⟨j, _, z⟩
    · exact .inr z
    · exact .inl ⟨j, z⟩
  have lw : ∀ a, Lf C fp (exu ex new) a → Lf C (fpu fp i new) ex a := fun a l => ⟨fun z => (sub a z).elim l.1 fun z => l.2.1 (.inr z), fun z => l.2.1 (.inl z), l.2.2⟩
  refine ⟨fpu fp i new, ⟨by rw [List.length_set, List.length_set]; exact R.len, fun j t' e => ?_, fun j h => ?_, fun j => ?_, fun j k a h1 h2 => ?_, fun j a h z => ?_, fun a z => R.xa a (.inl z), R.fr, R.al, fun j a h => ?_, fun j hj => ?_⟩, sub⟩
  · by_cases ej : j = i
    · subst ej
      rw [List.getElem?_set_self hil] at e
      cases e
      exact ⟨v, List.getElem?_set_self hsl, by rw [Y5]; exact o.wide fun a l _ => lw a l⟩
    · rw [List.getElem?_set_ne (Ne.symm ej)] at e
      obtain ⟨w, e1, o1⟩ := R.own j t' e
      exact ⟨w, by rw [List.getElem?_set_ne (Ne.symm ej)]; exact e1, by rw [W0 ej]; exact o1.wide fun a l _ => lw a l⟩
  · by_cases ej : j = i
    · subst ej; exact absurd (List.getElem?_set_self hil) (h r)
    · rw [W0 ej]
      exact R.emp j fun t' z => h t' (by rw [List.getElem?_set_ne (Ne.symm ej)]; exact z)
  · by_cases ej : j = i
    · subst ej; rw [Y5]; exact nd
    · rw [W0 ej]; exact R.nd j
  · by_cases ej : j = i
    · subst ej
      rw [Y5] at h1
      by_cases ek : k = j
      · exact ek.symm
      · rw [W0 ek] at h2
        exact absurd (.inr h1) (R.dx k a h2)
    · rw [W0 ej] at h1
      by_cases ek : k = i
      · subst ek
        rw [Y5] at h2
        exact absurd (.inr h2) (R.dx j a h1)
      · rw [W0 ek] at h2
        exact R.dj j k a h1 h2
  · by_cases ej : j = i
    · subst ej
      rw [Y5] at h
      exact (hn a h).2 z
    · rw [W0 ej] at h
      exact R.dx j a h (.inl z)
  · by_cases ej : j = i
    · subst ej
      rw [Y5] at h
      exact .inr (hn a h).1
    · rw [W0 ej] at h
      exact R.new j a h
  · have ej : j ≠ i := fun z => hio (z ▸ hj)
    rw [List.getElem?_set_ne (Ne.symm ej)]
    exact R.io j hj
theorem RE.put {C : MC G} {H H' : Hp} {σ : St} {δ δ' : Zn} {fp fp' : Fp} {ex : Addr → Prop} {i : Nat} {v : V} {r : OT} {new : List Addr} (R : RE C io p true H σ δ fp ex H' v r δ' fp' new) (R0 : Rel C io H σ δ fp ex) (hio : i ∉ io) :
    ∃ fp2, Rel C io H' (σ.set i (some v)) (δ'.set i (some r)) fp2 ex ∧ Kp H fp H' fp2 := by
  obtain ⟨fp2, R2, g⟩ := R.rel.put hio (R.own.wide fun a l _ => l rfl) R.nd fun a m => ⟨(R0.newOk (R.fresh a m)).2.2, (R0.newOk (R.fresh a m)).2.1⟩
  refine ⟨fp2, R2, fun b o e q => R.stp.keep b o e (.inr (q.resolve_left (by decide))), fun z => (nomatch z), fun a z => ?_, R.stp.al⟩
  rcases g a z with z | z
  · exact R.stp.grow a z
  · exact .inr (R.fresh a z)
theorem RE.fzc {C : MC G} {H H' : Hp} {σ : St} {δ δ' : Zn} {fp fp' : Fp} {ex : Addr → Prop} {v : V} {r : OT} {new : List Addr} (R : RE C io p c H σ δ fp ex H' v r δ' fp' new) (R0 : Rel C io H σ δ fp ex) :
    RE C io p c H σ δ fp ex H' v (.fz r.data) δ' fp' [] := .fz R.base R.stp (R.da R0)
theorem RE.fzs {C : MC G} {H H' : Hp} {σ : St} {δ δ' : Zn} {fp fp' : Fp} {ex : Addr → Prop} {v : V} {r : OT} {new : List Addr} (R : RE C io p c H σ δ fp ex H' v r δ' fp' new) (R0 : Rel C io H σ δ fp ex) (h : Zdb r.data = true) :
    RE C io p true H σ δ fp ex H' v (.fz r.data) δ' fp' [] := .fz R.base R.stp ((R.da R0).flat h)
noncomputable def Zxr (i : Nat) (m : MEt) : MSt := fun D δ => m δ fun r δ' => D.nx (δ'.set i (some (.fz r.data)))
noncomputable def Zns (i : Nat) (m : MEt) : MSt := fun D δ => m δ fun r δ' => D.nx (δ'.set i (some r))
section
variable {i : Nat} {x : Str} {px : Pos}
theorem Z5z {t : TE} (s : SE G io p true t m) (hio : i ∉ io) : SS G io (Z0n t (Zqf i)) (Zxr i m) := fun C H σ δ fp ex D D' R h E => s C H σ δ fp ex _ _ R h fun H' v r δ' fp' new r1 h1 => by
  obtain ⟨fp2, R2, k2⟩ := (r1.fzc R).put R hio
  exact E.nx H' _ _ fp2 R2 k2 h1
theorem Zyz {t : TE} (s : SE G io p true t m) (hio : i ∉ io) : SS G io (Z0n t (Zqf i)) (Zns i m) := fun C H σ δ fp ex D D' R h E => s C H σ δ fp ex _ _ R h fun H' v r δ' fp' new r1 h1 => by
  obtain ⟨fp2, R2, k2⟩ := r1.put R hio
  exact E.nx H' _ _ fp2 R2 k2 h1
theorem Yh (hN : X.N.Nodup) (hi : X.N[i]? = some x) (hx : Loc X.env.scope x) (he : ME X io p true e m) (hio : i ∉ io := by decide) (hs : swapsWith e (some (.Name x px)) pos.line X.env = pure false := by rfl) (hf : X.fn x = true ∨ X.env.scope.names.lookup x = some .local := by first | exact .inl rfl | exact .inr rfl | assumption) :
    MS X io (.Assign [.Name x px] e pos) (Zxr i m) := by
  obtain ⟨_, A, s⟩ := he
  exact ⟨_, Zt3 hN hi hx A hs hf, Z5z s hio⟩
theorem Zeq (hN : X.N.Nodup) (hi : X.N[i]? = some x) (hx : Loc X.env.scope x) (he : ME X io p true e m) (hio : i ∉ io := by decide) (hs : swapsWith e (some (.Name x px)) pos.line X.env = pure false := by rfl) (hf : X.fn x = true ∨ X.env.scope.names.lookup x = some .local := by first | exact .inl rfl | exact .inr rfl | assumption) :
    MS X io (.Assign [.Name x px] e pos) (Zns i m) := by
  obtain ⟨_, A, s⟩ := he
  exact ⟨_, Zt3 hN hi hx A hs hf, Zyz s hio⟩
end
noncomputable def Zug (t : MTt) (u : MSt) : MSt := fun D δ => ∃ W : Nat → Zn → Prop, (∃ n, W n δ) ∧ ∀ n δ, W n δ → t δ fun b δ' => if b = true then ∃ N : Zn → Prop, (∀ δ', N δ' → ∃ n', n' < n ∧ W n' δ') ∧ u { D with nx := N, ct := N, bk := D.nx } δ' else D.nx δ'
theorem Zly {cnd : Expr} {ss : List Stmt} (hp : PassesOwn (model X.prog X.w) X.A X.env X.xe) (hc : MT X io p cnd mt) (ha : MSs X io ss u) : MS X io (.While cnd ss [] pos) (Zug mt u) := by
  obtain ⟨_, T, s⟩ := hc
  obtain ⟨_, A, sa⟩ := ha
  refine ⟨_, Zrv hp T A, fun C H σ δ fp ex D D' R h E => ?_⟩
  obtain ⟨W, ⟨n0, w0⟩, turn⟩ := h
  refine ⟨fun n σ' H' => ∃ δ' fp', Rel C io H' σ' δ' fp' ex ∧ Kp H fp H' fp' ∧ W n δ', ⟨n0, δ, fp, R, .refl _ _, w0⟩, ?_⟩
  rintro n σ1 H1 ⟨δ1, fp1, R1, k1, w1⟩
  refine s C H1 σ1 δ1 fp1 ex _ _ R1 (turn n δ1 w1) fun H2 b δ2 fp2 R2 S2 h2 => ?_
  have k2 := k1.trans S2.kp
  cases b with
  | true =>
    rw [if_pos rfl] at h2 ⊢
    obtain ⟨N, hN, h2⟩ := h2
    refine ⟨fun σ' H' => ∃ δ' fp', Rel C io H' σ' δ' fp' ex ∧ Kp H fp H' fp' ∧ N δ', fun σ' H' ⟨δ', fp', R', k', n'⟩ => ?_, ?_⟩
    · obtain ⟨n1, hn1, w1⟩ := hN δ' n'
      exact ⟨n1, hn1, δ', fp', R', k', w1⟩
    · refine sa C H2 σ1 δ2 fp2 ex _ _ R2 h2 ⟨fun H' σ' δ' fp' R' k' n' => ⟨δ', fp', R', k2.trans k', n'⟩, fun H' σ' δ' fp' R' k' n' => E.nx H' σ' δ' fp' R' (k2.trans k') n', fun H' σ' δ' fp' R' k' n' => ⟨δ', fp', R', k2.trans k', n'⟩, E.rt⟩
  | false =>
    rw [if_neg Bool.false_ne_true] at h2 ⊢
    exact E.nx H2 σ1 δ2 fp2 R2 k2 h2
end
end L2
namespace L2
open PySem PySem.Spec PyProof.Rows
variable {G : PySem.W.Frag}
noncomputable def Zh8 (N : List Str) (ds : List PyData) : Zn := ds.map (fun d => some (.fz d)) ++ List.replicate (N.length - ds.length) none
section
variable {H : Hp} {L : Addr → Prop} {vs : List V} {ds : List PyData} {N : List Str}
theorem Zpj {i : Nat} {t : OT} {n : Nat} (h : (ds.map (fun d => some (.fz d)) ++ List.replicate n none : Zn)[i]? = some (some t)) : ∃ d, ds[i]? = some d ∧ t = .fz d := by
  rw [List.getElem?_append] at h
  split at h
  · rw [List.getElem?_map] at h
    cases e : ds[i]? with
    | none => rw [e] at h; cases h
    | some d => rw [e] at h; cases h; exact ⟨d, rfl, rfl⟩
  · rw [List.getElem?_replicate] at h
    split at h
    · cases h
    · cases h
theorem Rel.entry (h : Das G H L vs ds) : Rel (G := G) ⟨H, fun _ => False, L, start N vs⟩ [] H (start N vs) (Zh8 N ds) (fun _ => []) (fun _ => False) := by
  refine ⟨?_, fun i t e => ?_, fun _ _ => rfl, fun _ => .nil, fun i j a m => (nomatch m), fun i a m => (nomatch m), fun a z => z.elim, fun b o e _ => e, fun b e => e, fun i a m => (nomatch m), fun i m => nomatch m⟩
  · unfold start Zh8
    simp [h.length]
  · obtain ⟨d, e', rfl⟩ := Zpj e
    obtain ⟨x, e1, q⟩ := h.get e'
    refine ⟨x, ?_, .fz (q.wide fun a l _ => ⟨fun ⟨j, z⟩ => (nomatch z), fun z => z, .inl l⟩)⟩
    unfold L2.start
    rw [List.getElem?_append_left (by rw [List.length_map]; exact (List.getElem?_eq_some_iff.mp e1).1), List.getElem?_map, e1]
    rfl
variable {P : Program} {w : World} {K : PySem.W.Frag} {mg : Str → Option Value} {base : Heap}
noncomputable def Zul (k : OT → Prop) : Zh0 := { nx := fun _ => k (.fz .none), rt := fun r _ => k r }
theorem Fun.okD {x qual : Str} {st : Stmt} {f : Addr} {fd : FuncData} {N ps : List Str} {n : Nat} {S : List PyData → (OT → Prop) → Prop} (F : Fun K x qual st f fd) (Sc : Z6 N ps (Zf st)) (len : ∀ ds k, S ds k → ds.length = ps.length)
    (hbody : ∀ (cdv : Value) (A : Around) (outer : List Env) (s : Shared) (H : Hp) (E : XK), Room n (A.deeper (envOfC qual (Zf st) s.heap.objs.size f cdv)) →
      ∃ m, MSs (Zq8 CX0 P w K mg base N qual (Zf st) f cdv A outer s H E).nox [] (Z0 st) m ∧ ∀ ds k, S ds k → m (Zul k) (Zh8 N ds)) : FnOk P w K mg base CX0 (n + 1) f fd ps (spD K S) := by
  refine F.ok Sc (fun vs H Q E h => ?_) (fun cdv A outer s H vs Q E hr h => ?_)
  · obtain ⟨L, ds, k, h1, h2, _⟩ := h
    rw [h1.length]
    exact len ds k h2
  · obtain ⟨L, ds, k, h1, h2, h3⟩ := h
    obtain ⟨m, ⟨t, A1, s1⟩, q⟩ := hbody cdv A outer s H E hr
    refine ⟨t, A1, s1 ⟨H, fun _ => False, L, start N vs⟩ H _ _ _ _ (Zul k) _ (Rel.entry h1) (q ds k h2) ⟨fun H' σ' δ' fp' R _ hk => ?_, fun _ _ _ _ _ _ z => z.elim, fun _ _ _ _ _ _ z => z.elim, fun H' σ' v r δ' fp' new R o nd hn hk => ?_⟩⟩
    · exact h3 _ .non H' [] hk (fun b o e => R.fr b o e id) (.fz .non) .nil fun a m => nomatch m
    · refine h3 r v H' new hk (fun b o e => R.fr b o e id) (o.wide fun a l _ => ⟨?_, fun z => l.2.1 (.inr z)⟩) nd hn
      exact l.2.2
end
noncomputable abbrev MGt := PyData → Zn → (Zn → Prop) → Prop
noncomputable abbrev Zq9 := List PyData → Zn → (Zn → Prop) → Prop
noncomputable def SG (G : PySem.W.Frag) (io : List Nat) (c : Bool) (t : TG) (g : MGt) : Prop := ∀ (C : MC G) (H : Hp) (σ : St) (δ : Zn) (fp : Fp) (ex : Addr → Prop) (v : V) (d : PyData) (k : Zn → Prop) (Q : St → Hp → Prop), Rel C io H σ δ fp ex → Da G H (fun a => c = true → Lf C fp ex a) v d → g d δ k →
  (∀ σ' δ' fp', Rel C io H σ' δ' fp' ex → Kp H fp H fp' → k δ' → Q σ' H) → t v σ H Q
noncomputable def SGs (G : PySem.W.Frag) (io : List Nat) (c : Bool) (t : TGs) (g : Zq9) : Prop := ∀ (C : MC G) (H : Hp) (σ : St) (δ : Zn) (fp : Fp) (ex : Addr → Prop) (v : List V) (d : List PyData) (k : Zn → Prop) (Q : St → Hp → Prop), Rel C io H σ δ fp ex → Das G H (fun a => c = true → Lf C fp ex a) v d → g d δ k →
  (∀ σ' δ' fp', Rel C io H σ' δ' fp' ex → Kp H fp H fp' → k δ' → Q σ' H) → t v σ H Q
noncomputable def MG (X : Cx) (io : List Nat) (c : Bool) (tg : Expr) (g : MGt) : Prop := ∃ t, PG X tg t ∧ SG X.K io c t g
noncomputable def MGs (X : Cx) (io : List Nat) (c : Bool) (tg : List Expr) (g : Zq9) : Prop := ∃ t, PGs X tg t ∧ SGs X.K io c t g
section
variable {X : Cx} {io : List Nat} {c : Bool} {pos : Pos} {i : Nat} {x : Str}
noncomputable def dName (i : Nat) : MGt := fun d δ k => k (δ.set i (some (.fz d)))
theorem Rel.putD {C : MC G} {H : Hp} {σ : St} {δ : Zn} {fp : Fp} {ex : Addr → Prop} {v : V} {d : PyData} (R : Rel C io H σ δ fp ex) (hio : i ∉ io) (q : Da G H (Lf C fp ex) v d) :
    ∃ fp', Rel C io H (σ.set i (some v)) (δ.set i (some (.fz d))) fp' ex ∧ Kp H fp H fp' := by
  obtain ⟨fp', R', g⟩ := (R.drop fun a z => Zdo.mp z).put (new := []) hio (.fz (q.wide fun a l _ => ⟨l.1, fun z => l.2.1 (Zdo.mp z), l.2.2⟩)) .nil (fun a m => nomatch m)
  exact ⟨fp', R', fun b o e _ => e, fun z => (nomatch z), fun a z => (g a z).imp id fun z => (nomatch z), fun b e => e⟩
theorem Z1 (hN : X.N.Nodup) (hi : X.N[i]? = some x := by rfl) (hx : Loc X.env.scope x := by first | exact Or.inl rfl | exact Or.inr rfl) (hio : i ∉ io := by decide) (hf : X.fn x = true ∨ X.env.scope.names.lookup x = some .local := by first | exact .inl rfl | exact .inr rfl | assumption) : MG X io true (.Name x pos) (dName i) :=
  ⟨_, Zun hN hi hx hf, fun C H σ δ fp ex v d k Q R q h kk => by
    obtain ⟨fp', R', k'⟩ := R.putD hio (q.wide fun a l _ => l rfl)
    exact kk _ _ fp' R' k' h⟩
noncomputable def Z5n : Zq9 := fun ds δ k => ds = [] ∧ k δ
noncomputable def Zz8 (g : MGt) (gs : Zq9) : Zq9 := fun ds δ k => match ds with | d :: r => g d δ fun δ' => gs r δ' k | [] => False
theorem Za1 : MGs X io c [] Z5n := ⟨_, Zvn, fun C H σ δ fp ex v d k Q R q h kk => by
  obtain ⟨rfl, h⟩ := h
  cases q
  exact ⟨rfl, kk σ δ fp R (.refl _ _) h⟩⟩
theorem Rel.kp_das {C : MC G} {H H' : Hp} {σ : St} {δ : Zn} {fp fp' : Fp} {ex : Addr → Prop} {vs : List V} {ds : List PyData} (R : Rel C io H σ δ fp ex) (S : Kp H fp H' fp') (h : Das G H (Lf C fp ex) vs ds) : Das G H' (Lf C fp' ex) vs ds := by
  have S' : Stp false H δ fp H' δ fp' := ⟨S.keep, fun z => (nomatch z), S.grow, S.al⟩
  obtain ⟨f1, f2⟩ := R.frameL (c := true) (ex' := ex) S' (.inr rfl) fun a z => .inl z
  exact h.frame (fun a xs l q => ⟨(f1 a xs (fun _ => l) q).1 rfl, (f1 a xs (fun _ => l) q).2⟩) f2
theorem Yg {e : Expr} {es : List Expr} {g : MGt} {gs : Zq9} (h1 : MG X io true e g) (h2 : MGs X io true es gs)
    (hs : (assignEach (e :: es) X.env).map (·.2) = assign e X.env :: (assignEach es X.env).map (·.2) := by rfl) : MGs X io true (e :: es) (Zz8 g gs) := by
  obtain ⟨_, A, s⟩ := h1
  obtain ⟨_, B, s'⟩ := h2
  exact ⟨_, Zr9 A B hs, fun C H σ δ fp ex v d k Q R q h kk => by
    cases q with
    | nil => exact h.elim
    | cons q qs =>
      refine ⟨_, _, rfl, s C H σ δ fp ex _ _ _ _ R q h fun σ1 δ1 fp1 R1 k1 h1 => ?_⟩
      exact s' C H σ1 δ1 fp1 ex _ _ _ _ R1 ((R.kp_das k1 (qs.wide fun a l _ => l rfl)).wide fun a l _ _ => l) h1 fun σ2 δ2 fp2 R2 k2 h2 => kk σ2 δ2 fp2 R2 (k1.trans k2) h2⟩
noncomputable def dTup (n : Nat) (gs : Zq9) : MGt := fun d δ k => match d with | .tuple ds => ds.length = n ∧ gs ds δ k | _ => False
theorem Zcr {es : List Expr} {k : Nat} {gs : Zq9} {n : Nat} (hc : X.calm = true) (h : MGs X io c es gs)
    (hn : (assignEach es X.env).length = n := by rfl) (hst : (assignEach es X.env).findIdx? (·.1) = none := by rfl) : MG X io c (.Tuple es k pos) (dTup n gs) := by
  obtain ⟨_, A, s⟩ := h
  exact ⟨_, Zxv hc A hn hst, fun C H σ δ fp ex v d k Q R q h kk => by
    cases q with
    | tup e qs => exact ⟨_, _, rfl, .inl (.inl e), by rw [qs.length]; exact h.1, s C H σ δ fp ex _ _ _ _ R qs h.2 kk⟩
    | _ => exact h.elim⟩
end
end L2
namespace L2
open PySem PySem.Spec PyProof.Rows
variable {G : PySem.W.Frag}
noncomputable def IterOk (C : MC G) (fp : Fp) (ex : Addr → Prop) (H1 : Hp) (c : Bool) (J : It) (ds : List PyData) : Prop := ∀ H' : Hp, (∀ b o, H1 b = some o → (c = false ∨ ¬ Foot fp b) → H' b = some o) → ∀ i : Nat,
  (∀ d, ds[i]? = some d → J.go i H' ∧ ∀ x H'', J.yld i H' x H'' → Same H' H'' ∧ Da G H'' (fun a => c = true → (Lf C fp ex a ∧ H1 a ≠ none)) x d) ∧ (ds[i]? = none → J.stop i H')
noncomputable abbrev MIt := Zn → (List PyData → Zn → Prop) → Prop
noncomputable def SI (G : PySem.W.Frag) (io : List Nat) (p c : Bool) (t : TI) (m : MIt) : Prop := ∀ (C : MC G) (H : Hp) (σ : St) (δ : Zn) (fp : Fp) (ex : Addr → Prop) (K : List PyData → Zn → Prop) (Q : It → Hp → Prop), Rel C io H σ δ fp ex → m δ K →
  (∀ J H1 ds δ1 fp1, Rel C io H1 σ δ1 fp1 ex → Stp p H δ fp H1 δ1 fp1 → IterOk C fp1 ex H1 c J ds → K ds δ1 → Q J H1) → t σ H Q
noncomputable def MI (X : Cx) (io : List Nat) (p c : Bool) (tg iter : Expr) (m : MIt) : Prop := ∃ t, PI X tg iter t ∧ SI X.K io p c t m
section
variable {X : Cx} {io : List Nat} {p c : Bool} {e a b tg : Expr} {m : MEt} {mr : MAt} {K : PySem.W.Frag}
noncomputable def iL (m : MEt) : MIt := fun δ K => m δ fun r δ' => match r.data with | .list ds => K ds δ' | _ => False
theorem Rel.kept {C : MC G} {H H' : Hp} {σ : St} {δ : Zn} {fp : Fp} {ex : Addr → Prop} (R : Rel C io H σ δ fp ex) (kp : ∀ b o, H b = some o → (c = false ∨ ¬ Foot fp b) → H' b = some o) :
    (∀ a xs, (c = true → Lf C fp ex a) → Rd H a (.lst xs) → (c = true → (Lf C fp ex a ∧ H a ≠ none)) ∧ Rd H' a (.lst xs)) ∧ (∀ a (xs : ImO), H a = some xs.ho → H' a = some xs.ho) := by
  refine ⟨fun a xs l q => ⟨fun hc => ⟨l hc, q.some⟩, ?_⟩, fun a xs q => kp a _ q (.inr fun z => ?_)⟩
  · have hk : c = false ∨ ¬ Foot fp a := by
      cases c with
      | false => exact .inl rfl
      | true => exact .inr (l rfl).1
    rcases q with q | ⟨o, q⟩
    · exact .inl (kp a _ q hk)
    · exact .inr ⟨o, kp a _ q hk⟩
  · obtain ⟨ys, e⟩ := R.foot z
    exact ImO.nl q e
theorem J4 (h : ME X io p c e m) : MI X io p c tg e (iL m) := by
  obtain ⟨_, A, s⟩ := h
  exact ⟨_, Zst rfl A, fun C H σ δ fp ex K' Q R h kk => s C H σ δ fp ex _ _ R h fun H1 v r δ1 fp1 new r1 h1 => by
    have q := r1.da R
    generalize r.data = d at q h1
    cases q with
    | lst l e qs =>
      refine ⟨_, rfl, ⟨_, .inl e⟩, kk _ H1 _ δ1 fp1 r1.base r1.stp (fun H' kp i => ?_) h1⟩
      obtain ⟨f1, f2⟩ := r1.base.kept kp
      have e' := (f1 _ _ l e).2
      have qs' := qs.frame f1 f2
      refine ⟨fun d hd => ?_, fun hd => ?_⟩
      · obtain ⟨x, hx, qx⟩ := qs'.get hd
        refine ⟨⟨_, x, .inl e', hx⟩, fun y H'' hy => ?_⟩
        obtain ⟨rfl, hy⟩ := hy
        have := hy _ (.inl e')
        rw [hx] at this
        cases this
        exact ⟨Same.refl _, qx⟩
      · exact ⟨_, .inl e', by rw [qs'.length]; exact List.getElem?_eq_none_iff.mp hd⟩
    | scr ks =>
      refine ⟨_, rfl, ⟨_, ks.sq⟩, kk _ H1 _ δ1 fp1 r1.base r1.stp (fun H' kp i => ?_) h1⟩
      refine ⟨fun d hd => ?_, fun hd => ?_⟩
      · obtain ⟨x, hx, qx⟩ := (Das.ints (G := X.K) (H := H') (L := fun a => c = true → (Lf C fp1 ex a ∧ H1 a ≠ none)) _).get hd
        refine ⟨⟨_, x, ks.sq, hx⟩, fun y H'' hy => ?_⟩
        obtain ⟨rfl, hy⟩ := hy
        have := hy _ ks.sq
        rw [hx] at this
        cases this
        exact ⟨Same.refl _, qx⟩
      · refine ⟨_, ks.sq, ?_⟩
        have := List.getElem?_eq_none_iff.mp hd
        simpa using this
    | _ => exact h1.elim⟩
noncomputable def Zjh (lo : Int) (n : Nat) : List PyData := (List.range n).map fun (i : Nat) => PyData.int (lo + (i : Int))
@[simp] theorem Ze0 (lo : Int) (n : Nat) : (Zjh lo n).length = n := by simp [Zjh]
theorem Zgq {lo : Int} {n i : Nat} {d : PyData} (h : (Zjh lo n)[i]? = some d) : i < n ∧ d = .int (lo + i) := by
  have hi : i < n := by
    have := (List.getElem?_eq_some_iff.mp h).1
    simpa using this
  unfold Zjh at h
  rw [List.getElem?_map, List.getElem?_range hi] at h
  cases h
  exact ⟨hi, rfl⟩
theorem Zmp {C : MC G} {fp : Fp} {ex : Addr → Prop} {H1 : Hp} {lo : Int} {n : Nat} : IterOk C fp ex H1 true (Itr lo n) (Zjh lo n) := fun H' _ i => by
  refine ⟨fun d hd => ?_, fun hd => ?_⟩
  · obtain ⟨hi, rfl⟩ := Zgq hd
    refine ⟨hi, fun x H'' hy => ?_⟩
    obtain ⟨rfl, rfl⟩ := hy
    exact ⟨Same.refl _, .int _⟩
  · have := List.getElem?_eq_none_iff.mp hd
    show n ≤ i
    simpa using this
noncomputable def iR1 (mr : MAt) : MIt := fun δ K => mr δ fun rs δ' => match OT.datas rs with | [.int j] => (-(2 ^ 62) ≤ j ∧ j < 2 ^ 62) ∧ K (Zjh 0 j.toNat) δ' | _ => False
noncomputable def iR2 (mr : MAt) : MIt := fun δ K => mr δ fun rs δ' => match OT.datas rs with | [.int i, .int j] => (-(2 ^ 62) ≤ i ∧ i < 2 ^ 62 ∧ -(2 ^ 62) ≤ j ∧ j < 2 ^ 62) ∧ K (Zjh i (j - i).toNat) δ' | _ => False
theorem Zb3 {p' pos : Pos} (hg : Gl X "range") (hm : X.mg "range" = none) (ha : MA X io p c [a] mr) (hs : starEach [a] X.env = [(false, eval a X.env)] := by rfl) : MI X io p true tg (.Call (.Name "range" p') [a] [] pos) (iR1 mr) := by
  obtain ⟨_, A, s⟩ := ha
  exact ⟨_, Zo6 hg hm A hs, fun C H σ δ fp ex K' Q R h kk => s C H σ δ fp ex _ _ R h fun H1 vs rs δ1 fp1 new r1 h1 => by
    have q := r1.das R
    generalize OT.datas rs = d at q h1
    split at h1
    case h_2 => exact h1.elim
    cases q with
    | cons q1 q2 =>
      cases q1
      cases q2
      exact ⟨_, rfl, h1.1.1, h1.1.2, kk _ H1 _ δ1 fp1 r1.base r1.stp Zmp h1.2⟩⟩
theorem Zju {p' pos : Pos} (hg : Gl X "range") (hm : X.mg "range" = none) (ha : MA X io p c [a, b] mr) (hs : starEach [a, b] X.env = [(false, eval a X.env), (false, eval b X.env)] := by rfl) (hs2 : starEach [b] X.env = [(false, eval b X.env)] := by rfl) : MI X io p true tg (.Call (.Name "range" p') [a, b] [] pos) (iR2 mr) := by
  obtain ⟨_, A, s⟩ := ha
  exact ⟨_, Zpf hg hm A hs hs2, fun C H σ δ fp ex K' Q R h kk => s C H σ δ fp ex _ _ R h fun H1 vs rs δ1 fp1 new r1 h1 => by
    have q := r1.das R
    generalize OT.datas rs = d at q h1
    split at h1
    case h_2 => exact h1.elim
    cases q with
    | cons q1 q2 =>
      cases q1
      cases q2 with
      | cons q2 q3 =>
        cases q2
        cases q3
        exact ⟨_, _, rfl, h1.1, kk _ H1 _ δ1 fp1 r1.base r1.stp Zmp h1.2⟩⟩
theorem IterOk.at {C : MC G} {fp fp' : Fp} {ex : Addr → Prop} {H1 H' H'' : Hp} {J : It} {ds : List PyData} {x : V} {d : PyData} (g : ∀ a, Foot fp' a → Foot fp a ∨ H1 a = none) (h : Da G H'' (fun a => true = true → (Lf C fp ex a ∧ H1 a ≠ none)) x d) : Da G H'' (fun a => true = true → Lf C fp' ex a) x d :=
  h.wide fun a l _ z => ⟨fun w => (g a w).elim (l z).1.1 (l z).2, (l z).1.2.1, (l z).1.2.2⟩
noncomputable def Z3f (ds : List PyData) (g : MGt) (u : MSt) (D : Zh0) (δ1 : Zn) : Prop := ∃ I : Nat → Zn → Prop, I 0 δ1 ∧ (∀ (i : Nat) (d : PyData) (δ' : Zn), ds[i]? = some d → I i δ' → g d δ' fun δ2 => u { D with nx := I (i + 1), ct := I (i + 1), bk := D.nx } δ2) ∧ ∀ δ', I ds.length δ' → D.nx δ'
noncomputable def Z6f (mi : MIt) (g : MGt) (u : MSt) : MSt := fun D δ => mi δ fun ds δ1 => Z3f ds g u D δ1
theorem Rel.mk0 {C : MC G} {H H' : Hp} {σ : St} {δ : Zn} {fp : Fp} {ex : Addr → Prop} (R : Rel C io H σ δ fp ex) (s : Same H H') : Rel C io H' σ δ fp ex := (R.made (new := []) s fun a m => nomatch m).drop fun a z => .inl z
theorem Zcg {iter : Expr} {body : List Stmt} {mi : MIt} {g : MGt} {u : MSt} {pos : Pos} (hp : PassesOwn (model X.prog X.w) X.A X.env X.xe) (hc : X.calm = true) (hi : MI X io p true tg iter mi) (hg : MG X io true tg g) (hb : MSs X io body u)
    (hs : ∀ x, foldedSetIterable iter X.env x = pure x := by intro _; rfl) : MS X io (.For tg iter body [] pos) (Z6f mi g u) := by
  obtain ⟨_, A, s⟩ := hi
  obtain ⟨_, G, sg⟩ := hg
  obtain ⟨_, B, sb⟩ := hb
  refine ⟨_, Zzr hp hc A G B hs, fun C H σ δ fp ex D D' R h E => s C H σ δ fp ex _ _ R h fun J H1 ds δ1 fp1 R1 S1 it h1 => ?_⟩
  obtain ⟨I, h0, turn, fin⟩ := h1
  refine ⟨fun i n σ' H' => n = ds.length - i ∧ i ≤ ds.length ∧ ∃ δ' fp', Rel C io H' σ' δ' fp' ex ∧ Kp H1 fp1 H' fp' ∧ I i δ', ⟨ds.length, rfl, Nat.zero_le _, δ1, fp1, R1, .refl _ _, h0⟩, ?_⟩
  rintro i n σ2 H2 ⟨rfl, hle, δ2, fp2, R2, k2, i2⟩
  have itk := it H2 (fun b o e q => k2.keep b o e (.inr (q.resolve_left (by decide)))) i
  by_cases hlt : i < ds.length
  · have hd : ds[i]? = some ds[i] := List.getElem?_eq_getElem hlt
    obtain ⟨go, yl⟩ := itk.1 _ hd
    refine .inr ⟨go, fun σ' H' => ∃ δ' fp', Rel C io H' σ' δ' fp' ex ∧ Kp H1 fp1 H' fp' ∧ I (i + 1) δ', fun σ' H' ⟨δ', fp', R', k', i'⟩ => ⟨ds.length - (i + 1), by omega, rfl, hlt, δ', fp', R', k', i'⟩, fun x H3 hy => ?_⟩
    obtain ⟨s3, q3⟩ := yl x H3 hy
    have R3 := R2.mk0 s3
    have k3 : Kp H1 fp1 H3 fp2 := k2.trans ⟨fun b o e _ => s3 _ _ e, fun z => (nomatch z), fun a z => .inl z, s3.al⟩
    refine sg C H3 σ2 δ2 fp2 ex x _ _ _ R3 (IterOk.at (H' := H2) (J := J) (ds := ds) k2.grow q3) (turn i _ δ2 hd i2) fun σ4 δ4 fp4 R4 k4 h4 => ?_
    have k5 := k3.trans k4
    refine sb C H3 σ4 δ4 fp4 ex _ _ R4 h4 ⟨fun H' σ' δ' fp' R' k' n' => ⟨δ', fp', R', k5.trans k', n'⟩, fun H' σ' δ' fp' R' k' n' => E.nx H' σ' δ' fp' R' (S1.kp.trans (k5.trans k')) n', fun H' σ' δ' fp' R' k' n' => ⟨δ', fp', R', k5.trans k', n'⟩, E.rt⟩
  · have e : i = ds.length := by omega
    subst e
    exact .inl ⟨itk.2 (by simp), E.nx H2 σ2 δ2 fp2 R2 (S1.kp.trans k2) (fin δ2 i2)⟩
end
noncomputable def gM (G : PySem.W.Frag) (io : List Nat) (c : Bool) (g : MGt) : TG := fun v σ H Q => ∃ (C : MC G) (δ : Zn) (fp : Fp) (ex : Addr → Prop) (d : PyData) (k : Zn → Prop), Rel C io H σ δ fp ex ∧ Da G H (fun a => c = true → Lf C fp ex a) v d ∧ g d δ k ∧
  ∀ σ' δ' fp', Rel C io H σ' δ' fp' ex → Kp H fp H fp' → k δ' → Q σ' H
noncomputable def tM (G : PySem.W.Frag) (io : List Nat) (p c : Bool) (m : MEt) : TE := fun σ H Q => ∃ (C : MC G) (δ : Zn) (fp : Fp) (ex : Addr → Prop) (K : OT → Zn → Prop), Rel C io H σ δ fp ex ∧ m δ K ∧ ∀ H' v r δ' fp' new, RE C io p c H σ δ fp ex H' v r δ' fp' new → K r δ' → Q v H'
noncomputable def ttM (G : PySem.W.Frag) (io : List Nat) (p : Bool) (m : MTt) : TT := fun σ H Q => ∃ (C : MC G) (δ : Zn) (fp : Fp) (ex : Addr → Prop) (K : Bool → Zn → Prop), Rel C io H σ δ fp ex ∧ m δ K ∧ ∀ H' b δ' fp', Rel C io H' σ δ' fp' ex → Stp p H δ fp H' δ' fp' → K b δ' → Q b H'
noncomputable def MIfs (X : Cx) (io : List Nat) (p : Bool) (ifs : List Expr) (m : MTt) : Prop := ∃ t, Zwo X ifs t ∧ STt X.K io p t m
section
variable {X : Cx} {io : List Nat} {p c : Bool} {e tg : Expr} {m : MEt} {mt : MTt} {g : MGt} {ifs : List Expr}
theorem MG.canon (h : MG X io c tg g) : PG X tg (gM X.K io c g) := by
  obtain ⟨t, A, s⟩ := h
  rintro pins sh σ H v u Q I r ⟨C, δ, fp, ex, d, k, R, q, h, kk⟩
  exact A pins sh σ H v u Q I r (s C H σ δ fp ex v d k Q R q h kk)
theorem ME.canon (h : ME X io p c e m) : PE X e (tM X.K io p c m) := by
  obtain ⟨t, A, s⟩ := h
  rintro pins sh σ H Q I ⟨C, δ, fp, ex, K, R, h, kk⟩
  exact A pins sh σ H Q I (s C H σ δ fp ex K Q R h kk)
theorem MIfs.canon (h : MIfs X io p ifs mt) : Zwo X ifs (ttM X.K io p mt) := by
  obtain ⟨t, A, s⟩ := h
  rintro pins sh σ H Q I ⟨C, δ, fp, ex, K, R, h, kk⟩
  exact A pins sh σ H Q I (s C H σ δ fp ex K Q R h kk)
noncomputable def Zy3 : MTt := fun δ K => K true δ
theorem Jj : MIfs X io true [] Zy3 := ⟨_, Zwy, fun C H σ δ fp ex K Q R h kk => kk H true δ fp R (.refl _ _ _ _) h⟩
theorem Zvl {cnd : Expr} (h : MT X io p cnd mt) : MIfs X io p [cnd] mt := by
  obtain ⟨_, A, s⟩ := h
  exact ⟨_, Zv0 A, s⟩
end
end L2
namespace L2
open PySem PySem.Spec PyProof.Rows
variable {G : PySem.W.Frag}
noncomputable def blk (n : Nat) (caps : List Nat) (δ : Zn) : Zn := List.replicate n none ++ caps.map fun i => (δ[i]?).getD none
noncomputable def Zax (n : Nat) (caps : List Nat) (fp : Fp) : Fp := fun k => if k < n then [] else match caps[k - n]? with | some i => fp i | none => []
noncomputable def Zd3 (n : Nat) (caps : List Nat) : List Nat := (List.range caps.length).map (· + n)
noncomputable def Zuf (C : MC G) (H1 : Hp) (fp : Fp) (σ0 : St) : MC G := ⟨H1, Foot fp, fun a => (C.L a ∨ C.H₀ a = none) ∧ ¬ Foot fp a, σ0⟩
noncomputable def Zgi (ex : Addr → Prop) (D : Addr) (fp fpb : Fp) (a : Addr) : Prop := ex a ∨ a = D ∨ (Foot fp a ∧ ¬ Foot fpb a)
section
variable {C : MC G} {io : List Nat} {H1 H' : Hp} {σ : St} {δ : Zn} {fp : Fp} {ex : Addr → Prop} {own : List Str} {caps : List Nat} {D : Addr} {n : Nat}
theorem Zd8 {k : Nat} {a : Addr} (h : a ∈ Zax n caps fp k) : ∃ i, n ≤ k ∧ caps[k - n]? = some i ∧ a ∈ fp i := by
  unfold Zax at h
  split at h
  · exact nomatch h
  · split at h
    · rename_i i e
      exact ⟨i, by omega, e, h⟩
    · exact nomatch h
theorem Zsq {j i : Nat} (h : caps[j]? = some i) : Zax n caps fp (n + j) = fp i := by
  unfold Zax
  rw [if_neg (by omega), show n + j - n = j by omega, h]
theorem Z1a {k : Nat} {t : OT} (h : (blk n caps δ)[k]? = some (some t)) : ∃ i, n ≤ k ∧ caps[k - n]? = some i ∧ δ[i]? = some (some t) := by
  unfold blk at h
  rw [List.getElem?_append] at h
  split at h
  · rw [List.getElem?_replicate] at h
    split at h <;> cases h
  · rename_i hk
    rw [List.length_replicate] at hk h
    rw [List.getElem?_map] at h
    cases e : caps[k - n]? with
    | none => rw [e] at h; cases h
    | some i =>
      rw [e] at h
      refine ⟨i, by omega, rfl, ?_⟩
      simp only [Option.map_some] at h
      cases e2 : δ[i]? with
      | none => rw [e2] at h; cases h
      | some o =>
        rw [e2] at h
        simpa using h
theorem Rel.block (R : Rel C io H1 σ δ fp ex) (nd : caps.Nodup) (hD : H1 D = none) :
    Rel (Zuf C H1 fp (Zbb own caps σ)) (Zd3 own.length caps) (upd H1 D (.lst [])) (Zbb own caps σ) (blk own.length caps δ) (Zax own.length caps fp) (Zgi ex D fp (Zax own.length caps fp)) := by
  have s := Wi hD (.lst [])
  have sub : ∀ a, Foot (Zax own.length caps fp) a → Foot fp a := fun a q91 => by
    obtain ⟨k, z⟩ := q91
    obtain ⟨i, _, _, z⟩ := Zd8 z
    exact ⟨i, z⟩
  have neD : ∀ a, H1 a ≠ none → a ≠ D := fun a h z => h (z ▸ hD)
  refine ⟨by unfold Zbb blk; simp, fun k t e => ?_, fun k h => ?_, fun k => ?_, fun k l a h1 h2 => ?_, fun k a h z => ?_, fun a z => ?_, fun b o e _ => s _ _ e, fun b e => s.free e, fun k a h => ?_, fun k _ => rfl⟩
  · obtain ⟨i, hk, e1, e2⟩ := Z1a e
    obtain ⟨v, e3, o⟩ := R.own i t e2
    refine ⟨v, ?_, ?_⟩
    · unfold Zbb
      rw [List.getElem?_append_right (by simpa using hk), List.length_map, List.getElem?_map, e1]
      simp [e3]
    · have ef : Zax own.length caps fp k = fp i := by
        have := Zsq (n := own.length) (fp := fp) e1
        rwa [show own.length + (k - own.length) = k by omega] at this
      rw [ef]
      refine (o.wide fun a l q => ⟨fun z => l.1 (sub a z), fun z => ?_, .inl ⟨l.2.2, l.1⟩⟩).same s
      rcases z with z | z | z
      · exact l.2.1 z
      · exact neD a q z
      · exact l.1 z.1
  · unfold Zax
    split
    · rfl
    · split
      · rename_i i e1
        refine R.emp i fun t z => h t ?_
        unfold blk
        rw [List.getElem?_append_right (by rw [List.length_replicate]; omega), List.length_replicate, List.getElem?_map, e1]
        simp [z]
      · rfl
  · unfold Zax
    split
    · exact .nil
    · split
      · exact R.nd _
      · exact .nil
  · obtain ⟨i, hk, e1, m1⟩ := Zd8 h1
    obtain ⟨j, hl, e2, m2⟩ := Zd8 h2
    have := R.dj i j a m1 m2
    subst this
    have hlt := (List.getElem?_eq_some_iff.mp e1).1
    have := (List.getElem?_inj hlt nd).mp (e1.trans e2.symm)
    omega
  · obtain ⟨i, hk, e1, m⟩ := Zd8 h
    rcases z with z | z | z
    · exact R.dx i a m z
    · exact R.footSome (z ▸ hD) ⟨i, m⟩
    · exact z.2 ⟨k, h⟩
  · rcases z with z | z | z
    · intro q; exact R.xa a z (s.free q)
    · subst z; rw [Y7]; intro q; cases q
    · obtain ⟨xs, e⟩ := R.foot z.1
      rw [s _ _ e]; intro q; cases q
  · obtain ⟨i, hk, e1, m⟩ := Zd8 h
    refine .inl ⟨?_, ⟨i, m⟩⟩
    have := (List.getElem?_eq_some_iff.mp e1).1
    exact List.mem_map.mpr ⟨k - own.length, by simpa using this, by omega⟩
theorem Z0v {σ0 : St} {fp' : Fp} {ex' : Addr → Prop} {a : Addr} (hx : ∀ a, ex a → ex' a) (l : Lf (Zuf C H1 fp σ0) fp' ex' a) : Lf C fp ex a ∨ H1 a = none := by
  obtain ⟨l1, l2, l3⟩ := l
  rcases l3 with l3 | l3
  · exact .inl ⟨l3.2, fun z => l2 (hx a z), l3.1⟩
  · exact .inr l3
theorem Rel.poke (R : Rel C io H' σ δ fp ex) {xs ys : List V} (hx : ex D) (hD : H' D = some (.lst xs)) (h0 : C.H₀ D = none) : Rel C io (upd H' D (.lst ys)) σ δ fp ex := by
  have nf : ¬ Foot fp D := fun ⟨i, z⟩ => R.dx i D z hx
  have kp : ∀ b o, b ≠ D → H' b = some o → upd H' D (.lst ys) b = some o := fun b o n e => by rw [Yl n]; exact e
  refine ⟨R.len, fun i t e => ?_, R.emp, R.nd, R.dj, R.dx, fun a z => ?_, fun b o e n => ?_, fun b e => ?_, R.new, R.io⟩
  · obtain ⟨v, e1, o⟩ := R.own i t e
    refine ⟨v, e1, o.frame (fun a zs l q => ⟨l, ?_⟩) (fun a zs q => kp a _ (fun z => ?_) q) fun a m zs q => kp a _ (fun z => nf ⟨i, z ▸ m⟩) q⟩
    · have na : a ≠ D := fun z => l.2.1 (z ▸ hx)
      rcases q with q | ⟨u, q⟩
      · exact .inl (kp a _ na q)
      · exact .inr ⟨u, kp a _ na q⟩
    · exact ImO.nl q (z ▸ hD)
  · by_cases e : a = D
    · subst e; rw [Y7]; intro q; cases q
    · rw [Yl e]; exact R.xa a z
  · refine kp b o (fun z => ?_) (R.fr b o e n)
    rw [z, h0] at e; cases e
  · refine R.al b ?_
    by_cases q : b = D
    · subst q; rw [Y7] at e; cases e
    · rwa [Yl q] at e
theorem Owns.poke {L : Addr → Prop} {xs ys zs : List V} {rs : List OT} {as : List Addr} (o : Owns G H' L zs rs as) (hD : H' D = Option.some (HO.lst xs)) (hL : ¬ L D) (hn : D ∉ as) : Owns G (upd H' D (.lst ys)) L zs rs as := by
  refine o.frame (fun a zs l q => ⟨l, ?_⟩) (fun a zs q => ?_) fun a m zs q => ?_
  · have na : a ≠ D := fun z => hL (z ▸ l)
    rcases q with q | ⟨u, q⟩
    · exact .inl (by rw [Yl na]; exact q)
    · exact .inr ⟨u, by rw [Yl na]; exact q⟩
  · rw [Yl (fun z => ImO.nl q (z ▸ hD))]; exact q
  · have na : a ≠ D := fun z => hn (by rw [← z]; exact m)
    rw [Yl na]; exact q
theorem Owns.snoc {L : Addr → Prop} {xs : List V} {rs : List OT} {as bs : List Addr} {x : V} {r : OT} (h : Owns G H' L xs rs as) (k : Own G H' L x r bs) : Owns G H' L (xs ++ [x]) (rs ++ [r]) (as ++ bs) :=
  Owns.rec (motive_1 := fun _ _ _ _ => True) (motive_2 := fun xs rs as _ => Owns G H' L (xs ++ [x]) (rs ++ [r]) (as ++ bs)) (fun _ => trivial) (fun _ _ _ => trivial) (fun _ _ _ => trivial) (by have := Owns.cons k .nil; rwa [List.append_nil] at this) (fun k _ _ ih => by rw [List.append_assoc]; exact .cons k ih) h
end
structure Zuj (C : MC G) (H1 : Hp) (fp1 : Fp) (ex : Addr → Prop) (n : Nat) (caps : List Nat) (σ0 : St) (D : Addr) (pb : Bool) (H' : Hp) (σ' : St) (δ' : Zn) (fp' : Fp) (ys : List V) (rs : List OT) (new : List Addr) : Prop where
  keep : ∀ b o, H1 b = some o → (pb = true ∨ ¬ Foot (Zax n caps fp1) b) → H' b = some o
  al : ∀ b, H' b = none → H1 b = none
  dat : H' D = some (.lst ys)
  rel : Rel (Zuf C H1 fp1 σ0) (Zd3 n caps) H' σ' δ' fp' (exu (Zgi ex D fp1 (Zax n caps fp1)) new)
  grow : ∀ a, Foot fp' a → Foot (Zax n caps fp1) a ∨ H1 a = none
  own : Owns G H' (fun a => true = true → Lf (Zuf C H1 fp1 σ0) fp' (exu (Zgi ex D fp1 (Zax n caps fp1)) new) a) ys rs new
  nd : new.Nodup
  fresh : ∀ a ∈ new, H1 a = none ∧ a ≠ D
section
variable {io : List Nat} {p c pt pe ci : Bool} {g : MGt} {mt : MTt} {me : MEt} {own : List Str} {caps : List Nat}
theorem Zor {C : MC G} {H1 : Hp} {σ : St} {δ1 : Zn} {fp1 : Fp} {ex : Addr → Prop} {J : It} {ds : List PyData} {D : Addr} {Qf : Hp → Prop} (I : Nat → List OT → Zn → Prop) (R1 : Rel C io H1 σ δ1 fp1 ex) (it : IterOk C fp1 ex H1 ci J ds)
    (hc : (pt && pe) = true ∨ ci = true) (nd : caps.Nodup) (hD : H1 D = none) (hz : ds.length ≤ sizeLine) (h0 : I 0 [] (blk own.length caps δ1))
    (turn : ∀ (i : Nat) (d : PyData) (rs : List OT) (δ' : Zn), ds[i]? = some d → I i rs δ' → g d δ' fun δ2 => mt δ2 fun b δ3 => if b = true then me δ3 fun r δ4 => I (i + 1) (rs ++ [r]) δ4 else I (i + 1) rs δ3)
    (fin : ∀ H' σ' δ' fp' ys rs new, Zuj C H1 fp1 ex own.length caps (Zbb own caps σ) D (pt && pe) H' σ' δ' fp' ys rs new → I ds.length rs δ' → Qf H') :
    Zw3 J (gM G (Zd3 own.length caps) ci g) (ttM G (Zd3 own.length caps) pt mt) (tM G (Zd3 own.length caps) pe true me) (Zbb own caps σ) D Qf H1 := by
  have hx : Zgi ex D fp1 (Zax own.length caps fp1) D := .inr (.inl rfl)
  refine ⟨fun i n σ' H' => n = ds.length - i ∧ i ≤ ds.length ∧ ∃ rs ys new δ' fp', Zuj C H1 fp1 ex own.length caps (Zbb own caps σ) D (pt && pe) H' σ' δ' fp' ys rs new ∧ ys.length ≤ i ∧ I i rs δ', ⟨ds.length, rfl, Nat.zero_le _, [], [], [], _, _, ⟨fun b o e _ => Wi hD _ _ _ e, (Wi hD _).al, Y7, ?_, fun a z => .inl z, .nil, .nil, fun a m => (nomatch m)⟩, Nat.le_refl _, h0⟩, ?_⟩
  · exact (R1.block nd hD).drop fun a z => Zdo.mp z
  rintro i n σ2 H2 ⟨rfl, hle, rs, ys, new, δ2, fp2, B, hl, i2⟩
  have subB : ∀ b, Foot (Zax own.length caps fp1) b → Foot fp1 b := fun b q92 => by
    obtain ⟨k, z⟩ := q92
    obtain ⟨i, _, _, z⟩ := Zd8 z
    exact ⟨i, z⟩
  have itk := it H2 (fun b o e q => B.keep b o e (by
    rcases hc with hc | hc
    · exact .inl hc
    · rcases q with q | q
      · rw [hc] at q; cases q
      · exact .inr fun z => q (subB b z))) i
  by_cases hlt : i < ds.length
  case neg =>
    have e : i = ds.length := by omega
    subst e
    exact .inl ⟨itk.2 (by simp), fin H2 σ2 δ2 fp2 ys rs new B i2⟩
  have hd : ds[i]? = some ds[i] := List.getElem?_eq_getElem hlt
  obtain ⟨go, yl⟩ := itk.1 _ hd
  refine .inr ⟨go, fun x H3 hy => ?_⟩
  obtain ⟨s3, q3⟩ := yl x H3 hy
  have R3 := B.rel.mk0 s3
  have D3 : H3 D = some (.lst ys) := s3 _ _ B.dat
  -- the item, clean in the block
  have q3' : Da G H3 (fun a => ci = true → Lf (Zuf C H1 fp1 (Zbb own caps σ)) fp2 (exu (Zgi ex D fp1 (Zax own.length caps fp1)) new) a) x ds[i] := by
    refine q3.wide fun a l _ z => ?_
    obtain ⟨⟨l1, l2, l3⟩, l4⟩ := l z
    refine ⟨fun w => ?_, fun w => ?_, .inl ⟨l3, l1⟩⟩
    · rcases B.grow a w with w | w
      · exact l1 (subB a w)
      · exact l4 w
    · rcases w with (w | w | w) | w
      · exact l2 w
      · subst w; exact l4 hD
      · exact l1 w.1
      · exact l4 (B.fresh a w).1
  refine ⟨_, δ2, fp2, _, _, _, R3, q3', turn i _ rs δ2 hd i2, fun σ4 δ4 fp4 R4 k4 h4 => ?_⟩
  refine ⟨_, δ4, fp4, _, _, R4, h4, fun H5 b δ5 fp5 R5 S5 h5 => ?_⟩
  -- the state behind the test
  have keep5 : ∀ b o, H1 b = some o → ((pt && pe) = true ∨ ¬ Foot (Zax own.length caps fp1) b) → H5 b = some o := fun b o e q => by
    refine S5.keep b o (s3 _ _ (B.keep b o e q)) ?_
    rcases q with q | q
    · rw [Bool.and_eq_true] at q; exact .inl q.1
    · refine .inr fun z => ?_
      rcases k4.grow b z with z | z
      · rcases B.grow b z with z | z
        · exact q z
        · rw [e] at z; cases z
      · rw [s3 _ _ (B.keep b o e (.inr q))] at z; cases z
  have al5 : ∀ b, H5 b = none → H1 b = none := fun b e => B.al b (s3.al b (S5.al b e))
  have grow4 : ∀ a, Foot fp4 a → Foot (Zax own.length caps fp1) a ∨ H1 a = none := fun a z => by
    rcases k4.grow a z with z | z
    · exact B.grow a z
    · exact .inr (B.al a (s3.al a z))
  have grow5 : ∀ a, Foot fp5 a → Foot (Zax own.length caps fp1) a ∨ H1 a = none := fun a z => by
    rcases S5.grow a z with z | z
    · exact grow4 a z
    · exact .inr (B.al a (s3.al a z))
  have D5 : H5 D = some (.lst ys) := S5.keep D _ D3 (.inr fun ⟨k, z⟩ => R4.dx k D z (.inl hx))
  have own3 := B.own.same s3
  -- the items so far behind the target and the test
  have own4 : Owns G H3 (fun a => true = true → Lf (Zuf C H1 fp1 (Zbb own caps σ)) fp4 (exu (Zgi ex D fp1 (Zax own.length caps fp1)) new) a) ys rs new := by
    refine own3.wide fun a l q z => ?_
    obtain ⟨l1, l2, l3⟩ := l z
    exact ⟨fun w => (k4.grow a w).elim l1 q, l2, l3⟩
  have own5 := R4.owns_step (ex' := exu (Zgi ex D fp1 (Zax own.length caps fp1)) new) S5 (c := true) (.inr rfl) (fun a z => .inl z) (fun a m => .inr m) own4
  dsimp only at h5 ⊢
  cases b with
  | false =>
    rw [if_neg Bool.false_ne_true] at h5 ⊢
    exact ⟨ds.length - (i + 1), by omega, rfl, hlt, rs, ys, new, δ5, fp5, ⟨keep5, al5, D5, R5, grow5, own5, B.nd, B.fresh⟩, by omega, h5⟩
  | true =>
    rw [if_pos rfl] at h5 ⊢
    refine ⟨_, δ5, fp5, _, _, R5, h5, fun H6 v r δ6 fp6 nr r6 h6 => ?_⟩
    have D6 : H6 D = some (.lst ys) := r6.stp.keep D _ D5 (.inr fun ⟨k, z⟩ => R5.dx k D z (.inl hx))
    have hDnr : D ∉ nr := fun z => by
      have := r6.fresh D z
      rw [D5] at this; cases this
    have own6 := R5.owns_step (ex' := exu (exu (Zgi ex D fp1 (Zax own.length caps fp1)) new) nr) r6.stp (c := true) (.inr rfl) (fun a z => z.imp id fun z => r6.fresh a z) (fun a m => .inr m) own5
    have eqx : ∀ a, exu (Zgi ex D fp1 (Zax own.length caps fp1)) (new ++ nr) a → exu (exu (Zgi ex D fp1 (Zax own.length caps fp1)) new) nr a := fun a z => by
      rcases z with z | z
      · exact .inl (.inl z)
      · rcases List.mem_append.mp z with z | z
        · exact .inl (.inr z)
        · exact .inr z
    have lw : ∀ a, (true = true → Lf (Zuf C H1 fp1 (Zbb own caps σ)) fp6 (exu (exu (Zgi ex D fp1 (Zax own.length caps fp1)) new) nr) a) → H6 a ≠ none → (true = true → Lf (Zuf C H1 fp1 (Zbb own caps σ)) fp6 (exu (Zgi ex D fp1 (Zax own.length caps fp1)) (new ++ nr)) a) :=
      fun a l _ z => ⟨(l z).1, fun w => (l z).2.1 (eqx a w), (l z).2.2⟩
    have ownA := (own6.snoc r6.own).wide lw
    refine ⟨ys, D6, by omega, ds.length - (i + 1), by omega, rfl, hlt, rs ++ [r], ys ++ [v], new ++ nr, δ6, fp6, ⟨fun b o e q => ?_, fun b e => ?_, Y7, ?_, fun a z => ?_, ?_, ?_, fun a m => ?_⟩, by rw [List.length_append]; show ys.length + 1 ≤ i + 1; omega, h6⟩
    · have nD : b ≠ D := fun z => by rw [z, hD] at e; cases e
      rw [Yl nD]
      refine r6.stp.keep b o (keep5 b o e q) ?_
      rcases q with q | q
      · rw [Bool.and_eq_true] at q; exact .inl q.2
      · refine .inr fun z => ?_
        rcases grow5 b z with z | z
        · exact q z
        · rw [e] at z; cases z
    · by_cases q : b = D
      · subst q; rw [Y7] at e; cases e
      · rw [Yl q] at e
        exact al5 b (r6.stp.al b e)
    · exact (r6.rel.drop eqx).poke (.inl hx) D6 hD
    · rcases r6.stp.grow a z with z | z
      · exact grow5 a z
      · exact .inr (al5 a z)
    · exact ownA.poke D6 (fun z => (z rfl).2.1 (.inl hx)) (fun m => by
        rcases List.mem_append.mp m with m | m
        · exact (B.fresh D m).2 rfl
        · exact hDnr m)
    · refine List.nodup_append.mpr ⟨B.nd, r6.nd, fun a m b m' z => ?_⟩
      subst z
      obtain ⟨xs, e⟩ := own5.some a m
      rw [r6.fresh a m'] at e; cases e
    · rcases List.mem_append.mp m with m | m
      · exact B.fresh a m
      · exact ⟨al5 a (r6.fresh a m), fun z => hDnr (z ▸ m)⟩
end
end L2
namespace L2
open PySem PySem.Spec PyProof.Rows
variable {G : PySem.W.Frag}
section
variable {X : Cx} {io : List Nat} {p p' c pt pe ci : Bool} {g : MGt} {mt : MTt} {me m : MEt} {mi : MIt} {own : List Str} {caps : List Nat} {e : Expr}
noncomputable def Zy5 (m : MEt) : MEt := fun δ K => m δ fun r δ' => Zdb r.data = true ∧ K (.fz r.data) δ'
theorem Zx1 (h : ME X io p c e m) : ME X io p true e (Zy5 m) := by
  obtain ⟨_, A, s⟩ := h
  exact ⟨_, A, fun C H σ δ fp ex K Q R h k => s C H σ δ fp ex _ _ R h fun H' v r δ' fp' new r1 h1 => k H' v _ δ' fp' [] (r1.fzs R h1.1) h1.2⟩
noncomputable def Zz9 (n : Nat) (caps : List Nat) (ds : List PyData) (g : MGt) (mt : MTt) (me : MEt) (δ1 : Zn) (K : OT → Zn → Prop) : Prop := ds.length ≤ sizeLine ∧ ∃ I : Nat → List OT → Zn → Prop, I 0 [] (blk n caps δ1) ∧
  (∀ (i : Nat) (d : PyData) (rs : List OT) (δ' : Zn), ds[i]? = some d → I i rs δ' → g d δ' fun δ2 => mt δ2 fun b δ3 => if b = true then me δ3 fun r δ4 => I (i + 1) (rs ++ [r]) δ4 else I (i + 1) rs δ3) ∧
  ∀ rs δ', I ds.length rs δ' → K (.nd rs) δ1
noncomputable def Zhu (n : Nat) (caps : List Nat) (mi : MIt) (g : MGt) (mt : MTt) (me : MEt) : MEt := fun δ K => mi δ fun ds δ1 => Zz9 n caps ds g mt me δ1 K
theorem Zwe {wi : TI} (si : SI G io p ci wi mi) (nd : caps.Nodup) (hp : (pt && pe) = true) :
    SE G io p true (Zvu own caps wi (gM G (Zd3 own.length caps) ci g) (ttM G (Zd3 own.length caps) pt mt) (tM G (Zd3 own.length caps) pe true me)) (Zhu own.length caps mi g mt me) := by
  intro C H σ δ fp ex K Q R h k
  refine si C H σ δ fp ex _ _ R h fun J H1 ds δ1 fp1 R1 S1 it h1 D hD => ?_
  obtain ⟨hz, I, h0, turn, fin⟩ := h1
  refine Zor I R1 it (.inl hp) nd hD hz h0 turn fun H' σ' δ' fp' ys rs new B i' => ?_
  have s : Same H1 H' := fun b o e => B.keep b o e (.inl hp)
  refine k H' (.ref D) (.nd rs) δ1 fp1 (D :: new) (RE.tree R R1 S1 s (fun a m => ?_) (List.nodup_cons.mpr ⟨fun m => (B.fresh D m).2 rfl, B.nd⟩) (.nd B.dat (B.own.wide fun a l _ => ?_))) (fin rs δ' i')
  · rcases List.mem_cons.mp m with rfl | m
    · exact hD
    · exact (B.fresh a m).1
  · refine ⟨?_, fun m => ?_⟩
    · rcases Z0v (fun a z => .inl (.inl z)) (l rfl) with z | z
      · exact .inl fun _ => z
      · exact .inr z
    · rcases List.mem_cons.mp m with z | z
      · exact (l rfl).2.1 (.inl (.inr (.inl z)))
      · exact (l rfl).2.1 (.inr z)
variable {N' : List Str} {sc : Scope} {tg elt iter : Expr} {ifs : List Expr} {pos : Pos}
theorem Ze2 (S : CompScope X own caps N' sc) (hc : X.calm = true) (nd : caps.Nodup) (hi : MI X io p ci tg iter mi)
    (hg : ∀ C cells s₂ H₂ fp, MG (Jw X N' sc C cells s₂ H₂ fp) (Zd3 own.length caps) ci tg g) (ht : ∀ C cells s₂ H₂ fp, MIfs (Jw X N' sc C cells s₂ H₂ fp) (Zd3 own.length caps) pt ifs mt) (he : ∀ C cells s₂ H₂ fp, ME (Jw X N' sc C cells s₂ H₂ fp) (Zd3 own.length caps) pe true elt me)
    (hp : (pt && pe) = true := by rfl) (hs : ∀ x, foldedSetIterable iter X.env x = pure x := by intro _; rfl) : ME X io p true (.ListComp elt [⟨tg, iter, ifs, 0⟩] sc pos) (Zhu own.length caps mi g mt me) := by
  obtain ⟨_, A, si⟩ := hi
  exact ⟨_, Zxe S hc A (fun C cells s₂ H₂ fp => (hg C cells s₂ H₂ fp).canon) (fun C cells s₂ H₂ fp => (ht C cells s₂ H₂ fp).canon) (fun C cells s₂ H₂ fp => (he C cells s₂ H₂ fp).canon) hs, Zwe si nd hp⟩
section
variable {i : Nat} {y : Str} {py spos : Pos}
theorem Jq (own' : Bool) (hN : X.N.Nodup) (hy : X.N[i]? = some y) (hx : Loc X.env.scope y) (S : CompScope X own caps N' sc) (hc : X.calm = true) (nd : caps.Nodup) (hi : MI X io p ci tg iter mi)
    (hg : ∀ C cells s₂ H₂ fp, MG (Jw X N' sc C cells s₂ H₂ fp) (Zd3 own.length caps) ci tg g) (ht : ∀ C cells s₂ H₂ fp, MIfs (Jw X N' sc C cells s₂ H₂ fp) (Zd3 own.length caps) pt ifs mt) (he : ∀ C cells s₂ H₂ fp, ME (Jw X N' sc C cells s₂ H₂ fp) (Zd3 own.length caps) pe true elt me)
    (hp : (pt && pe) = true := by rfl) (hio : i ∉ io := by decide)
    (hsw : swapsWith (.ListComp elt [⟨tg, iter, ifs, 0⟩] sc pos) (some (.Name y py)) spos.line X.env = pure true := by rfl)
    (hs : ∀ x, foldedSetIterable iter X.env x = pure x := by intro _; rfl) (hf : X.fn y = true ∨ X.env.scope.names.lookup y = some .local := by first | exact .inl rfl | exact .inr rfl | assumption) :
    MS X io (.Assign [.Name y py] (.ListComp elt [⟨tg, iter, ifs, 0⟩] sc pos) spos) (if own' = true then Zns i (Zhu own.length caps mi g mt me) else Zxr i (Zhu own.length caps mi g mt me)) := by
  obtain ⟨_, A, si⟩ := hi
  refine ⟨_, Znm (g := gM X.K (Zd3 own.length caps) ci g) (tt := ttM X.K (Zd3 own.length caps) pt mt) (te := tM X.K (Zd3 own.length caps) pe true me) hN hy hx S hc A (fun C cells s₂ H₂ fp => (hg C cells s₂ H₂ fp).canon) (fun C cells s₂ H₂ fp => (ht C cells s₂ H₂ fp).canon) (fun C cells s₂ H₂ fp => (he C cells s₂ H₂ fp).canon) hsw hs hf, ?_⟩
  cases own'
  · exact Z5z (Zwe si nd hp) hio
  · exact Zyz (Zwe si nd hp) hio
end
end
end L2
namespace L2
open PySem PySem.Spec PyProof.Rows
variable {G : PySem.W.Frag}
section
variable {X : Cx} {pins : List (Addr × Obj)} {σ : St} {H : Hp} {s : Shared} {l : Addr} {xs : List V}
noncomputable def Zzl (K : PySem.W.Frag) : R2 := fun x y H Q => ∃ l b xs zs, x = .ref l ∧ y = .ref b ∧ SqL K H l xs ∧ SqL K H b zs ∧ xs.length + zs.length ≤ sizeLine ∧ ∀ p, H p = none → Q (.ref p) (upd H p (.lst (xs ++ zs)))
theorem Inv.lstQ {K : PySem.W.Frag} (hK : X.K = K) (I : Inv X pins σ H s) (hH : SqL K H l xs) : ∃ (its : List Value) (n : Nat), Vals xs its ∧ xs.length = its.length ∧ ∃ o, s.heap.get? l = some o ∧ o.cls = .type "list" ∧ o.dict = none ∧ o.data = .seq its.toArray n := by
  subst hK
  obtain ⟨its, r, ⟨o, n, e, h1, h2, h3⟩, _⟩ := I.list hH
  exact ⟨its, n, r, r.length, o, e, h1, h2, h3⟩
theorem Zi5 {K : PySem.W.Frag} (hK : X.K = K) : OpR X (binaryOp .Add) (Zzl K) := by
  intro pins s σ H x y v u Q I rx ry h
  obtain ⟨l, b, xs, zs, rfl, rfl, hH, hB, hz, q⟩ := h
  cases rx
  cases ry
  obtain ⟨its, n, r, hl, ⟨cls, dd, data, sl⟩, ho, hc, _, hd⟩ := I.lstQ hK hH
  obtain ⟨its2, n2, r2, hl2, ⟨cls2, dd2, data2, sl2⟩, ho2, hc2, _, hd2⟩ := I.lstQ hK hB
  simp only at hc hd hc2 hd2
  subst hc hd hc2 hd2
  have ea : its.toArray ++ its2.toArray = (its ++ its2).toArray := by simp
  refine concat_meets ⟨_, ho, rfl⟩ ⟨_, ho2, rfl⟩ noFill_list_add seq_list_add PySem.F.slot_list_add PySem.F.entry_list_add (PySem.F.args_list_add_2 _ _) (list_addW l b its.toArray its2.toArray n n2 dd dd2 sl sl2 (by simp only [List.size_toArray]; omega)) ⟨ho, ho2, ?_⟩
  rw [ea]
  exact ⟨.ref _, _, I.lnew (t' := s.toks) (r.append r2) (by rw [List.length_append]; omega), rfl, q _ I.fresh⟩
end
noncomputable def asI (d : PyData) (k : Int → Prop) : Prop := match d with | .int i => k i | _ => False
noncomputable def asL (d : PyData) (k : List PyData → Prop) : Prop := match d with | .list ds => k ds | _ => False
section
variable {H : Hp} {L : Addr → Prop} {v : V} {d : PyData}
theorem Da.intInv {k : Int → Prop} (q : Da G H L v d) (h : asI d k) : ∃ i, v = .int i ∧ k i := by
  cases q with
  | int b => exact ⟨b, rfl, h⟩
  | _ => exact h.elim
theorem Da.lstInv {k : List PyData → Prop} (q : Da G H L v d) (h : asL d k) : ∃ a xs ds, v = .ref a ∧ SqL G H a xs ∧ Das G H L xs ds ∧ k ds := by
  cases q with
  | lst l e r => exact ⟨_, _, _, rfl, .inl e, r, h⟩
  | scr s => exact ⟨_, _, _, rfl, s.sq, .ints _, h⟩
  | _ => exact h.elim
end
noncomputable def d2I (C : Int → Int → Prop) (g : Int → Int → PyData) : PyData → PyData → (PyData → Prop) → Prop := fun d e k => asI d fun i => asI e fun j => C i j ∧ k (g i j)
noncomputable def Ztl (g : Int → Int → PyData) : PyData → PyData → (PyData → Prop) → Prop := fun d e k => asI d fun i => asI e fun j => k (g i j)
theorem Zaa {C : Int → Int → Prop} {f : Int → Int → Int} : P2s G (rI C fun i j => .int (f i j)) (d2I C fun i j => .int (f i j)) := fun H L x y d e k Q hx hy h kk => by
  obtain ⟨i, rfl, h⟩ := hx.intInv h
  obtain ⟨j, rfl, h⟩ := hy.intInv h
  exact ⟨i, j, rfl, rfl, h.1, kk _ _ (.int _) h.2⟩
structure MulOk (i j : Int) : Prop where
  ok : IntMulOk i j
structure Z47 (i j : Int) : Prop where
  ok : DivOk i j
structure Z4p (i j : Int) : Prop where
  ok : Z12 i j
theorem Zab {f : Int → Int → Int} : P2s G (rI IntMulOk fun i j => .int (f i j)) (d2I MulOk fun i j => .int (f i j)) := fun H L x y d e k Q hx hy h kk => by
  obtain ⟨i, rfl, h⟩ := hx.intInv h
  obtain ⟨j, rfl, h⟩ := hy.intInv h
  exact ⟨i, j, rfl, rfl, h.1.ok, kk _ _ (.int _) h.2⟩
theorem Zbt {f : Int → Int → Int} : P2s G (rI DivOk fun i j => .int (f i j)) (d2I Z47 fun i j => .int (f i j)) := fun H L x y d e k Q hx hy h kk => by
  obtain ⟨i, rfl, h⟩ := hx.intInv h
  obtain ⟨j, rfl, h⟩ := hy.intInv h
  exact ⟨i, j, rfl, rfl, h.1.ok, kk _ _ (.int _) h.2⟩
theorem Zgz {f : Int → Int → Int} : P2s G (rI Z12 fun i j => .int (f i j)) (d2I Z4p fun i j => .int (f i j)) := fun H L x y d e k Q hx hy h kk => by
  obtain ⟨i, rfl, h⟩ := hx.intInv h
  obtain ⟨j, rfl, h⟩ := hy.intInv h
  exact ⟨i, j, rfl, rfl, h.1.ok, kk _ _ (.int _) h.2⟩
theorem Jk {f : Int → Int → Int} : P2s G (rI0 fun i j => .int (f i j)) (Ztl fun i j => .int (f i j)) := fun H L x y d e k Q hx hy h kk => by
  obtain ⟨i, rfl, h⟩ := hx.intInv h
  obtain ⟨j, rfl, h⟩ := hy.intInv h
  exact ⟨i, j, rfl, rfl, kk _ _ (.int _) h⟩
theorem Zdw {f : Int → Int → Bool} : P2s G (rI0 fun i j => .bl (f i j)) (Ztl fun i j => .bool (f i j)) := fun H L x y d e k Q hx hy h kk => by
  obtain ⟨i, rfl, h⟩ := hx.intInv h
  obtain ⟨j, rfl, h⟩ := hy.intInv h
  exact ⟨i, j, rfl, rfl, kk _ _ (.bl _) h⟩
section
variable {X : Cx}
noncomputable def Z4x (K : PySem.W.Frag) : R2 := fun x y H Q => ∃ (L L' : Addr → Prop) (d e : PyData), Da K H L x d ∧ Da K H L' y e ∧ Shp d ∧ Shp e ∧ Q (.bl (PyData.eqv d e)) H
noncomputable def Z5t (K : PySem.W.Frag) : R2 := fun x y H Q => ∃ (L L' : Addr → Prop) (d e : PyData), Da K H L x d ∧ Da K H L' y e ∧ Shp d ∧ Shp e ∧ Q (.bl (!PyData.eqv d e)) H
theorem Zgy (hu : X.A.units + 64 < cLine) : OpR X (compareOp .Eq) (Z4x X.K) := by
  intro pins s σ H x y v u Q I rx ry h
  obtain ⟨L, L', d, e, h1, h2, s1, s2, q⟩ := h
  obtain ⟨as, k1⟩ := h1.reads rfl I rx (SeqAt.canLay_of_shaped s1)
  obtain ⟨bs, k2⟩ := h2.reads rfl I ry (SeqAt.canLay_of_shaped s2)
  exact eq_dataH k1 k2 s1 s2 hu ⟨.bl _, H, I, rfl, q⟩
theorem Zfb (hu : X.A.units + 64 < cLine) : OpR X (compareOp .NotEq) (Z5t X.K) := by
  intro pins s σ H x y v u Q I rx ry h
  obtain ⟨L, L', d, e, h1, h2, s1, s2, q⟩ := h
  obtain ⟨as, k1⟩ := h1.reads rfl I rx (SeqAt.canLay_of_shaped s1)
  obtain ⟨bs, k2⟩ := h2.reads rfl I ry (SeqAt.canLay_of_shaped s2)
  exact ne_dataH k1 k2 s1 s2 hu ⟨.bl _, H, I, rfl, q⟩
end
structure Zxy (d : PyData) : Prop where
  ok : Shp d
noncomputable def dEq : PyData → PyData → (PyData → Prop) → Prop := fun d e k => Zxy d ∧ Zxy e ∧ k (.bool (PyData.eqv d e))
noncomputable def dNe : PyData → PyData → (PyData → Prop) → Prop := fun d e k => Zxy d ∧ Zxy e ∧ k (.bool (!PyData.eqv d e))
theorem Zlq : P2s G (Z4x G) dEq := fun H L x y d e k Q hx hy h kk => ⟨L, L, d, e, hx, hy, h.1.ok, h.2.1.ok, kk _ _ (.bl _) h.2.2⟩
theorem Zi0 : P2s G (Z5t G) dNe := fun H L x y d e k Q hx hy h kk => ⟨L, L, d, e, hx, hy, h.1.ok, h.2.1.ok, kk _ _ (.bl _) h.2.2⟩
noncomputable def Ziz : PyData → Bool
  | .none => true
  | _ => false
noncomputable def scD : PyData → Bool
  | .none => true
  | .bool _ => true
  | .int _ => true
  | .str _ => true
  | _ => false
noncomputable def eqS : PyData → PyData → Bool
  | .none, .none => true
  | .bool a, .bool b => a == b
  | .bool a, .int b => (if a then 1 else 0) == b
  | .int a, .bool b => a == (if b then 1 else 0)
  | .int a, .int b => a == b
  | .str a, .str b => a == b
  | _, _ => false
noncomputable def memS (d : PyData) (ds : List PyData) : Bool := ds.any fun e => eqS e d
theorem Da.toSc {H : Hp} {L : Addr → Prop} {v : V} {d : PyData} (h : Da G H L v d) (s : scD d = true) : ScD v d := by
  cases h with
  | non => exact .non
  | bl b => exact .bl b
  | int i => exact .int i
  | str x => exact .str x
  | _ => cases s
theorem Da.sc {H : Hp} {L : Addr → Prop} {v : V} {d : PyData} (h : Da G H L v d) (s : scD d = true) : Zhm v = true := by
  cases h.toSc s <;> rfl
theorem Das.sc {H : Hp} {L : Addr → Prop} {vs : List V} {ds : List PyData} (h : Das G H L vs ds) : ds.all scD = true → vs.all Zhm = true :=
  Das.ind (Q := fun vs ds => ds.all scD = true → vs.all Zhm = true) (fun _ => rfl) (fun h _ r s => by
    rw [List.all_cons, Bool.and_eq_true] at s
    rw [List.all_cons, h.sc s.1, r s.2]; rfl) h
theorem Da.eqS {H : Hp} {L : Addr → Prop} {v u : V} {d e : PyData} (h : Da G H L v d) (g : Da G H L u e) (s : scD d = true) (t : scD e = true) : eqV v u = L2.eqS d e := by
  cases h.toSc s <;> cases g.toSc t <;> rfl
theorem Das.memS {H : Hp} {L : Addr → Prop} {v : V} {d : PyData} (h : Da G H L v d) (s : scD d = true) {vs : List V} {ds : List PyData} (g : Das G H L vs ds) : ds.all scD = true → inV v vs = L2.memS d ds :=
  Das.ind (Q := fun vs ds => ds.all scD = true → inV v vs = L2.memS d ds) (fun _ => rfl) (fun g _ r t => by
    rw [List.all_cons, Bool.and_eq_true] at t
    have := r t.2
    unfold inV L2.memS at *
    rw [List.any_cons, List.any_cons, this, g.eqS h t.1 s]) g
noncomputable def dIn (neg : Bool) : PyData → PyData → (PyData → Prop) → Prop := fun d e k => scD d = true ∧ match e with
  | .list ds => ds.all scD = true ∧ k (.bool (if neg then !memS d ds else memS d ds))
  | .tuple ds => ds.all scD = true ∧ k (.bool (if neg then !memS d ds else memS d ds))
  | _ => False
theorem Zuu {neg : Bool} : P2s G (rIn G neg) (dIn neg) := fun H L x y d e k Q hx hy h kk => by
  obtain ⟨s, h⟩ := h
  cases hy with
  | lst l e r => exact ⟨_, _, rfl, .inl (.inl e), hx.sc s, r.sc h.1, by rw [Das.memS hx s r h.1]; exact kk _ _ (.bl _) h.2⟩
  | tup e r => exact ⟨_, _, rfl, .inr (.inl (.inl e)), hx.sc s, r.sc h.1, by rw [Das.memS hx s r h.1]; exact kk _ _ (.bl _) h.2⟩
  | scr ks => exact ⟨_, _, rfl, .inl ks.sq, hx.sc s, (Das.ints (G := G) (H := H) (L := L) _).sc h.1, by rw [Das.memS hx s (Das.ints (G := G) (H := H) (L := L) _) h.1]; exact kk _ _ (.bl _) h.2⟩
  | _ => exact h.elim
noncomputable def ixD (d e : PyData) : Option PyData := match d, e with
  | .list ds, .int i => atI ds i
  | .tuple ds, .int i => atI ds i
  | _, _ => none
noncomputable def dIx : PyData → PyData → (OT → Prop) → Prop := fun d e k => match ixD d e with | some x => k (.fz x) | none => False
theorem Das.atI {H : Hp} {L : Addr → Prop} {xs : List V} {ds : List PyData} {i : Int} {d : PyData} (h : Das G H L xs ds) (e : L2.atI ds i = some d) : ∃ x, L2.atI xs i = some x ∧ Da G H L x d := by
  unfold L2.atI at *
  rw [h.length]
  cases q : ixN ds.length i with
  | none => rw [q] at e; cases e
  | some j =>
    rw [q] at e
    exact h.get e
theorem Yr : P2 G (rIx G) dIx := fun H L x y d e k Q hx hy h kk => by
  unfold dIx at h
  split at h
  case h_2 => exact h.elim
  rename_i z ez
  have fin : ∀ v, Da G H L v z → Q v H := fun v q => kk H v (.fz z) [] (Same.refl _) (.fz (q.wide fun a l _ => ⟨.inl l, fun m => nomatch m⟩)) .nil (fun a m => nomatch m) h
  cases hx with
  | lst l e1 r =>
    cases hy with
    | int i =>
      obtain ⟨v, e2, q⟩ := r.atI (show L2.atI _ i = some z from ez)
      exact .inl ⟨_, _, i, v, rfl, rfl, .inl e1, e2, fin v q⟩
    | _ => cases ez
  | tup e1 r =>
    cases hy with
    | int i =>
      obtain ⟨v, e2, q⟩ := r.atI (show L2.atI _ i = some z from ez)
      exact .inr (.inl ⟨_, _, i, v, rfl, rfl, .inl (.inl e1), e2, fin v q⟩)
    | _ => cases ez
  | scr ks =>
    cases hy with
    | int i =>
      obtain ⟨v, e2, q⟩ := (Das.ints (G := G) (H := H) (L := L) _).atI (show L2.atI _ i = some z from ez)
      exact .inl ⟨_, _, i, v, rfl, rfl, ks.sq, e2, fin v q⟩
    | _ => cases ez
  | _ => cases ez
theorem Own.list {H : Hp} {L : Addr → Prop} {p : Addr} {xs : List V} {ds : List PyData} (hp : H p = none) (h : Das G H L xs ds) : Own G (upd H p (.lst xs)) (fun a => (L a ∨ H a = none) ∧ a ∉ [p]) (.ref p) (.nd (ds.map OT.fz)) [p] :=
  .nd Y7 (((h.wide fun a l q => ⟨.inl l, fun m => q (by rw [List.mem_singleton.mp m]; exact hp)⟩).same (Wi hp _)).owns)
theorem Zel {H : Hp} {p : Addr} (hp : H p = none) : ∀ a ∈ [p], H a = none := fun a m => by rw [List.mem_singleton.mp m]; exact hp
theorem Zg4 (p : Addr) : [p].Nodup := List.nodup_cons.mpr ⟨fun m => (nomatch m), .nil⟩
noncomputable def dCat : PyData → PyData → (OT → Prop) → Prop := fun d e k => asL d fun ds => asL e fun es => ds.length + es.length ≤ sizeLine ∧ k (.nd ((ds ++ es).map OT.fz))
theorem Zl4 : P2 G (Zzl G) dCat := fun H L x y d e k Q hx hy h kk => by
  obtain ⟨a, xs, ds, rfl, e1, r1, h⟩ := hx.lstInv h
  obtain ⟨b, ys, es, rfl, e2, r2, h⟩ := hy.lstInv h
  exact ⟨a, b, xs, ys, rfl, rfl, e1, e2, by rw [r1.length, r2.length]; exact h.1, fun p hp => kk _ _ _ [p] (Wi hp _) (Own.list hp (r1.append r2)) (Zg4 p) (Zel hp) h.2⟩
noncomputable def n1 (k : PyData → Prop) (ds : List PyData) : Prop := match ds with | [d] => k d | _ => False
noncomputable def n2 (k : PyData → PyData → Prop) (ds : List PyData) : Prop := match ds with | [d, e] => k d e | _ => False
theorem Das.one {H : Hp} {L : Addr → Prop} {vs : List V} {ds : List PyData} {k : PyData → Prop} (q : Das G H L vs ds) (h : n1 k ds) : ∃ v d, vs = [v] ∧ ds = [d] ∧ Da G H L v d ∧ k d := by
  cases q with
  | nil => exact h.elim
  | cons q r =>
    cases r with
    | nil => exact ⟨_, _, rfl, rfl, q, h⟩
    | cons _ _ => exact h.elim
noncomputable def Zr3 : PyData → Option Nat
  | .list ds => some ds.length
  | .tuple ds => some ds.length
  | _ => none
noncomputable def Z5i : List PyData → (PyData → Prop) → Prop := fun ds k => n1 (fun d => match Zr3 d with | some n => k (.int n) | none => False) ds
theorem Zg3 : PNs G (Z4u G) Z5i := fun H L xs ds k Q hx h kk => by
  obtain ⟨v, d, rfl, rfl, q, h⟩ := hx.one h
  cases q with
  | lst l e r => exact ⟨_, _, rfl, .inl (.inl e), by rw [r.length]; exact kk _ _ (.int _) h⟩
  | tup e r => exact ⟨_, _, rfl, .inr (.inl (.inl e)), by rw [r.length]; exact kk _ _ (.int _) h⟩
  | scr ks => exact ⟨_, _, rfl, .inl ks.sq, by rw [(Das.ints (G := G) (H := H) (L := L) _).length]; exact kk _ _ (.int _) h⟩
  | _ => exact h.elim
noncomputable def Z5a : List PyData → (PyData → Prop) → Prop := fun ds k => n1 (fun d => asI d fun i => k (.int (if i < 0 then -i else i))) ds
theorem Zka : PNs G (fun xs H Q => ∃ i, xs = [.int i] ∧ Q (.int (if i < 0 then -i else i)) H) Z5a := fun H L xs ds k Q hx h kk => by
  obtain ⟨v, d, rfl, rfl, q, h⟩ := hx.one h
  obtain ⟨i, rfl, h⟩ := q.intInv h
  exact ⟨i, rfl, kk _ _ (.int _) h⟩
noncomputable def Zmf : PyData → Option (List PyData)
  | .list ds => some ds
  | .tuple ds => some ds
  | _ => none
noncomputable def Zzw : List PyData → (OT → Prop) → Prop := fun ds k => n1 (fun d => match Zmf d with | some es => k (.nd (es.map OT.fz)) | none => False) ds
theorem Zq0 : PN G (Zp6 G) Zzw := fun H L xs ds k Q hx h kk => by
  obtain ⟨v, d, rfl, rfl, q, h⟩ := hx.one h
  cases q with
  | lst l e r => exact ⟨_, _, rfl, .inl (.inl e), fun p hp => kk _ _ _ [p] (Wi hp _) (Own.list hp r) (Zg4 p) (Zel hp) h⟩
  | tup e r => exact ⟨_, _, rfl, .inr (.inl (.inl e)), fun p hp => kk _ _ _ [p] (Wi hp _) (Own.list hp r) (Zg4 p) (Zel hp) h⟩
  | scr ks => exact ⟨_, _, rfl, .inl ks.sq, fun p hp => kk _ _ _ [p] (Wi hp _) (Own.list hp (Das.ints _)) (Zg4 p) (Zel hp) h⟩
  | _ => exact h.elim
section
variable {X : Cx} {io : List Nat} {p c : Bool} {a : Expr} {ma : MEt} {pos : Pos}
noncomputable def Z45 (m : MEt) : MEt := fun δ K => m δ fun r δ' => asI r.data fun i => K (.fz (.int (-i))) δ'
theorem Z0z (ha : ME X io p c a ma) : ME X io p true (.UnaryOp .USub a pos) (Z45 ma) := by
  obtain ⟨_, A, s⟩ := ha
  exact ⟨_, Z2y Z1d A, fun C H σ δ fp ex K Q R h k => s C H σ δ fp ex _ _ R h fun H' v r δ' fp' new r1 h1 => by
    obtain ⟨i, rfl, h1⟩ := (r1.da R).intInv h1
    exact ⟨i, rfl, k H' _ _ δ' fp' [] (.fz r1.base r1.stp (.int _)) h1⟩⟩
noncomputable def Zn7 (T : String) : PyData → Bool
  | .none => false
  | .bool _ => T == "bool" || T == "int"
  | .int _ => T == "int"
  | .str _ => T == "str"
  | .list _ => T == "list"
  | .tuple _ => T == "tuple"
  | .dict _ => false
noncomputable def Z6l (T : String) (m : MEt) : MEt := fun δ K => m δ fun r δ' => Zje r.data = false ∧ K (.fz (.bool (Zn7 T r.data))) δ'
end
end L2
namespace L2
open PySem PySem.Spec PyProof.Rows
section
variable {prog : Program} {w : World} {A : Around} {E : Value → Shared → Prop} {h : Heap} {g : Array GenState} {d : Drawn} {t : Nat} {os : OsState} {a C : Addr} {o : Obj} {K : PySem.W.Frag}
theorem Zu7 (M : Model) (hx : h.get? a = some o) (hc : o.cls = .ref C) : PySem.W.Looks M h (typeOf (.ref a)) (.ref C) := hc ▸ (PySem.W.Looks.ld hx).andThen .now
theorem Ztc {R : Result → Shared → Prop} (X : K.In h) (Z : Zik K C) (hx : h.get? a = some o) (hc : o.cls = .ref C) (hq : R (.ok (.ret (.ref C))) ⟨h, g, d, t, os⟩) :
    codeAny (model prog w) A (.call (.builtin "getset_descriptor.__get__") ⟨[.builtin "object.__class__", .ref a, .ref C], []⟩) R ⟨h, g, d, t, os⟩ := by
  have L1 : PySem.W.Looks (model prog w) h (isSubtype (.ref C) (.type (".".intercalate ("object.__class__".cutAt '.').dropLast))) true := by
    rw [F.owner_object_class]
    exact PySem.W.looks_subIn X Z.isO
  have T5 : (⟨h, g, d, t, os⟩ : Shared).TypeIs (.builtin "object.__class__") "getset_descriptor" := F.typeOf_object_class
  refine codeAny_call_builtin F.slot_gs_get.plain F.entry_gs_get (F.slot_gs_get.check _ _ _ _ _ _ _ _ T5 (F.args_gs_get _ _ _) ?_)
  repeat (any_goals (first | assumption | (with_reducible refine wpAny_loadPart_at hx ?_; rw [hc]) | (with_reducible refine wpAny_bind (PySem.W.Looks.at L1 ?_)) | (with_reducible refine PySem.W.Looks.at L1 ?_) | wp_step))
  refine ⟨Code.quiet_builtin _ (by decide +kernel), codeAny_builtin F.entry_object_class ?_⟩
  repeat (any_goals (first | assumption | (with_reducible refine wpAny_loadPart_at hx ?_; rw [hc]) | wp_step))
theorem Zm9 {tk : Tok} {Q : Fin → Shared → Prop} (X : K.In h) (Z : Zik K C) (hx : h.get? a = some o) (hc : o.cls = .ref C) (hq : Q (.done (.ret (.ref C))) ⟨h, g, d, t, os⟩) :
    wpAny (model prog w) A (Builtin.«object.__getattribute__» ⟨[.ref a, .str "__class__" tk], []⟩) Q E ⟨h, g, d, t, os⟩ := by
  have T5 : (⟨h, g, d, t, os⟩ : Shared).TypeIs (.builtin "object.__class__") "getset_descriptor" := F.typeOf_object_class
  have g5 := F.typeOf_object_class
  have g6 := F.slot_gs_get.lookup
  have g7 := F.slot_gs_set.lookup
  have L4 := PySem.W.looks_findIn (M := model prog w) X Z.cl
  repeat (any_goals (first | assumption | (with_reducible refine wpAny_loadPart_at hx ?_; rw [hc]) | (with_reducible refine wpAny_bind (PySem.W.Looks.at L4 ?_)) | (with_reducible refine PySem.W.Looks.at L4 ?_) | wp_step))
  refine Ztc X Z hx hc ?_
  repeat (any_goals (first | assumption | wp_step))
theorem Znw {M : Model} {nameV : Value} {Q : Unit → Shared → Prop} (X : K.In h) (Z : Zik K C) (hx : h.get? a = some o) (hc : o.cls = .ref C) (hq : Q () ⟨h, g, d, t, os⟩) :
    wpAny M A (checkBuiltinCall "BaseException.__getattribute__" ⟨[.ref a, nameV], []⟩) Q E ⟨h, g, d, t, os⟩ := by
  have e1 : builtinKind "BaseException.__getattribute__" = some .slot := by decide +kernel
  have e2 : splitId "BaseException.__getattribute__" = some ("BaseException", "__getattribute__") := by decide +kernel
  have L1 := PySem.W.looks_subIn (M := M) X Z.isB
  have e3 := F.args_bexc_ga (.ref a) nameV
  simp only [checkBuiltinCall, e1, e2]
  refine wpAny_bind ?_
  unfold isInstance
  repeat (first | (with_reducible refine wpAny_loadPart_at hx ?_; rw [hc]) | (with_reducible refine wpAny_bind (PySem.W.Looks.at L1 ?_)) | (with_reducible refine PySem.W.Looks.at L1 ?_) | wp_step)
  exact hq
theorem Zp0 {tk : Tok} {R : Result → Shared → Prop} (X : K.In h) (Z : Zik K C) (hx : h.get? a = some o) (hc : o.cls = .ref C) (hq : R (.ok (.ret (.ref C))) ⟨h, g, d, t, os⟩) :
    codeAny (model prog w) A (.call (.builtin "BaseException.__getattribute__") ⟨[.ref a, .str "__class__" tk], []⟩) R ⟨h, g, d, t, os⟩ :=
  codeAny_call_builtin F.excAttr_ValueError.ga.plain F.entry_bexc_ga (Znw X Z hx hc (Zm9 X Z hx hc hq))
theorem Zwx {tk : Tok} {fill expr : Bool} {Q : Value → Shared → Prop} (X : K.In h) (Z : Zik K C) (hx : h.get? a = some o) (hc : o.cls = .ref C) (hq : Q (.ref C) ⟨h, g, d, t, os⟩) :
    wpAny (model prog w) A (getAttrBy (.ref a) (.str "__class__" tk) fill expr) Q E ⟨h, g, d, t, os⟩ := by
  have f3 := F.excAttr_ValueError.ga.bind (.ref a)
  have y0 : (expr && onTheHeap (Value.builtin "BaseException.__getattribute__")) = false := by cases expr <;> rfl
  have y2 : (Value.builtin "BaseException.__getattribute__" == Value.builtin "object.__getattribute__") = false := by decide +kernel
  have y1 : (onTheHeap (Value.ref C) && Value.builtin "BaseException.__getattribute__" == Value.builtin "object.__getattribute__") = false := by rw [y2]; rfl
  have L2 := PySem.W.looks_findIn (M := model prog w) X Z.ga
  have L3 := PySem.W.looks_findIn (M := model prog w) X Z.gt
  repeat (any_goals (first | assumption | (with_reducible refine wpAny_loadPart_at hx ?_; rw [hc]) | (with_reducible refine PySem.W.Looks.at L2 ?_) | (with_reducible refine PySem.W.Looks.at L3 ?_) | (with_reducible refine wpAny_bind (PySem.W.Looks.at L2 ?_)) | (with_reducible refine wpAny_bind (PySem.W.Looks.at L3 ?_)) | wp_step))
  refine Zp0 X Z hx hc ?_
  repeat (any_goals (first | assumption | wp_step))
theorem Zod {Q : Option Value → Shared → Prop} (X : K.In h) (Z : Zik K C) (hx : h.get? a = some o) (hc : o.cls = .ref C) (hq : Q (some (.ref C)) ⟨h, g, d, t + 1, os⟩) :
    wpAny (model prog w) A (getAttr? (.ref a) "__class__") Q E ⟨h, g, d, t, os⟩ := by
  unfold getAttr? getAttrBy?
  repeat (any_goals (first | assumption | with_reducible apply Zwx X Z hx hc | wp_step))
end
theorem Ztb {K : PySem.W.Frag} {a C : Addr} (Z : Zik K C) : PySem.W.KitX K (.ref a) (.ref C) (fun h => ∃ o, h.get? a = some o ∧ o.cls = .ref C) where
  ty := fun M h _ p => let ⟨_, hx, hc⟩ := p; Zu7 M hx hc
  it := fun M h X _ => by
    have z := Z.isC
    unfold PySem.W.clsIn at z
    split at z
    · rename_i ho
      intro A' Q' E' s' k q
      unfold isType loadHead
      exact wpAny_bind (wpAny_loadPart (k _ _ (X _ _ ho)) (wpAny_pure q))
    · cases z
  ne := fun h tp dd its n sl X htp => by
    have z := Z.isC
    refine Bool.eq_false_iff.mpr fun q => ?_
    have e : C = tp := Value.ref.inj (beq_iff_eq.mp q)
    subst e
    unfold PySem.W.clsIn at z
    split at z
    · rename_i ho
      have z := (X _ _ ho).symm.trans htp
      cases z
    · cases z
  ca := fun {_ _ _ _ _ s} X p k => by
    obtain ⟨h, g, d, t, os⟩ := s
    obtain ⟨_, hx, hc⟩ := p
    exact Zod X Z hx hc k
end L2
namespace L2
open PySem PySem.Spec PyProof.Rows
variable {G : PySem.W.Frag}
noncomputable def tyD : PyData → String
  | .none => "NoneType"
  | .bool _ => "bool"
  | .int _ => "int"
  | .str _ => "str"
  | .list _ => "list"
  | .tuple _ => "tuple"
  | .dict _ => "dict"
theorem Ztp {K : PySem.W.Frag} {T : String} {d : PyData} (h : T = "int" ∨ T = "bool" ∨ T = "str" ∨ T = "list" ∨ T = "tuple") (hd : ∀ kvs, d ≠ .dict kvs) : PySem.W.kitOne K (.type (tyD d)) (.type T) = some (Zn7 T d) := by
  rcases h with rfl | rfl | rfl | rfl | rfl <;> cases d <;> first | rfl | (exact absurd rfl (hd _)) | (unfold PySem.W.kitOne PySem.W.kitCls; rfl) | (simp only [tyD, Zn7]; decide +kernel)
noncomputable def Z2a (G : PySem.W.Frag) : List V → Hp → VK → Prop := fun xs H Q => ∃ (x : V) (T : String) (L : Addr → Prop) (d : PyData), xs = [x, .ty T] ∧ Da G H L x d ∧ Zje d = false ∧ (T = "int" ∨ T = "bool" ∨ T = "str" ∨ T = "list" ∨ T = "tuple") ∧ Q (.bl (Zn7 T d)) H
theorem Zpt {X : Cx} (hK : X.K = G) : Zfq X (.builtin "isinstance") (Z2a G) := by
  subst hK
  intro pins s σ H xs us Q I r h
  obtain ⟨x, T, L, d, rfl, q, hf, hT, h⟩ := h
  obtain ⟨u, w', rfl, r1, r2⟩ := vals2 r
  cases (show w' = Value.type T from r2)
  have fin : ∀ tk : Nat, EP X pins σ Q (.bool (Zn7 T d)) { s with toks := tk } := fun tk => ⟨.bl _, H, I.tok tk, rfl, h⟩
  cases q with
  | non => exact Zb9 I r1 .non (Ztp (d := .none) hT fun _ z => by cases z) fin
  | bl b => exact Zb9 I r1 (.bl b) (Ztp (d := .bool b) hT fun _ z => by cases z) fin
  | int b => exact Zb9 I r1 (.int b) (Ztp (d := .int b) hT fun _ z => by cases z) fin
  | str b => exact Zb9 I r1 (.str b) (Ztp (d := .str b) hT fun _ z => by cases z) fin
  | lst l e qs =>
    rename_i ds
    rcases e with e | ⟨o, e⟩
    · exact Zb9 I r1 (.lst e) (Ztp (d := .list ds) hT fun _ z => by cases z) fin
    · exact Zb9 I r1 (.frz e) (Ztp (d := .list ds) hT fun _ z => by cases z) fin
  | tup e qs =>
    rename_i ds
    exact Zb9 I r1 (.tup e) (Ztp (d := .tuple ds) hT fun _ z => by cases z) fin
  | scr ks =>
    rename_i a ns
    cases (show u = Value.ref a from r1)
    obtain ⟨its, vs, ⟨o, n, ho, hc, hd, hs⟩, _⟩ := I.list (ks.sq (H := H))
    exact PySem.W.kia_one PySem.W.kitx_list I.kIn ⟨o, ho, hc⟩ (Ztp (d := .list (ns.map PyData.int)) hT fun _ z => by cases z) (fun z => nomatch z) fin
  | exc Z hn e =>
    rename_i a C x
    cases (show u = Value.ref a from r1)
    obtain ⟨⟨o, vs, ho, hc, _⟩, _, _⟩ := (show ObjOk X.prog X.w H s.heap a (.ext (ExO C a)) from I.hok a _ e)
    refine PySem.W.kia_one (Ztb Z) I.kIn ⟨o, ho, hc⟩ (b := Zn7 T (exD x)) ?_ (fun z => nomatch z) fin
    rcases hT with rfl | rfl | rfl | rfl | rfl
    · exact Z.k1
    · exact Z.k2
    · exact Z.k3
    · exact Z.k4
    · exact Z.k5
  | fn _ => cases hf
section
variable {X : Cx} {io : List Nat} {p c p' c' : Bool} {a b e : Expr} {ma m : MEt} {pos pp p2 : Pos} {K : PySem.W.Frag}
theorem Zqz {T : Str} {T' : String} (hT : T' = "int" ∨ T' = "bool" ∨ T' = "str" ∨ T' = "list" ∨ T' = "tuple") (hg : Gl X "isinstance") (hm : X.mg "isinstance" = none) (hv : bootBuiltins "isinstance" = some (.builtin "isinstance"))
    (hg2 : Gl X T) (hm2 : X.mg T = none) (hv2 : bootBuiltins T = some (.type T')) (ha : ME X io p c a ma) (hn : T ≠ "__name__" := by decide) (hd : (T == ("__debug__" : Str)) = false := by decide)
    (he : starEach [a, .Name T p2] X.env = (false, eval a X.env) :: starEach [.Name T p2] X.env := by rfl) (he2 : starEach [.Name T p2] X.env = (false, eval (.Name T p2) X.env) :: starEach [] X.env := by rfl) (hpl : (backTo pos (starEach [.Name T p2] X.env)).any (·.1) = false := by rfl) :
    ME X io p true (.Call (.Name "isinstance" pp) [a, .Name T p2] [] pos) (Z6l T' ma) := by
  obtain ⟨_, A, s⟩ := ha
  refine ⟨_, Ziu (Zpt rfl) hg hm hv (Zg9 A (Zg9 (Zwr (v := .ty T') hg2 hm2 hv2 rfl hn hd) Zl2 he2) he) (by decide) (by decide) he hpl, ?_⟩
  intro C H σ δ fp ex K' Q R h k
  refine s C H σ δ fp ex _ _ R h fun H' v r δ' fp' new r1 h1 => ?_
  exact ⟨v, T', _, _, rfl, r1.da R, h1.1, hT, k H' _ _ δ' fp' [] (.fz r1.base r1.stp (.bl _)) h1.2⟩
noncomputable abbrev MOt := Zn → (Option Int → Zn → Prop) → Prop
noncomputable def MO (X : Cx) (io : List Nat) (p : Bool) (e : Option Expr) (m : MOt) : Prop := ∃ t, PO X e t ∧ ∀ (C : MC X.K) (H : Hp) (σ : St) (δ : Zn) (fp : Fp) (ex : Addr → Prop) (K : Option Int → Zn → Prop) (Q : Option Int → Hp → Prop), Rel C io H σ δ fp ex → m δ K →
  (∀ H' b δ' fp', Rel C io H' σ δ' fp' ex → Stp p H δ fp H' δ' fp' → K b δ' → Q b H') → t σ H Q
noncomputable def Zq3 : MOt := fun δ K => K none δ
noncomputable def Z1b (m : MEt) : MOt := fun δ K => m δ fun r δ' => asI r.data fun i => K (some i) δ'
theorem Zpg : MO X io true none Zq3 := ⟨_, Zuz, fun C H σ δ fp ex K Q R h k => k H none δ fp R (.refl _ _ _ _) h⟩
theorem Zi4 (h : ME X io p c e m) : MO X io p (some e) (Z1b m) := by
  obtain ⟨_, A, s⟩ := h
  exact ⟨_, Zwh A, fun C H σ δ fp ex K Q R h k => s C H σ δ fp ex _ _ R h fun H' v r δ' fp' new r1 h1 => by
    obtain ⟨i, rfl, h1⟩ := (r1.da R).intInv h1
    exact ⟨i, rfl, k H' _ δ' fp' r1.base r1.stp h1⟩⟩
noncomputable def cutD (ds : List PyData) (lo hi : Option Int) : List PyData := (ds.drop (HT.sIx ds.length 0 lo)).take (HT.sIx ds.length ds.length hi - HT.sIx ds.length 0 lo)
theorem Das.cut {H : Hp} {L : Addr → Prop} {xs : List V} {ds : List PyData} (h : Das G H L xs ds) (lo hi : Option Int) : Das G H L (Zxp xs lo hi) (cutD ds lo hi) := by
  unfold Zxp cutD
  rw [h.length]
  exact (h.drop _).take _
noncomputable def mSl (m : MEt) (ml mh : MOt) : MEt := fun δ K => m δ fun r δ1 => ml δ1 fun lo δ2 => mh δ2 fun hi δ3 => asL r.data fun ds => K (.nd ((cutD ds lo hi).map OT.fz)) δ3
theorem Zw8 {lo hi : Option Expr} {ml mh : MOt} (ha : ME X io true c a ma) (hl : MO X io true lo ml) (hh : MO X io true hi mh) : ME X io true c (.Subscript a (.Slice lo hi none p2) pos) (mSl ma ml mh) := by
  obtain ⟨_, A, s⟩ := ha
  obtain ⟨_, B, sl⟩ := hl
  obtain ⟨_, D, sh⟩ := hh
  refine ⟨_, Zro (Zs7 rfl) A B D, ?_⟩
  intro C H σ δ fp ex K' Q R h k
  refine s C H σ δ fp ex _ _ R h fun H1 v r δ1 fp1 new r1 h1 => ?_
  refine sl C H1 σ δ1 fp1 ex _ _ r1.base h1 fun H2 l δ2 fp2 R2 S2 h2 => ?_
  refine sh C H2 σ δ2 fp2 ex _ _ R2 h2 fun H3 u δ3 fp3 R3 S3 h3 => ?_
  have s2 : Same H1 H2 := fun b o e => S2.keep b o e (.inl rfl)
  have s3 : Same H2 H3 := fun b o e => S3.keep b o e (.inl rfl)
  obtain ⟨e1, e2⟩ := r1.stp.env rfl
  obtain ⟨e3, e4⟩ := S2.env rfl
  obtain ⟨e5, e6⟩ := S3.env rfl
  have q := ((r1.da R).same s2).same s3
  obtain ⟨a', xs, ds, rfl, e, qs, h3⟩ := q.lstInv h3
  refine ⟨a', xs, rfl, e, fun p hp => ?_⟩
  have S := (r1.stp.trans S2).trans S3
  refine k _ _ _ δ3 fp3 [p] (RE.tree R R3 S (Wi hp _) (Zel hp) (Zg4 p) (Own.list hp ((qs.cut l u).wide fun a l _ => ?_))) h3
  rw [e6, e4]
  exact l
theorem Owns.set {H : Hp} {L : Addr → Prop} {x : V} {r : OT} (hr : Own G H L x r []) : ∀ {xs : List V} {ts : List OT} {as : List Addr} (j : Nat), Owns G H L xs ts as → ∃ bs, Owns G H L (xs.set j x) (ts.set j r) bs ∧ bs.Sublist as
  | _, _, _, _, .nil => ⟨[], .nil, .refl _⟩
  | _, _, _, 0, .cons k t => ⟨_, .cons hr t, by simp⟩
  | _, _, _, j + 1, .cons (as := as) k t => by
    obtain ⟨bs, o, s⟩ := Owns.set hr j t
    exact ⟨as ++ bs, .cons k o, List.Sublist.append_left s as⟩
theorem Owns.get {H : Hp} {L : Addr → Prop} : ∀ {xs : List V} {ts : List OT} {as : List Addr} {j : Nat} {t : OT}, Owns G H L xs ts as → ts[j]? = Option.some t → ∃ x bs, xs[j]? = Option.some x ∧ Own G H L x t bs ∧ bs.Sublist as
  | _, _, _, _, _, .nil, e => by simp at e
  | _, _, _, 0, _, .cons k _, e => by simp at e; subst e; exact ⟨_, _, rfl, k, List.sublist_append_left _ _⟩
  | _, _, _, j + 1, t, .cons _ r, e => by
    obtain ⟨x, bs, h1, h2, h3⟩ := Owns.get (j := j) (t := t) r (by simpa using e)
    exact ⟨x, bs, by simpa using h1, h2, h3.trans (List.sublist_append_right _ _)⟩
theorem Rel.top {C : MC G} {H : Hp} {σ : St} {δ : Zn} {fp : Fp} {ex : Addr → Prop} {i : Nat} {ts ts' : List OT} {a' : Addr} {xs ys : List V} {bs bs' : List Addr} (R : Rel C io H σ δ fp ex) (hi : δ[i]? = some (some (.nd ts))) (hv : σ[i]? = some (some (.ref a')))
    (hf : fp i = a' :: bs) (hx : H a' = some (.lst xs)) (o : Owns G H (Lf C fp ex) ys ts' bs') (hs : bs'.Sublist bs) :
    Rel C io (upd H a' (.lst ys)) σ (δ.set i (some (.nd ts'))) (fpu fp i (a' :: bs')) ex ∧ Stp false H δ fp (upd H a' (.lst ys)) (δ.set i (some (.nd ts'))) (fpu fp i (a' :: bs')) := by
  have nd := R.nd i
  rw [hf] at nd
  have hn := List.nodup_cons.mp nd
  have hm : a' ∈ fp i := by rw [hf]; exact .head _
  have ne' : ∀ a, ¬ Foot fp a → a ≠ a' := fun a h z => h ⟨i, by rw [z]; exact hm⟩
  have kp : ∀ b o, H b = some o → b ≠ a' → upd H a' (.lst ys) b = some o := fun b o e n => by rw [Yl n]; exact e
  have sub : ∀ a, a ∈ a' :: bs' → a ∈ fp i := fun a m => by
    rw [hf]
    rcases List.mem_cons.mp m with rfl | m
    · exact .head _
    · exact .tail _ (hs.subset m)
  have o' : Owns G (upd H a' (.lst ys)) (Lf C (fpu fp i (a' :: bs')) (exu ex [])) ys ts' bs' := by
    have f0 : ∀ a, ¬ Foot fp a → ¬ Foot (fpu fp i (a' :: bs')) a := fun a h z => by
      rcases z.of_u with z | ⟨j, _, z⟩
      · exact h ⟨i, sub a z⟩
      · exact h ⟨j, z⟩
    have f1 : ∀ a zs, Lf C fp ex a → Rd H a (.lst zs) → Lf C (fpu fp i (a' :: bs')) (exu ex []) a ∧ Rd (upd H a' (.lst ys)) a (.lst zs) := fun a zs l q => by
      refine ⟨⟨f0 a l.1, fun z => l.2.1 (Zdo.mp z), l.2.2⟩, ?_⟩
      rcases q with q | ⟨u, q⟩
      · exact .inl (kp a _ q (ne' a l.1))
      · exact .inr ⟨u, kp a _ q (ne' a l.1)⟩
    have f2 : ∀ a (zs : ImO), H a = some zs.ho → upd H a' (.lst ys) a = some zs.ho := fun a zs q => kp a _ q fun z => ImO.nl q (z ▸ hx)
    exact o.frame f1 f2 fun a m zs q => kp a _ q fun z => hn.1 (hs.subset (z ▸ m))
  have key := R.change (new := []) (as' := a' :: bs') (t' := .nd ts') (H' := upd H a' (.lst ys)) hi hv (fun b o e nb => kp b o e fun z => nb (by rw [z]; exact hm)) (fun b e => by
      by_cases q : b = a'
      · subst q; rw [Y7] at e; cases e
      · rwa [Yl q] at e) (.nd Y7 o') (List.nodup_cons.mpr ⟨fun m => hn.1 (hs.subset m), hn.2.sublist hs⟩) (fun a m => .inl (sub a m)) (fun a m => nomatch m)
  exact ⟨key.1.drop fun a z => .inl z, key.2⟩
end
end L2
namespace L2
open PySem PySem.Spec PyProof.Rows
variable {G : PySem.W.Frag}
section
variable {X : Cx} {io : List Nat} {p c p' c' : Bool} {a b e : Expr} {ma m mi mj : MEt} {pos pp p2 apos cpos px : Pos} {K : PySem.W.Frag} {i : Nat} {x : Str}
theorem Rel.ownNd {C : MC G} {H : Hp} {σ : St} {δ : Zn} {fp : Fp} {ex : Addr → Prop} {ts : List OT} (R : Rel C io H σ δ fp ex) (hi : δ[i]? = some (some (.nd ts))) :
    ∃ a' xs bs, σ[i]? = some (some (.ref a')) ∧ H a' = some (.lst xs) ∧ Owns G H (Lf C fp ex) xs ts bs ∧ fp i = a' :: bs := by
  obtain ⟨v, e, o⟩ := R.own i _ hi
  generalize hf : fp i = as at o
  cases o with
  | nd h r => exact ⟨_, _, _, e, h, r, rfl⟩
noncomputable def Zjg (i : Nat) (m : MEt) : MSt := fun D δ => match δ[i]? with
  | some (some (.nd _)) => m δ fun r δ1 => match δ1[i]? with
    | some (some (.nd ts)) => ts.length < sizeLine ∧ D.nx (δ1.set i (some (.nd (ts ++ [.fz r.data]))))
    | _ => False
  | _ => False
theorem Zcs (i : Nat) (he : ME X io p true e m) (hN : X.N[i]? = some x := by rfl) (hv : Vis X.env.scope x := by first | exact Or.inl rfl | exact Or.inr (Or.inl rfl) | exact Or.inr (Or.inr rfl)) (hd : (x == ("__debug__" : Str)) = false := by decide)
    (hcd : (x == ("__classdict__" : Str)) = false := by decide)
    (hbase : attributeBase (.Name x px) "append" X.env (eval (.Name x px) X.env) = eval (.Name x px) X.env := by rfl)
    (hfew : ((backTo cpos (starEach [e] X.env)).all (fun x => !x.1) && (backToKw cpos (keywordEach [] X.env)).all (fun x => x.1.isSome)
      && decide ([e].length + ([] : List Keyword).length + (if ([] : List Keyword).isEmpty then 0 else 1) < 30)) = true := by rfl)
    (hline : (apos.endLine == cpos.line) = true := by rfl) (hs : starEach [e] X.env = (false, eval e X.env) :: starEach [] X.env := by rfl) (hplain : (backTo cpos (starEach [] X.env)).any (·.1) = false := by rfl)
    (hsw : swapsWith (.Call (.Attribute (.Name x px) "append" apos) [e] [] cpos) none pos.line X.env = pure false := by rfl) :
    MS X io (.Expr (.Call (.Attribute (.Name x px) "append" apos) [e] [] cpos) pos) (Zjg i m) := by
  obtain ⟨_, A, s⟩ := he
  refine ⟨_, Zve (Z2n PySem.F.plainAttrs_list PySem.F.slot_list_append PySem.F.type_list_append Zkq (pv i hN hv hd hcd) (Zg9 A Zl2 hs) hbase hfew hline hs hplain) hsw, fun C H σ δ fp ex D D' R h E => ?_⟩
  unfold Zjg at h
  split at h
  case h_2 => exact h.elim
  rename_i ts0 hi0
  obtain ⟨a', xs0, bs0, hv0, hx0, _, _⟩ := R.ownNd hi0
  refine ⟨_, hv0, .inl ⟨rfl, xs0, .inl (.inl hx0)⟩, ?_⟩
  refine s C H σ δ fp ex _ _ R h fun H1 v r δ1 fp1 new r1 h1 => ?_
  split at h1
  case h_2 => exact h1.elim
  rename_i ts1 hi1
  have R1 := r1.base
  obtain ⟨a1, xs1, bs1, hv1, hx1, o1, hf1⟩ := R1.ownNd hi1
  rw [hv0] at hv1
  cases hv1
  have q := (r1.da R).wide (L' := Lf C fp1 ex) fun a l _ => l rfl
  refine ⟨a', xs1, v, rfl, rfl, hx1, by rw [o1.length]; exact h1.1, ?_⟩
  have o2 := o1.snoc (.fz q)
  obtain ⟨R2, S2⟩ := R1.top hi1 hv0 hf1 hx1 o2 (by simp)
  exact E.nx _ σ _ _ R2 (r1.stp.kp.trans S2.kp) h1.2
noncomputable def Z6k (i : Nat) (m mi : MEt) : MSt := fun D δ => m δ fun r δ1 => match δ1[i]? with
  | some (some (.nd ts)) => mi δ1 fun n _ => asI n.data fun k => match ixN ts.length k with
    | some j => D.nx (δ1.set i (some (.nd (ts.set j (.fz r.data)))))
    | none => False
  | _ => False
noncomputable def Z0c (i : Nat) (m mi mj : MEt) : MSt := fun D δ => m δ fun r δ1 => match δ1[i]? with
  | some (some (.nd ts)) => mi δ1 fun n _ => asI n.data fun k => match ixN ts.length k with
    | some j => match ts[j]? with
      | some (.nd us) => mj δ1 fun n' _ => asI n'.data fun k' => match ixN us.length k' with
        | some j' => D.nx (δ1.set i (some (.nd (ts.set j (.nd (us.set j' (.fz r.data)))))))
        | none => False
      | _ => False
    | none => False
  | _ => False
theorem SE.pureAfter {t : TE} {C : MC G} {H : Hp} {σ : St} {δ : Zn} {fp : Fp} {ex : Addr → Prop} {K' : OT → Zn → Prop} {Q : VK} (s : SE G io true c t m) (R : Rel C io H σ δ fp ex) (h : m δ K') (k : ∀ H' v r, Rel C io H' σ δ fp ex → Same H H' → Da G H' (fun a => c = true → Lf C fp ex a) v r.data → K' r δ → Q v H') : t σ H Q :=
  s C H σ δ fp ex _ _ R h fun H1 v r δ1 fp1 new r1 h1 => by
    obtain ⟨e1, e2⟩ := r1.stp.env rfl
    have q := r1.da R
    have R1 := r1.base
    rw [e1] at R1 h1
    rw [e2] at R1 q
    exact k H1 v r R1 (fun b o e => r1.stp.keep b o e (.inl rfl)) q h1
theorem Zzb (i : Nat) (he : ME X io p true e m) (hj : ME X io true c a mi) (hN : X.N[i]? = some x := by rfl) (hv : Vis X.env.scope x := by first | exact Or.inl rfl | exact Or.inr (Or.inl rfl) | exact Or.inr (Or.inr rfl)) (hd : (x == ("__debug__" : Str)) = false := by decide)
    (hcd : (x == ("__classdict__" : Str)) = false := by decide)
    (hpg : ∀ {to ti : TE}, PE X (.Name x px) to → PE X a ti → PG X (.Subscript (.Name x px) a pp) (Z2x to ti Zvd) := by intro _ _ A B; exact Zt0 A B set_list)
    (hs : swapsWithSole [.Subscript (.Name x px) a pp] e pos.line X.env = pure false := by rfl) (hw : swappedStores [.Subscript (.Name x px) a pp] e X.env = pure none := by rfl)
    (h1 : (assignEach [.Subscript (.Name x px) a pp] X.env).map (·.2) = [assign (.Subscript (.Name x px) a pp) X.env] := by rfl) : MS X io (.Assign [.Subscript (.Name x px) a pp] e pos) (Z6k i m mi) := by
  obtain ⟨_, A, s⟩ := he
  obtain ⟨_, B, sj⟩ := hj
  refine ⟨_, Zt5 A (hpg (pv i hN hv hd hcd) B) hs hw h1, fun C H σ δ fp ex D D' R h E => ?_⟩
  refine s C H σ δ fp ex _ _ R h fun H1 v r δ1 fp1 new r1 h1 => ?_
  have R1 := r1.base
  have q := (r1.da R).wide (L' := Lf C fp1 ex) fun a l _ => l rfl
  split at h1
  case h_2 => exact h1.elim
  rename_i ts hi
  obtain ⟨a', _, _, hv0, _⟩ := R1.ownNd hi
  refine ⟨_, hv0, ?_⟩
  refine sj.pureAfter R1 h1 fun H2 w n R2 s2 q2 h2 => ?_
  obtain ⟨k, rfl, h2⟩ := q2.intInv h2
  split at h2
  case h_2 => exact h2.elim
  rename_i j hj
  obtain ⟨a2, xs, bs, hv2, hx, o, hf⟩ := R2.ownNd hi
  rw [hv0] at hv2
  cases hv2
  obtain ⟨bs', o', hs'⟩ := Owns.set (.fz (q.same s2)) j o
  refine ⟨a', xs, k, j, rfl, rfl, hx, by rw [o.length]; exact hj, ?_⟩
  obtain ⟨R3, S3⟩ := R2.top hi hv0 hf hx o' hs'
  exact E.nx _ σ _ _ R3 (r1.stp.kp.trans (Kp.trans ⟨fun b o e _ => s2 _ _ e, fun z => (nomatch z), fun a z => .inl z, s2.al⟩ S3.kp)) h2
theorem Owns.deep {H : Hp} {L : Addr → Prop} {b' : Addr} {ws ws' : List V} {us us' : List OT} (hb : H b' = Option.some (HO.lst ws)) (hL : ¬ L b') (hc : ∀ cs, Owns G H L ws us cs → ∃ cs', Owns G H L ws' us' cs' ∧ cs'.Sublist cs) :
    ∀ {xs : List V} {ts : List OT} {as : List Addr} {j : Nat}, Owns G H L xs ts as → as.Nodup → xs[j]? = Option.some (.ref b') → ts[j]? = Option.some (.nd us) → ∃ as', Owns G (upd H b' (.lst ws')) L xs (ts.set j (.nd us')) as' ∧ as'.Sublist as ∧ b' ∈ as
  | _, _, _, _, .nil, _, e, _ => by simp at e
  | _, _, _, 0, .cons (as := as) (bs := bs) k t, nd, e, e' => by
    simp at e e'
    subst e e'
    have nd' := List.nodup_append.mp nd
    have kp : ∀ a o, a ≠ b' → H a = Option.some o → upd H b' (.lst ws') a = Option.some o := fun a o n q => by rw [Yl n]; exact q
    have f1 : ∀ a zs, L a → Rd H a (.lst zs) → L a ∧ Rd (upd H b' (.lst ws')) a (.lst zs) := fun a zs l q => ⟨l, by
      have na : a ≠ b' := fun z => hL (z ▸ l)
      rcases q with q | ⟨u, q⟩
      · exact .inl (kp a _ na q)
      · exact .inr ⟨u, kp a _ na q⟩⟩
    have f2 : ∀ a (zs : ImO), H a = Option.some zs.ho → upd H b' (.lst ws') a = Option.some zs.ho := fun a zs q => kp a _ (fun z => ImO.nl q (z ▸ hb)) q
    cases k with
    | nd h r =>
      rename_i xs0 as0
      rw [hb] at h
      cases h
      have nd2 := List.nodup_cons.mp nd'.1
      obtain ⟨cs', o', s'⟩ := hc _ r
      refine ⟨b' :: cs' ++ bs, .cons (.nd Y7 (o'.frame f1 f2 fun a m zs q => kp a _ (fun z => nd2.1 (s'.subset (z ▸ m))) q)) (t.frame f1 f2 fun a m zs q => kp a _ (fun z => nd'.2.2 b' (.head _) a m z.symm) q), List.Sublist.append_right (List.Sublist.cons₂ _ s') bs, List.mem_append_left _ (.head _)⟩
  | _, _, _, j + 1, .cons (as := as) (bs := bs) k t, nd, e, e' => by
    have nd' := List.nodup_append.mp nd
    obtain ⟨as', o, s, m⟩ := Owns.deep hb hL hc (j := j) t nd'.2.1 (by simpa using e) (by simpa using e')
    have nb : b' ∉ as := fun z => nd'.2.2 b' z b' m rfl
    refine ⟨as ++ as', .cons ?_ o, List.Sublist.append_left s as, List.mem_append_right _ m⟩
    have kp : ∀ a o, a ≠ b' → H a = Option.some o → upd H b' (.lst ws') a = Option.some o := fun a o n q => by rw [Yl n]; exact q
    refine k.frame (fun a zs l q => ⟨l, ?_⟩) (fun a zs q => kp a _ (fun z => ImO.nl q (z ▸ hb)) q) fun a m' zs q => kp a _ (fun z => nb (z ▸ m')) q
    have na : a ≠ b' := fun z => hL (z ▸ l)
    rcases q with q | ⟨u, q⟩
    · exact .inl (kp a _ na q)
    · exact .inr ⟨u, kp a _ na q⟩
theorem Zi3 (i : Nat) (he : ME X io p true e m) (hj : ME X io true c a mi) (hk : ME X io true c' b mj) (hPa : Zk5 a) (hN : X.N[i]? = some x := by rfl) (hv : Vis X.env.scope x := by first | exact Or.inl rfl | exact Or.inr (Or.inl rfl) | exact Or.inr (Or.inr rfl)) (hd : (x == ("__debug__" : Str)) = false := by decide)
    (hcd : (x == ("__classdict__" : Str)) = false := by decide)
    (hpg : ∀ {to ti : TE}, PE X (.Subscript (.Name x px) a pp) to → PE X b ti → PG X (.Subscript (.Subscript (.Name x px) a pp) b p2) (Z2x to ti Zvd) := by intro _ _ A B; exact Zt0 A B set_list)
    (hs : swapsWithSole [.Subscript (.Subscript (.Name x px) a pp) b p2] e pos.line X.env = pure false := by rfl) (hw : swappedStores [.Subscript (.Subscript (.Name x px) a pp) b p2] e X.env = pure none := by rfl)
    (h1 : (assignEach [.Subscript (.Subscript (.Name x px) a pp) b p2] X.env).map (·.2) = [assign (.Subscript (.Subscript (.Name x px) a pp) b p2) X.env] := by rfl) :
    MS X io (.Assign [.Subscript (.Subscript (.Name x px) a pp) b p2] e pos) (Z0c i m mi mj) := by
  obtain ⟨_, A, s⟩ := he
  obtain ⟨_, B, sj⟩ := hj
  obtain ⟨_, B2, sk⟩ := hk
  refine ⟨_, Zt5 A (hpg (Zxt (Zs5 rfl) (pv i hN hv hd hcd) B hPa) B2) hs hw h1, fun C H σ δ fp ex D D' R h E => ?_⟩
  refine s C H σ δ fp ex _ _ R h fun H1 v r δ1 fp1 new r1 h1 => ?_
  have R1 := r1.base
  have q := (r1.da R).wide (L' := Lf C fp1 ex) fun a l _ => l rfl
  split at h1
  case h_2 => exact h1.elim
  rename_i ts hi
  obtain ⟨a', _, _, hv0, _⟩ := R1.ownNd hi
  refine ⟨_, hv0, ?_⟩
  refine sj.pureAfter R1 h1 fun H2 w n R2 s2 q2 h2 => ?_
  obtain ⟨k, rfl, h2⟩ := q2.intInv h2
  split at h2
  case h_2 => exact h2.elim
  rename_i j hj
  split at h2
  case h_2 => exact h2.elim
  rename_i us hus
  -- the row
  obtain ⟨a2, xs2, bs2, hv2, hx2, o2, hf2⟩ := R2.ownNd hi
  rw [hv0] at hv2
  cases hv2
  obtain ⟨xr, cr, hxr, orow, _⟩ := o2.get hus
  obtain ⟨b', rfl⟩ : ∃ b', xr = V.ref b' := by
    cases orow with
    | nd h r => exact ⟨_, rfl⟩
  refine ⟨a', xs2, k, V.ref b', rfl, rfl, .inl (.inl hx2), ?_, ?_⟩
  · unfold atI
    rw [o2.length, hj]
    exact hxr
  refine sk.pureAfter R2 h2 fun H3 w' n' R3 s3 q3 h3 => ?_
  obtain ⟨k', rfl, h3⟩ := q3.intInv h3
  split at h3
  case h_2 => exact h3.elim
  rename_i j' hj'
  obtain ⟨a3, xs3, bs3, hv3, hx3, o3, hf3⟩ := R3.ownNd hi
  rw [hv0] at hv3
  cases hv3
  have exs : xs3 = xs2 := by
    have := s3 _ _ hx2
    rw [hx3] at this
    cases this; rfl
  subst exs
  obtain ⟨xr3, cr3, hxr3, orow3, hsub3⟩ := o3.get hus
  rw [hxr] at hxr3
  cases hxr3
  have nd3 := R3.nd i
  rw [hf3] at nd3
  have hn3 := List.nodup_cons.mp nd3
  cases orow3 with
  | nd hb r3 =>
    rename_i ws3 bs4
    have hbm : b' ∈ bs3 := hsub3.subset (.head _)
    have hbf : b' ∈ fp1 i := by rw [hf3]; exact .tail _ hbm
    have hLb : ¬ Lf C fp1 ex b' := fun l => l.1 ⟨i, hbf⟩
    obtain ⟨as', oo, ss, _⟩ := Owns.deep (ws' := ws3.set j' v) (us' := us.set j' (.fz r.data)) hb hLb (fun cs hcs => Owns.set (.fz ((q.same s2).same s3)) j' hcs) o3 hn3.2 hxr hus
    refine ⟨b', ws3, k', j', rfl, rfl, hb, by rw [r3.length]; exact hj', ?_⟩
    have hba : a' ≠ b' := fun z => hn3.1 (z ▸ hbm)
    -- the change
    have sub : ∀ a, a ∈ a' :: as' → a ∈ fp1 i := fun a m => by
      rw [hf3]
      rcases List.mem_cons.mp m with rfl | m
      · exact .head _
      · exact .tail _ (ss.subset m)
    have kp : ∀ b o, H3 b = some o → b ≠ b' → upd H3 b' (.lst (ws3.set j' v)) b = some o := fun b o e n => by rw [Yl n]; exact e
    have lw : ∀ a, Lf C fp1 ex a → upd H3 b' (.lst (ws3.set j' v)) a ≠ none → Lf C (fpu fp1 i (a' :: as')) (exu ex []) a := fun a l _ => ⟨fun z => by
      rcases z.of_u with z | ⟨j, _, z⟩
      · exact l.1 ⟨i, sub a z⟩
      · exact l.1 ⟨j, z⟩, fun z => l.2.1 (Zdo.mp z), l.2.2⟩
    obtain ⟨R4, S4⟩ := R3.change (new := []) (as' := a' :: as') (t' := .nd (ts.set j (.nd (us.set j' (.fz r.data))))) (H' := upd H3 b' (.lst (ws3.set j' v))) hi hv0 (fun b o e nb => kp b o e fun z => nb (by rw [z]; exact hbf)) (fun b e => by
        by_cases q : b = b'
        · subst q; rw [Y7] at e; cases e
        · rwa [Yl q] at e) (.nd (by rw [Yl hba]; exact hx3) (oo.wide lw)) (List.nodup_cons.mpr ⟨fun m => hn3.1 (ss.subset m), hn3.2.sublist ss⟩) (fun a m => .inl (sub a m)) (fun a m => nomatch m)
    have k23 : Kp H1 fp1 H3 fp1 := ⟨fun b o e _ => s3 _ _ (s2 _ _ e), fun z => (nomatch z), fun a z => .inl z, fun b e => s2.al b (s3.al b e)⟩
    exact E.nx _ σ _ _ (R4.drop fun a z => .inl z) (r1.stp.kp.trans (k23.trans S4.kp)) h3
end
end L2
namespace L2
open PySem PySem.Spec PyProof.Rows
variable {G : PySem.W.Frag}
mutual
noncomputable def Zwz : OT → Bool
  | .fz d => Zdb d
  | .nd ts => Zpo ts
  | .tp ts => Zpo ts
noncomputable def Zpo : List OT → Bool
  | [] => true
  | t :: ts => Zwz t && Zpo ts
end
section
variable {X : Cx} {io : List Nat} {p c : Bool} {e : Expr} {m : MEt}
theorem Rel.freeze {C : MC G} {H : Hp} {σ : St} {δ : Zn} {fp : Fp} {ex : Addr → Prop} {i : Nat} {t : OT} (R : Rel C io H σ δ fp ex) (hio : i ∉ io) (hi : δ[i]? = some (some t)) : Rel C io H σ (δ.set i (some (.fz t.data))) (fpu fp i []) ex := by
  have hil : i < δ.length := (List.getElem?_eq_some_iff.mp hi).1
  have sub : ∀ j a, a ∈ fpu fp i [] j → j ≠ i ∧ a ∈ fp j := fun j a m => by
    by_cases ej : j = i
    · subst ej; rw [Y5] at m; exact nomatch m
    · rw [W0 ej] at m; exact ⟨ej, m⟩
  have lw : ∀ a, Lf C fp ex a → Lf C (fpu fp i []) ex a := fun a l => ⟨fun ⟨j, z⟩ => l.1 ⟨j, (sub j a z).2⟩, l.2.1, l.2.2⟩
  have ln : ∀ a ∈ fp i, Lf C (fpu fp i []) ex a := fun a m => ⟨fun ⟨j, z⟩ => (sub j a z).1 (R.dj j i a (sub j a z).2 m), R.dx i a m, .inr (by
    rcases R.new i a m with z | z
    · exact absurd z.1 hio
    · exact z)⟩
  refine ⟨by rw [List.length_set]; exact R.len, fun j t' e => ?_, fun j h => ?_, fun j => ?_, fun j k a h1 h2 => R.dj j k a (sub j a h1).2 (sub k a h2).2, fun j a h z => R.dx j a (sub j a h).2 z, R.xa, R.fr, R.al, fun j a h => R.new j a (sub j a h).2, R.io⟩
  · by_cases ej : j = i
    · subst ej
      rw [List.getElem?_set_self hil] at e
      cases e
      obtain ⟨v, e1, o⟩ := R.own j t hi
      exact ⟨v, e1, by rw [Y5]; exact .fz (o.da (fun a l _ => lw a l) ln)⟩
    · rw [List.getElem?_set_ne (Ne.symm ej)] at e
      obtain ⟨w, e1, o⟩ := R.own j t' e
      exact ⟨w, e1, by rw [W0 ej]; exact o.wide fun a l _ => lw a l⟩
  · by_cases ej : j = i
    · subst ej; rw [Y5]
    · rw [W0 ej]
      exact R.emp j fun t' z => h t' (by rw [List.getElem?_set_ne (Ne.symm ej)]; exact z)
  · by_cases ej : j = i
    · subst ej; rw [Y5]; exact .nil
    · rw [W0 ej]; exact R.nd j
noncomputable def Zim (i : Nat) (u : MSt) : MSt := fun D δ => match δ[i]? with | some (some t) => u D (δ.set i (some (.fz t.data))) | _ => False
theorem Zpi {st : Stmt} {u : MSt} (i : Nat) (h : MS X io st u) (hio : i ∉ io := by decide) : MS X io st (Zim i u) := by
  obtain ⟨_, A, s⟩ := h
  exact ⟨_, A, fun C H σ δ fp ex D D' R h E => by
    unfold Zim at h
    split at h
    case h_2 => exact h.elim
    rename_i t hi
    refine s C H σ _ _ ex D D' (R.freeze hio hi) h (E.shift ⟨fun b o e _ => e, fun z => (nomatch z), fun a z => ?_, fun b e => e⟩)
    rcases z.of_u with z | ⟨j, _, z⟩
    · exact nomatch z
    · exact .inl ⟨j, z⟩⟩
end
end L2
namespace L2
open PySem PySem.Spec PyProof.Rows
variable {G : PySem.W.Frag}
noncomputable def Zzt (ds : List PyData) (k : OT → Prop) : Prop := ∃ ns : List Int, ds = [.list (ns.map PyData.int)] ∧ ns.length ≤ 63 ∧ k (.fz (.bool true))
theorem Zx3 {H : Hp} {a : Addr} {ns : List Int} {E : XK} (hl : ns.length ≤ 63) (h : SqL G H a (ns.map V.int)) : spD G Zzt [.ref a] H (fun v _ => v = .bl true) E := by
  refine ⟨fun _ => True, [.list (ns.map PyData.int)], fun r => r = .fz (.bool true), .cons ?_ .nil, ⟨ns, rfl, hl, rfl⟩, fun r v H' new kr s o _ _ => ?_⟩
  · rcases h with h | h
    · exact .lst trivial h (.ints ns)
    · exact .scr h
  · subst kr
    cases o with
    | fz q => cases q; rfl
section
variable {P : Program} {w : World} {mg : Str → Option Value} {base : Heap} {CX : CXT} {n : Nat} {f : Addr} {fd : FuncData} {ps : List Str}
theorem Da.ints_sq {H : Hp} {L : Addr → Prop} {v : V} {ns : List Int} (h : Da G H L v (.list (ns.map PyData.int))) : ∃ a, v = .ref a ∧ SqL G H a (ns.map V.int) := by
  generalize e : PyData.list (ns.map PyData.int) = d at h
  cases h with
  | lst l e1 r =>
    cases e
    rw [r.int_inv] at e1
    exact ⟨_, rfl, .inl e1⟩
  | scr k =>
    rename_i a ms
    have e' := PyData.list.inj e
    have : ns = ms := (List.map_inj_right (fun _ _ h => by cases h; rfl)).mp e'
    subst this
    exact ⟨_, rfl, k.sq⟩
  | _ => cases e
end
end L2
namespace L2
open PySem PySem.Spec PyProof.Rows
@[simp] theorem Zg5 : OT.datas [] = [] := rfl
@[simp] theorem Zf2 (t : OT) (ts : List OT) : OT.datas (t :: ts) = t.data :: OT.datas ts := rfl
theorem Zj7 {α : Type} {xs : List α} {i : Int} (h0 : 0 ≤ i) : atI xs i = xs[i.toNat]? := by
  unfold atI ixN
  rw [if_pos h0]
  split
  · rfl
  · rename_i h
    symm
    exact List.getElem?_eq_none_iff.mpr (by omega)
theorem Zmn {α : Type} {xs : List α} {i : Nat} : atI xs (i : Int) = xs[i]? := by
  rw [Zj7 (by omega), Int.toNat_natCast]
@[simp] theorem Z7l {α : Type} (x : α) (xs : List α) : atI (x :: xs) 0 = some x := by
  rw [Zj7 (by decide)]; rfl
@[simp] theorem Z71 {α : Type} (x y : α) (xs : List α) : atI (x :: y :: xs) 1 = some y := by
  rw [Zj7 (by decide)]; rfl
@[simp] theorem Z61 {α : Type} (x y z : α) (xs : List α) : atI (x :: y :: z :: xs) 2 = some z := by
  rw [Zj7 (by decide)]; rfl
@[simp] theorem Z1k (ds : List PyData) (i : Int) : ixD (.list ds) (.int i) = atI ds i := rfl
@[simp] theorem Z3r (ds : List PyData) (i : Int) : ixD (.tuple ds) (.int i) = atI ds i := rfl
@[simp] theorem Zx8 (ds : List PyData) : Zr3 (.list ds) = some ds.length := rfl
@[simp] theorem Z13 (ds : List PyData) : Zr3 (.tuple ds) = some ds.length := rfl
noncomputable def Zcc (r : List Rat) : PyData := .list (r.map frD)
noncomputable def tbD (T : List (List Rat)) : PyData := .list (T.map Zcc)
noncomputable def Z3c (r : List Rat) : OT := .nd (r.map fun q => .fz (frD q))
noncomputable def tbT (T : List (List Rat)) : OT := .nd (T.map Z3c)
@[simp] theorem Zol (r : List Rat) : (Z3c r).data = Zcc r := by
  unfold Z3c Zcc
  rw [OT.data_nd, List.map_map]
  rfl
@[simp] theorem Z1l (T : List (List Rat)) : (tbT T).data = tbD T := by
  unfold tbT tbD
  rw [OT.data_nd, List.map_map]
  exact congrArg PyData.list (List.map_congr_left fun r _ => Zol r)
noncomputable def dd (T : List (List Rat)) (i j : Nat) : Rat := (T.getD i []).getD j 0
@[simp] theorem Z3e (T : List (List Rat)) : Zr3 (tbD T) = some T.length := by unfold tbD Zr3; simp
@[simp] theorem Z1s (r : List Rat) : Zr3 (Zcc r) = some r.length := by unfold Zcc Zr3; simp
@[simp] theorem Z2c (q : Rat) : Zdb (frD q) = true := by unfold frD fr; simp [Zdb, Zjl]
end L2
namespace L2
open PySem PySem.Spec PyProof.Rows
end L2
namespace L2
open PySem PySem.Spec PyProof.Rows
end L2
namespace L2
open PySem PySem.Spec PyProof.Rows
end L2
namespace L2
open PySem PySem.Spec PyProof.Rows
end L2
namespace L2
open PySem PySem.Spec PyProof.Rows
end L2
namespace L2
open PySem PySem.Spec PyProof.Rows
theorem Zqw {n a : Nat} (h : a < n) : ixN n (a : Int) = some a := by
  unfold ixN
  rw [if_pos (by omega), if_pos (by omega)]; simp
end L2
namespace L2
open PySem PySem.Spec PyProof.Rows
end L2
namespace L2
open PySem PySem.Spec PyProof.Rows
end L2
namespace L2
open PySem PySem.Spec PyProof.Rows
theorem Zku : ∀ (r : List Rat), Zan (r.map frD) = true
  | [] => rfl
  | q :: r => by
    show Zan (frD q :: r.map frD) = true
    rw [Zan, Zku r]; rfl
theorem Zko : ∀ (T : List (List Rat)), Zan (T.map Zcc) = true
  | [] => rfl
  | r :: T => by
    show Zan (Zcc r :: T.map Zcc) = true
    rw [Zan, Zko T, Bool.and_true]
    unfold Zcc
    rw [Wf]
    exact Zku r
theorem Zs0 (T : List (List Rat)) : Wf (tbD T) = true := by
  unfold tbD
  rw [Wf]
  exact Zko T
theorem Zsl {d : PyData} (h : Wf d = true) : PyData.eqv d d = true := Ztw h h rfl
end L2
namespace L2
open PySem PySem.Spec PyProof.Rows
structure Sh (n : Nat) (d : PyData) : Prop where
  lay : PyData.canLay0 d = true
  dep : PyData.depth d ≤ n
theorem Sh.shp {n : Nat} {d : PyData} (h : Sh n d) (hn : n ≤ 64 := by decide) : Zxy d := ⟨by
  show (PyData.canLay0 d && decide (PyData.depth d ≤ 64)) = true
  rw [h.lay, decide_eq_true (Nat.le_trans h.dep hn)]; rfl⟩
theorem Zjk {n : Nat} : ∀ {ds : List PyData}, (∀ d ∈ ds, Sh n d) → PyData.canLayAll0 ds = true ∧ PyData.depthAll ds ≤ n
  | [], _ => ⟨by rw [PyData.canLayAll0], by rw [PyData.depthAll]; exact Nat.zero_le _⟩
  | d :: ds, h => by
    obtain ⟨h1, h2⟩ := Zjk fun e m => h e (.tail _ m)
    have h3 := h d (.head _)
    refine ⟨by rw [PyData.canLayAll0, h3.lay, h1]; rfl, ?_⟩
    rw [PyData.depthAll]
    exact Nat.max_le.mpr ⟨h3.dep, h2⟩
theorem Zi9 {n : Nat} {ds : List PyData} (h : ∀ d ∈ ds, Sh n d) : Sh (n + 1) (.list ds) :=
  ⟨by rw [PyData.canLay0]; exact (Zjk h).1, by rw [PyData.depth]; exact Nat.succ_le_succ (Zjk h).2⟩
theorem Zo9 {n : Nat} {ds : List PyData} (h : ∀ d ∈ ds, Sh n d) : Sh (n + 1) (.tuple ds) :=
  ⟨by rw [PyData.canLay0]; exact (Zjk h).1, by rw [PyData.depth]; exact Nat.succ_le_succ (Zjk h).2⟩
theorem Zqr (i : Int) : Sh 0 (.int i) := ⟨rfl, Nat.le_of_eq rfl⟩
theorem Zv4 (q : Rat) : Sh 1 (frD q) := Zo9 fun d m => by
  simp at m
  rcases m with rfl | rfl <;> exact Zqr _
theorem Zz3 (r : List Rat) : Sh 2 (Zcc r) := Zi9 fun d m => by
  obtain ⟨q, _, rfl⟩ := List.mem_map.mp m
  exact Zv4 q
theorem Z2l (T : List (List Rat)) : Sh 3 (tbD T) := Zi9 fun d m => by
  obtain ⟨q, _, rfl⟩ := List.mem_map.mp m
  exact Zz3 q
end L2
namespace L2
open PySem PySem.Spec PyProof.Rows
section
variable {X : Cx} {pins : List (Addr × Obj)} {σ : St} {H : Hp} {s : Shared}
theorem Inv.turnTup {h' : Heap} {ch : List Addr} {T : Addr} {xs : List V} {its : List Value} (I : Inv X pins σ H s) (f : ∀ b ∈ ch, Zii X pins H b) (k : ∀ b o, b ∉ ch → s.heap.get? b = some o → h'.get? b = some o)
    (th : ∀ b ∈ ch, ∃ o, h'.get? b = some o) (hT : s.heap.objs.size ≤ T) (hz : xs.length ≤ sizeLine) (r : Vals xs its) (ht : IsTup h' T its.toArray) : Inv X pins σ (upd H T (.tup xs)) { s with heap := h' } := by
  have hn : H T = none := I.hok.fresh hT
  have nch : ∀ b u, H b = some u → b ∉ ch := fun b u e z => by rw [(f b z).1] at e; cases e
  have new : ObjOk X.prog X.w (upd H T (.tup xs)) h' T (.tup xs) := ⟨hz, its, r, ht⟩
  refine I.call (ch := ch) (g' := s.gens) (d' := s.drawn) (t' := s.toks) ⟨fun b o e _ _ hc => k b o hc e, fun b o e _ _ hc => ⟨o.slots, k b o hc e⟩, fun b o e n _ => ?_, fun b o e hc => ?_, fun b ys e => ?_, fun b o u e => ?_, fun b ps e => ?_⟩ (fun b u e => ?_) I.bare (fun b hb => ?_)
  · rw [Yl (fun z => by rw [z] at e; exact absurd (Heap.lt_size e) (Nat.not_lt.mpr hT))]; exact n
  · exact ⟨o, k b o hc e⟩
  · rw [Yl (Ws e hn)]; exact e
  · rw [Yl (Ws e hn)]; exact e
  · exact ⟨#[], by rw [Yl (Ws e hn), e]; simp⟩
  · by_cases hb : b = T
    · subst hb; rw [Y7] at e; cases e; exact new
    · rw [Yl hb] at e
      refine (I.hok b u e).stay (fun c v hc q => k c v ?_ q) (fun c q => by rw [Yl (Ws q hn)]; exact q) fun c ys q => by rw [Yl (Ws q hn)]; exact q
      rcases hc with rfl | hc
      · exact nch _ _ e
      · exact nch _ _ hc
  · obtain ⟨f0, f1, f2, f3, f4, f5⟩ := f b hb
    exact ⟨f3, f1, f4, f5⟩
theorem Inv.turnAll {h' : Heap} {ch : List Addr} (I : Inv X pins σ H s) (f : ∀ b ∈ ch, Zii X pins H b) (k : ∀ b o, b ∉ ch → s.heap.get? b = some o → h'.get? b = some o) : Inv X pins σ H { s with heap := h' } := by
  have nch : ∀ b u, H b = some u → b ∉ ch := fun b u e z => by rw [(f b z).1] at e; cases e
  refine I.call (ch := ch) (g' := s.gens) (d' := s.drawn) (t' := s.toks) ⟨fun b o e _ _ hc => k b o hc e, fun b o e _ _ hc => ⟨o.slots, k b o hc e⟩, fun b o e n _ => n, fun b o e hc => ⟨o, k b o hc e⟩, fun b ys e => e, fun b o u e => e, fun b ps e => ⟨#[], by rw [e]; simp⟩⟩ (fun b u e => ?_) I.bare (fun b hb => ?_)
  · refine (I.hok b u e).stay (fun c v hc q => k c v ?_ q) (fun c q => q) fun c ys q => q
    rcases hc with rfl | hc
    · exact nch _ _ e
    · exact nch _ _ hc
  · obtain ⟨f0, f1, f2, f3, f4, f5⟩ := f b hb
    exact ⟨f3, f1, f4, f5⟩
end
end L2
namespace L2
open PySem PySem.Spec PyProof.Rows
variable {G : PySem.W.Frag}
section
variable {X : Cx} {io : List Nat} {p c : Bool} {e a b tg : Expr} {m : MEt} {mr : MAt}
theorem Rel.keptList {C : MC G} {H : Hp} {σ : St} {δ : Zn} {fp : Fp} {ex : Addr → Prop} {v : V} {ds : List PyData} (R : Rel C io H σ δ fp ex) (q : Da G H (fun a => c = true → Lf C fp ex a) v (.list ds)) :
    ∃ a xs, v = .ref a ∧ ∀ H' : Hp, (∀ b o, H b = some o → (c = false ∨ ¬ Foot fp b) → H' b = some o) → SqL G H' a xs ∧ Das G H' (fun a => c = true → (Lf C fp ex a ∧ H a ≠ none)) xs ds := by
  generalize hd : PyData.list ds = d at q
  cases q with
  | lst l e r =>
    cases hd
    rename_i a0 xs0
    refine ⟨a0, xs0, rfl, fun H' kp => ?_⟩
    obtain ⟨f1, f2⟩ := R.kept kp
    exact ⟨.inl (f1 _ _ l e).2, r.frame f1 f2⟩
  | scr k =>
    rename_i a ns
    have := PyData.list.inj hd
    subst this
    exact ⟨a, _, rfl, fun H' _ => ⟨k.sq, .ints ns⟩⟩
  | _ => cases hd
noncomputable def Zj2 (as bs : List PyData) : List PyData := (as.zip bs).map fun x => .tuple [x.1, x.2]
theorem Zsh {as bs : List PyData} {i : Nat} {d : PyData} (h : (Zj2 as bs)[i]? = some d) : ∃ x y, as[i]? = some x ∧ bs[i]? = some y ∧ d = .tuple [x, y] := by
  unfold Zj2 at h
  rw [List.getElem?_map] at h
  cases e : (as.zip bs)[i]? with
  | none => rw [e] at h; cases h
  | some z =>
    rw [e] at h
    cases h
    obtain ⟨h1, h2⟩ := List.getElem?_zip_eq_some.mp e
    exact ⟨z.1, z.2, h1, h2, rfl⟩
theorem Zpa {as bs : List PyData} {i : Nat} (h : (Zj2 as bs)[i]? = none) : as.length ≤ i ∨ bs.length ≤ i := by
  unfold Zj2 at h
  have := List.getElem?_eq_none_iff.mp h
  simp at this
  omega
@[simp] theorem Zva (as bs : List PyData) : (Zj2 as bs).length = min as.length bs.length := by simp [Zj2]
end
end L2
namespace L2
open PySem PySem.Spec PyProof.Rows
variable {G : PySem.W.Frag}
section
variable {X : Cx} {io : List Nat} {c1 c2 c3 : Bool} {a b e : Expr} {ma mb mc : MEt} {pos : Pos} {f g : Int → Int → Bool}
end
theorem Zfz : ∀ {ns : List Int} {its : List Value}, Vals (ns.map V.int) its → ∃ xs : List (Int × Tok), its = xs.map (fun p => Value.int p.1 p.2) ∧ xs.map (·.1) = ns
  | [], _, .nil => ⟨[], rfl, rfl⟩
  | n :: ns, _, .cons r rs => by
    obtain ⟨t, e⟩ := (show ∃ t, _ = Value.int n t from r)
    obtain ⟨xs, h1, h2⟩ := Zfz rs
    exact ⟨(n, t) :: xs, by rw [e, h1]; rfl, by rw [List.map_cons, h2]⟩
noncomputable def Z50 (K : PySem.W.Frag) : List V → Hp → VK → Prop := fun xs H Q => ∃ (a : Addr) (ns : List Int), xs = [.ref a] ∧ SqL K H a (ns.map V.int) ∧ Q (.int ns.sum) H
theorem Zo2 {X : Cx} {K : PySem.W.Frag} (hK : X.K = K) (hc : X.calm = true) : Zfq X (.builtin "sum") (Z50 K) := by
  subst hK
  intro pins s σ H xs us Q I r h
  obtain ⟨a, ns, rfl, hs, q⟩ := h
  obtain ⟨u, rfl, ru⟩ := vals1 r
  cases (show u = Value.ref a from ru)
  obtain ⟨its, rv, pl, hz⟩ := I.list hs
  obtain ⟨ps, rfl, e2⟩ := Zfz rv
  refine sum_intListG (xs := ps.toArray) (I.ok.hd hc) (by simpa [intItems] using pl.isList) fun h' tk t' hk => ?_
  refine ⟨.int ns.sum, H, I.kept (t' := tk) hk, ⟨t', ?_⟩, q⟩
  congr 1
  rw [preSum_eq, List.take_of_length_le (by simp)]
  show (ps.map (·.1)).sum = ns.sum
  rw [e2]
noncomputable def Z42 : List PyData → (PyData → Prop) → Prop := fun ds k => n1 (fun d => ∃ ns : List Int, d = .list (ns.map PyData.int) ∧ k (.int ns.sum)) ds
theorem Zyh : PNs G (Z50 G) Z42 := fun H L xs ds k Q hx h kk => by
  obtain ⟨v, d, rfl, rfl, q, ns, e, h'⟩ := hx.one h
  subst e
  obtain ⟨a, rfl, hs⟩ := q.ints_sq
  exact ⟨a, ns, rfl, hs, kk _ _ (.int _) h'⟩
section
variable {X : Cx} {io : List Nat} {p c : Bool} {a b e : Expr} {ma mb m : MEt} {pos pl : Pos}
noncomputable def Z4v (m mb : MEt) : MEt := fun δ K => m δ fun r δ1 => mb δ1 fun n _ => asI n.data fun k => (-(2 ^ 63) ≤ k ∧ k < 2 ^ 63 ∧ k.toNat ≤ sizeLine) ∧ K (.nd (List.replicate k.toNat (.fz r.data))) δ1
theorem Zmz {α : Type} (x : α) : ∀ n : Nat, (List.replicate n [x]).flatten = List.replicate n x
  | 0 => rfl
  | n + 1 => by rw [List.replicate_succ, List.flatten_cons, Zmz x n]; rfl
theorem Das.rep {H : Hp} {L : Addr → Prop} {v : V} {d : PyData} (h : Da G H L v d) : ∀ n : Nat, Das G H L (List.replicate n v) (List.replicate n d)
  | 0 => .nil
  | n + 1 => .cons h (Das.rep h n)
theorem Z4a (ha : ME X io p true a m) (hb : ME X io true c b mb) (hs : starEach [a] X.env = (false, eval a X.env) :: starEach [] X.env := by rfl) : ME X io p true (.BinOp (.List [a] pl) .Mult b pos) (Z4v m mb) := by
  obtain ⟨_, A, sa⟩ := ha
  obtain ⟨_, B, sb⟩ := hb
  refine ⟨_, Zvg Zyx (Ztg (Zg9 A Zl2 hs)) B, fun C H σ δ fp ex K Q R h k => ?_⟩
  refine sa C H σ δ fp ex _ _ R h fun H1 v r δ1 fp1 new r1 h1 => ⟨(by show 1 ≤ sizeLine; decide), fun l hl => ?_⟩
  have R1 := r1.base
  have s1 := Wi hl (.lst [v])
  refine sb.pureAfter (R1.mk0 s1) h1 fun H2 w n R2 s2 q2 h2 => ?_
  obtain ⟨i, rfl, h2⟩ := q2.intInv h2
  have q := (((r1.da R).wide (L' := Lf C fp1 ex) fun a l _ => l rfl).same s1).same s2
  refine ⟨l, i, [v], rfl, rfl, s2 _ _ Y7, h2.1.1, h2.1.2.1, by show 1 * i.toNat ≤ sizeLine; rw [Nat.one_mul]; exact h2.1.2.2, fun t ht => ?_⟩
  rw [Zmz]
  have S : Stp p H δ fp H2 δ1 fp1 := by
    have := r1.stp.trans (p' := true) (Stp.same (p := true) (δ := δ1) (fp := fp1) (s1.trans s2) (s1.trans s2).al)
    rwa [Bool.and_true] at this
  refine k _ _ _ δ1 fp1 [t] (RE.tree R R2 S (Wi ht _) (Zel ht) (Zg4 t) ?_) h2.2
  have := Own.list ht ((Das.rep q i.toNat).wide (L' := fun a => true = true → Lf C fp1 ex a) fun a l _ _ => l)
  rwa [List.map_replicate] at this
end
end L2
namespace L2
open PySem PySem.Spec PyProof.Rows
variable {G : PySem.W.Frag}
section
variable {X : Cx}
end
end L2
namespace L2
open PySem PySem.Spec PyProof.Rows PySem.SeqAt
variable {G : PySem.W.Frag}
section
variable {X : Cx} {io : List Nat} {p c : Bool} {a b e : Expr} {ma mb m : MEt} {mr : MAt} {pos pos' pl pr : Pos}
end
section
variable {X : Cx} {io : List Nat} {p c : Bool} {a b e : Expr} {ma mb m : MEt} {mr : MAt} {pos pos' pl pr : Pos}
end
end L2
namespace L2
open PySem PySem.Spec PyProof.Rows
section
variable {X : Cx} {io : List Nat} {p p' c : Bool} {a b e : Expr} {ma mb m : MEt} {pos p2 : Pos}
end
end L2
namespace L2
open PySem PySem.Spec PyProof.Rows
theorem ObjOk.is {P : Program} {w : World} {H : Hp} {h : Heap} {a : Addr} {o : HO} (x : ObjOk P w H h a o) : ∃ u, h.get? a = some u := by
  cases o with
  | lst xs => obtain ⟨_, _, _, _, e⟩ := x; exact ⟨_, e⟩
  | tup xs => obtain ⟨_, _, _, ob, e, _⟩ := x; exact ⟨_, e⟩
  | dK kvs => obtain ⟨_, _, _, _, o, _, _, e, _⟩ := x; exact ⟨_, e⟩
  | dT kvs => obtain ⟨_, _, _, _, o, _, _, e, _⟩ := x; exact ⟨_, e⟩
  | set S n => obtain ⟨o, _, _, _, e, _⟩ := x; exact ⟨_, e⟩
  | ins C dx fs => obtain ⟨_, _, _, e, _⟩ := x; exact ⟨_, e⟩
  | own y => obtain ⟨_, e⟩ := x; exact ⟨_, e⟩
  | xd fs => obtain ⟨_, ⟨_, _, _, e, _⟩, _⟩ := x; exact ⟨_, e⟩
  | rng lo hi => obtain ⟨_, _, _, e⟩ := x; exact ⟨_, e⟩
  | frz ob u => obtain ⟨e, _⟩ := x; exact ⟨_, e⟩
  | tbl ps => exact ⟨_, (show h.get? a = some _ from x)⟩
  | met f y => exact ⟨_, (show h.get? a = some _ from x)⟩
  | ext φ => obtain ⟨_, ⟨_, e⟩, _⟩ := x; exact ⟨_, e⟩
structure Apart (X : Cx) (pins : List (Addr × Obj)) (H : Hp) (b : Addr) : Prop where
  fr : H b = none
  new : X.s₀.heap.get? b = none
  loc : b ≠ X.env.locals
  cel : ∀ x c, X.env.cells.lookup x = some c → c ≠ b
  pin : ∀ p ∈ X.pn ++ pins, p.1 ≠ b
section
variable {X : Cx} {pins : List (Addr × Obj)} {σ : St} {H H' : Hp} {s : Shared} {h' : Heap} {b a C : Addr}
theorem Inv.apart (I : Inv X pins σ H s) (hex : X.ex = []) (hb : s.heap.get? b = none) (hH : H' b = none) : Apart X pins H' b := by
  have ne : ∀ c o, s.heap.get? c = some o → c ≠ b := fun c o e z => by rw [z, hb] at e; cases e
  refine ⟨hH, ?_, ?_, fun x c e => ?_, fun p hp => ?_⟩
  · cases q : X.s₀.heap.get? b with
    | none => rfl
    | some o =>
      obtain ⟨o', e⟩ := I.base.there b o q (by rw [hex]; simp)
      rw [hb] at e; cases e
  · obtain ⟨m, ⟨o, _, _, ho, _⟩, _⟩ := I.loc
    exact (ne _ _ ho).symm
  · obtain ⟨v, o, ho, _⟩ := I.cell x c e
    exact ne _ _ ho
  · exact ne _ _ (I.pin p hp).1
theorem Inv.unheld (I : Inv X pins σ H s) (hb : s.heap.get? b = none) : H b = none := by
  cases q : H b with
  | none => rfl
  | some u =>
    obtain ⟨o, e⟩ := (I.hok b u q).is
    rw [hb] at e; cases e
theorem Inv.nofrs (I : Inv X pins σ H s) (hb : b ≠ X.env.locals) (hf : b ∉ X.fs) : b ∉ frs X.stack := fun z => (List.mem_cons.mp (I.stkSub b z)).elim hb hf
theorem Inv.flown {t' : Nat} (I : Inv X pins σ H s) {ch : List Addr} (hch : ∀ b ∈ ch, Apart X pins H b) (keep : ∀ b o, b ∉ frs X.stack → b ∉ ch → s.heap.get? b = some o → h'.get? b = some o)
    (slot : ∀ b o, b ∈ frs X.stack → s.heap.get? b = some o → ∃ sl, h'.get? b = some { o with slots := sl }) : Inv X pins σ H { s with heap := h', toks := t' } := by
  have any : ∀ b o, b ∉ ch → s.heap.get? b = some o → ∃ sl, h'.get? b = some { o with slots := sl } := fun b o n e => by
    by_cases hb : b ∈ frs X.stack
    · exact slot b o hb e
    · exact ⟨o.slots, keep b o hb n e⟩
  have neL : ∀ b o, X.s₀.heap.get? b = some o → b ≠ X.env.locals := fun b o e => Nat.ne_of_lt (Nat.lt_of_lt_of_le (Heap.lt_size e) I.ok.above)
  have neC : ∀ b o, X.s₀.heap.get? b = some o → b ∉ ch := fun b o e hb => by
    have := (hch b hb).new
    rw [this] at e; cases e
  have cellK : ∀ x c, X.env.cells.lookup x = some c → ∀ v, s.heap.IsCell c v → h'.IsCell c v := fun x c e v q91 => by
    obtain ⟨o, ho, hd⟩ := q91
    obtain ⟨sl, q⟩ := any c o (fun z => (hch c z).cel x c e rfl) ho
    exact ⟨_, q, hd⟩
  have nL : X.env.locals ∉ ch := fun z => (hch _ z).loc rfl
  refine ⟨I.ok, I.os, I.bare, ⟨fun b o e n hb hx => ?_, fun b o e n hb hx => ?_, I.base.free, fun b o e hx => ?_, I.base.tups, I.base.frzs, I.base.tbls⟩, ?_, fun x c e => ?_, I.free, I.freeC, fun p hp => ?_, fun b u e => ?_, I.len⟩
  · exact keep b o (I.nofrs (neL b o e) hb) (neC b o e) (I.base.keep b o e n hb hx)
  · obtain ⟨sl, e1⟩ := I.base.slot b o e n hb hx
    obtain ⟨sl', e2⟩ := any b _ (neC b o e) e1
    exact ⟨sl', e2⟩
  · obtain ⟨o', e1⟩ := I.base.there b o e hx
    obtain ⟨sl, e2⟩ := any b o' (neC b o e) e1
    exact ⟨_, e2⟩
  · obtain ⟨m, ⟨o, es, ep, ho, r⟩, hl⟩ := I.loc
    obtain ⟨sl, q⟩ := any _ o nL ho
    refine ⟨m, ⟨_, es, ep, q, r⟩, fun i x v e1 e2 e3 => ?_⟩
    obtain ⟨u, rv, l⟩ := hl i x v e1 e2 e3
    refine ⟨u, rv, ?_⟩
    rcases l with l | ⟨k, c, e, z⟩
    · exact .inl l
    · exact .inr ⟨k, c, e, cellK x c e _ z⟩
  · obtain ⟨v, z⟩ := I.cell x c e
    exact ⟨v, cellK x c e v z⟩
  · obtain ⟨e, n, ne, nf, d⟩ := I.pin p hp
    exact ⟨keep p.1 p.2 (I.nofrs ne nf) (fun z => (hch _ z).pin p hp rfl) e, n, ne, nf, d⟩
  · refine (I.hok b u e).stay (fun c v hc q => keep c v (fun z => ?_) (fun z => ?_) q) (fun _ q => q) fun _ _ q => q
    · have n := I.stkFree c z
      rcases hc with rfl | hc
      · rw [n] at e; cases e
      · rw [n] at hc; cases hc
    · have n := (hch c z).fr
      rcases hc with rfl | hc
      · rw [n] at e; cases e
      · rw [n] at hc; cases hc
noncomputable def Fl (ap : Addr → Prop) (C a : Addr) (fl : Value) (h : Heap) : Prop := ∃ a0 oe vs T oT ts, h.get? a = some oe ∧ (oe.cls = .ref C ∧ vs[0]? = some a0) ∧ oe.data = .fields vs ∧ vs[1]? = some (.ref T) ∧ T ≠ a ∧ h.get? T = some oT ∧ oT.data = .fields ts ∧ ts[3]? = some fl ∧ ap a ∧ ap T
noncomputable def Fl0 (ap : Addr → Prop) (C a : Addr) (h : Heap) : Prop := ∃ a0 oe vs, h.get? a = some oe ∧ (oe.cls = .ref C ∧ vs[0]? = some a0) ∧ oe.data = .fields vs ∧ vs[1]? = some .none ∧ ap a
noncomputable def FlA (ap : Addr → Prop) (fl : Value) (C a : Addr) (h : Heap) : Prop := Fl ap C a .none h ∨ Fl0 ap C a h ∨ Fl ap C a fl h
theorem Fl.imp {ap ap' : Addr → Prop} {fl : Value} {h : Heap} (f : ∀ b, ap b → ap' b) (x : Fl ap C a fl h) : Fl ap' C a fl h := by
  obtain ⟨a0, oe, vs, T, oT, ts, h1, h2, h3, h4, h5, h6, h7, h8, h9, h10⟩ := x
  exact ⟨a0, oe, vs, T, oT, ts, h1, h2, h3, h4, h5, h6, h7, h8, f _ h9, f _ h10⟩
section
variable {M : Model} {A : Around} {E : Value → Shared → Prop} {Q : Unit → Shared → Prop} {ch : List Addr}
theorem Inv.hidFrames (I : Inv X pins σ H s) : s.heap.FunFrames (PySem.W.hideAll s.heap (frs X.stack ++ ch)) X.stack :=
  PySem.W.funFrames_hide I.stack fun env he b hb => List.mem_append_left _ (List.mem_filterMap.mpr ⟨env, he, hb⟩)
theorem Inv.flyTo (I : Inv X pins σ H s) (hch : ∀ b ∈ ch, Apart X pins H b) (k1 : (PySem.W.hideAll s.heap (frs X.stack ++ ch)).StaysIn h') (k4 : ∀ b o, s.heap.get? b = some o → (∀ vs, o.data ≠ .fields vs) → ∃ sl, h'.get? b = some { o with slots := sl }) :
    Inv X pins σ H { s with heap := h' } :=
  I.flown (t' := s.toks) hch (fun b o hf hc e => k1 b o (PySem.W.hideAll_get _ e fun z => (List.mem_append.mp z).elim hf hc)) fun b o hb e => by
    obtain ⟨_, o', ho', hd⟩ := I.stack.mem hb
    rw [e] at ho'; cases ho'
    exact k4 b o e hd
theorem Inv.flyT (I : Inv X pins σ H s) (hex : X.ex = []) (hch : ∀ b ∈ ch, Apart X pins H b) {T : Addr} {oT : Obj} {ts : Array Value} (k4 : ∀ b o, s.heap.get? b = some o → (∀ vs, o.data ≠ .fields vs) → ∃ sl, h'.get? b = some { o with slots := sl })
    (hT : (PySem.W.hideAll s.heap (frs X.stack ++ ch)).get? T = none) (h1 : h'.get? T = some oT) (h2 : oT.data = .fields ts) : Apart X pins H T := by
  by_cases hc : T ∈ ch
  · exact hch T hc
  by_cases hf : T ∈ frs X.stack
  · obtain ⟨_, o', ho', hd⟩ := I.stack.mem hf
    obtain ⟨sl, e⟩ := k4 T o' ho' hd
    rw [h1] at e
    cases e
    exact absurd h2 (hd ts)
  have hn : s.heap.get? T = none := by
    cases q : s.heap.get? T with
    | none => rfl
    | some o =>
      have := PySem.W.hideAll_get (frs X.stack ++ ch) q fun z => (List.mem_append.mp z).elim hf hc
      rw [hT] at this; cases this
  exact I.apart hex hn (I.unheld hn)
theorem Zta (I : Inv X pins σ H s) (hex : X.ex = []) (hst : X.stack = X.env :: X.outer) (hf : X.env.frame = some X.env.locals) (hA : A.frames = some X.stack) (F : FlA (Apart X pins H) (rawInt X.env.locals) C a s.heap)
    (h : ∀ s', Inv X pins σ H s' → Fl (Apart X pins H) C a (rawInt X.env.locals) s'.heap → Q () s') : wpAny M A (noteFrame (.ref a) X.env) Q E s := by
  rcases F with F | F | F
  · obtain ⟨a0, oe, vs, T, oT, ts, eA, cA, dA, v1, nT, eT, dT, t3, pA, pT⟩ := F
    have hch : ∀ b ∈ [a, T], Apart X pins H b := fun b hb => by
      rcases List.mem_cons.mp hb with rfl | hb
      · exact pA
      · rw [List.mem_singleton.mp hb]; exact pT
    have hen : (PySem.W.hideAll s.heap (frs X.stack ++ [a, T])).get? a = none := PySem.W.hideAll_none _ (List.mem_append_right _ (.head _))
    have hTn : (PySem.W.hideAll s.heap (frs X.stack ++ [a, T])).get? T = none := PySem.W.hideAll_none _ (List.mem_append_right _ (.tail _ (.head _)))
    have fr := I.hidFrames (ch := [a, T])
    refine wpAny_noteFrame_onW (base := PySem.W.hideAll s.heap (frs X.stack ++ [a, T])) (outer := X.outer) (hA.trans (by rw [hst])) (hst ▸ fr) hf ⟨oe, vs, T, oT, ts, eA, cA, dA, v1, hTn, nT, eT, dT, t3⟩ (fun b o e => PySem.W.of_hideAll _ e) hen fun h' hN => ?_
    obtain ⟨k1, _, ⟨oe', vs', T', oT', ts', e1, e2, e3, e4, e5, e6, e7, e8, e9⟩, k4⟩ := hN
    exact h _ (I.flyTo hch k1 k4) ⟨a0, oe', vs', T', oT', ts', e1, e2, e3, e4, e6, e7, e8, e9, pA, I.flyT hex hch k4 e5 e7 e8⟩
  · obtain ⟨a0, oe, vs, eA, cA, dA, v1, pA⟩ := F
    have hch : ∀ b ∈ [a], Apart X pins H b := fun b hb => by rw [List.mem_singleton.mp hb]; exact pA
    have hen : (PySem.W.hideAll s.heap (frs X.stack ++ [a])).get? a = none := PySem.W.hideAll_none _ (List.mem_append_right _ (.head _))
    have fr := I.hidFrames (ch := [a])
    unfold noteFrame
    simp only [hf]
    refine wpAny_bind (wpAny_field eA dA v1 ?_)
    rw [if_neg (by decide)]
    refine wpAny_entryW (base := PySem.W.hideAll s.heap (frs X.stack ++ [a])) (outer := X.outer) (hA.trans (by rw [hst])) (hst ▸ fr) hf eA (fun b o e => PySem.W.of_hideAll _ e) hen dA (Array.getElem?_eq_some_iff.mp v1).1 cA.2 fun h' hN => ?_
    obtain ⟨k1, _, ⟨oe', vs', T', oT', ts', e1, e2, e3, e4, e5, e6, e7, e8, e9⟩, k4⟩ := hN
    exact h _ (I.flyTo hch k1 k4) ⟨a0, oe', vs', T', oT', ts', e1, ⟨e2.1.trans cA.1, e2.2⟩, e3, e4, e6, e7, e8, e9, pA, I.flyT hex hch k4 e5 e7 e8⟩
  · have F' := F
    obtain ⟨a0, oe, vs, T, oT, ts, eA, cA, dA, v1, nT, eT, dT, t3, pA, pT⟩ := F
    unfold noteFrame
    simp only [hf]
    refine wpAny_bind (wpAny_field eA dA v1 ?_)
    rw [if_pos (by rfl)]
    refine wpAny_bind (wpAny_field eT dT t3 ?_)
    rw [if_pos (by simp)]
    exact wpAny_pure (h s I F')
theorem Zsf (I : Inv X pins σ H s) (hex : X.ex = []) {fl : Value} (F : Fl (Apart X pins H) C a fl s.heap)
    (h : ∀ s', Inv X pins σ H s' → Fl (Apart X pins H) C a .none s'.heap → Q () s') : wpAny M A (setFlight (.ref a) none) Q E s := by
  obtain ⟨a0, oe, vs, T, oT, ts, eA, cA, dA, v1, nT, eT, dT, t3, pA, pT⟩ := F
  have hch : ∀ b ∈ [a, T], Apart X pins H b := fun b hb => by
    rcases List.mem_cons.mp hb with rfl | hb
    · exact pA
    · rw [List.mem_singleton.mp hb]; exact pT
  have hTn : (PySem.W.hideAll s.heap (frs X.stack ++ [a, T])).get? T = none := PySem.W.hideAll_none _ (List.mem_append_right _ (.tail _ (.head _)))
  refine wpAny_setFlight_noneW (base := PySem.W.hideAll s.heap (frs X.stack ++ [a, T])) (l := X.stack) (fun b o e => PySem.W.of_hideAll _ e) I.hidFrames ⟨oe, vs, T, oT, ts, eA, cA, dA, v1, hTn, nT, eT, dT, t3⟩ fun h' k1 _ k3 k4' => ?_
  have k4 : ∀ b o, s.heap.get? b = some o → (∀ vs, o.data ≠ .fields vs) → ∃ sl, h'.get? b = some { o with slots := sl } := fun b o e n => ⟨o.slots, k4' b o e n⟩
  obtain ⟨oe', vs', T', oT', ts', e1, e2, e3, e4, e5, e6, e7, e8, e9⟩ := k3
  exact h _ (I.flyTo hch k1 k4) ⟨a0, oe', vs', T', oT', ts', e1, e2, e3, e4, e6, e7, e8, e9, pA, I.flyT hex hch k4 e5 e7 e8⟩
theorem Zq2 (I : Inv X pins σ H s) (hex : X.ex = []) (hst : X.stack = X.env :: X.outer) (hf : X.env.frame = some X.env.locals) (hA : A.frames = some X.stack) (F : FlA (Apart X pins H) (rawInt X.env.locals) C a s.heap)
    (h : ∀ s', Inv X pins σ H s' → Fl (Apart X pins H) C a .none s'.heap → Q () s') : wpAny M A (leaving X.env (.ref a)) Q E s := by
  unfold leaving
  exact wpAny_bind (Zta I hex hst hf hA F fun s1 I1 F1 => Zsf I1 hex F1 h)
end
end
end L2
namespace L2
open PySem PySem.Spec PyProof.Rows
noncomputable def Zw9 (K : PySem.W.Frag) (C : Addr) : Prop := PySem.W.excIn K C [.type "ValueError", .type "Exception", .type "BaseException", .type "object"] "ValueError.__new__" = true
theorem Zxf {K : PySem.W.Frag} {h : Heap} {C : Addr} {bmB : List Value} {newId : String} (X : K.In h) (q : PySem.W.excIn K C bmB newId = true) :
    ∃ bm N nm qn bs hdct sn sub ab col dd k0 k1 k2 k3 k5 mN, h.get? C = some (excClassObj nm qn C N bs bm hdct sn sub ab col dd k0 k1 k2 k3 k5 newId) ∧ h.Ns N mN ∧ mN "__init__" = none ∧ OwnTail h bmB bm := by
  unfold PySem.W.excIn at q
  split at q
  case h_2 => cases q
  rename_i dd cd sl ho
  split at q
  case h_2 => cases q
  rename_i C' bm k0 k1 k2 k3 n k5 hm hs
  simp only [Bool.and_eq_true, beq_iff_eq, Bool.not_eq_true'] at q
  obtain ⟨⟨⟨⟨⟨rfl, rfl⟩, e1⟩, e2⟩, e3⟩, e4⟩ := q
  obtain ⟨nm, bs, mro, ns, qn, hd, sn, sub, ab, col, del⟩ := cd
  dsimp only at hm e1 e3 e4
  subst hm e1
  obtain ⟨l⟩ := sl
  have e5 : l = [k0, k1, k2, k3, some (.builtin n), k5] := hs
  subst e5
  exact ⟨bm, ns, nm, qn, bs, hd, sn, sub, ab, col, dd, k0, k1, k2, k3, k5, _, X _ _ ho, .of_isNs (PySem.W.isNs_of_in X e3), PySem.W.nsMap_none_of_in X e3 e4, PySem.W.tail_of_in X e2⟩
noncomputable abbrev MXt := Zn → (Addr → Zn → Prop) → Prop
noncomputable def XW (X : Cx) (C : MC X.K) (io : List Nat) (pins : List (Addr × Obj)) (ex : Addr → Prop) (H : Hp) (fp : Fp) (k : Addr → Zn → Prop) (e : Value) (s' : Shared) : Prop :=
  ∃ a cl σ' H' δ' fp', e = .ref a ∧ Inv X pins σ' H' s' ∧ FlA (Apart X pins H') (rawInt X.env.locals) cl a s'.heap ∧ Rel C io H' σ' δ' fp' ex ∧ Kp H fp H' fp' ∧ k cl δ'
noncomputable def XE (X : Cx) (io : List Nat) (e : Expr) (m : MXt) : Prop := ∀ (C : MC X.K) (pins : List (Addr × Obj)) (s : Shared) (σ : St) (H : Hp) (δ : Zn) (fp : Fp) (ex : Addr → Prop) (k : Addr → Zn → Prop), Inv X pins σ H s → Rel C io H σ δ fp ex → m δ k →
  wpAny (model X.prog X.w) X.A (eval e X.env) (fun _ _ => False) (XW X C io pins ex H fp k) s
noncomputable def XS (X : Cx) (io : List Nat) (st : Stmt) (m : MXt) : Prop := ∀ (C : MC X.K) (pins : List (Addr × Obj)) (s : Shared) (σ : St) (H : Hp) (δ : Zn) (fp : Fp) (ex : Addr → Prop) (k : Addr → Zn → Prop), Inv X pins σ H s → Rel C io H σ δ fp ex → m δ k →
  wpAny (model X.prog X.w) X.A (exec st X.env) (fun _ _ => False) (XW X C io pins ex H fp k) s
noncomputable def XSs (X : Cx) (io : List Nat) (sts : List Stmt) (m : MXt) : Prop := ∀ (C : MC X.K) (pins : List (Addr × Obj)) (s : Shared) (σ : St) (H : Hp) (δ : Zn) (fp : Fp) (ex : Addr → Prop) (k : Addr → Zn → Prop), Inv X pins σ H s → Rel C io H σ δ fp ex → m δ k →
  wpAny (model X.prog X.w) X.A (execs sts X.env) (fun _ _ => False) (XW X C io pins ex H fp k) s
theorem XW.shift {X : Cx} {C : MC X.K} {io : List Nat} {pins : List (Addr × Obj)} {ex : Addr → Prop} {H H1 : Hp} {fp fp1 : Fp} {k : Addr → Zn → Prop} {e : Value} {s : Shared} (q : Kp H fp H1 fp1) (h : XW X C io pins ex H1 fp1 k e s) : XW X C io pins ex H fp k e s := by
  obtain ⟨a, cl, σ', H', δ', fp', e, I, F, R, K, hk⟩ := h
  exact ⟨a, cl, σ', H', δ', fp', e, I, F, R, q.trans K, hk⟩
noncomputable def Zqu : MXt := fun _ _ => False
noncomputable def Z3u (u : MSt) (w : MXt) : MXt := fun δ k => u { nx := fun δ' => w δ' k, rt := fun _ _ => False } δ
noncomputable def Z5v (t : MTt) (u w : MXt) : MXt := fun δ k => t δ fun b δ' => if b = true then u δ' k else w δ' k
noncomputable def Zn9 (cl : Addr) : MXt := fun δ k => k cl δ
section
variable {X : Cx} {io : List Nat} {p c : Bool} {e : Expr} {es : List Expr} {mr : MAt} {m : MXt} {pos : Pos} {st : Stmt} {sts a b : List Stmt} {u : MSt} {w v : MXt} {mt : MTt} {i : Nat} {x : Str}
theorem Zp3 : XSs X io sts Zqu := fun _ _ _ _ _ _ _ _ _ _ _ h => h.elim
theorem Zsb : XS X io st Zqu := fun _ _ _ _ _ _ _ _ _ _ _ h => h.elim
theorem Zmt (h : XS X io st w) : XSs X io (st :: sts) w := fun C pins s σ H δ fp ex k I R hm => wpAny_execs_cons (thn (h C pins s σ H δ fp ex k I R hm) fun _ _ z => z.elim)
theorem Zso (h : MS X io st u) (g : XSs X io sts w) (hx : X.xe = fun _ _ => False := by rfl) : XSs X io (st :: sts) (Z3u u w) := by
  obtain ⟨t, A, sS⟩ := h
  intro C pins s σ H δ fp ex k I R hm
  refine wpAny_execs_cons (wpAny_mono (A pins s σ H { nx := fun σ1 H1 => ∃ δ1 fp1, Rel C io H1 σ1 δ1 fp1 ex ∧ Kp H fp H1 fp1 ∧ w δ1 k, rt := fun _ _ => False } I
    (sS C H σ δ fp ex _ _ R hm ⟨fun H' σ' δ' fp' R' k' h' => ⟨δ', fp', R', k', h'⟩, fun _ _ _ _ _ _ z => z.elim, fun _ _ _ _ _ _ z => z.elim, fun _ _ _ _ _ _ _ _ _ _ _ z => z.elim⟩)) (fun f s1 q => ?_) fun e s1 q => by rw [hx] at q; exact q.elim)
  cases f with
  | next =>
    obtain ⟨σ1, H1, I1, δ1, fp1, R1, k1, h1⟩ := q
    exact wpAny_mono (g C pins s1 σ1 H1 δ1 fp1 ex k I1 R1 h1) (fun _ _ z => z) fun e s2 z => z.shift k1
  | ret v => obtain ⟨_, _, _, _, _, z⟩ := q; exact z.elim
  | brk => obtain ⟨_, _, _, z⟩ := q; exact z.elim
  | cont => obtain ⟨_, _, _, z⟩ := q; exact z.elim
theorem Z3h (ht : MT X io p e mt) (ha : XSs X io a w) (hb : XSs X io b v) (hx : X.xe = fun _ _ => False := by rfl) : XS X io (.If e a b pos) (Z5v mt w v) := by
  obtain ⟨t, A, sT⟩ := ht
  intro C pins s σ H δ fp ex k I R hm
  refine wpAny_If (wpAny_mono (A pins s σ H (fun r H1 => ∃ δ1 fp1, Rel C io H1 σ δ1 fp1 ex ∧ Kp H fp H1 fp1 ∧ if r = true then w δ1 k else v δ1 k) I
    (sT C H σ δ fp ex _ _ R hm fun H' r δ' fp' R' S' h' => ⟨δ', fp', R', S'.kp, h'⟩)) (fun r s1 q => ?_) fun e s1 q => by rw [hx] at q; exact q.elim)
  obtain ⟨H1, I1, δ1, fp1, R1, k1, h1⟩ := q
  cases r with
  | true => exact wpAny_mono (ha C pins s1 σ H1 δ1 fp1 ex k I1 R1 h1) (fun _ _ z => z) fun e s2 z => z.shift k1
  | false => exact wpAny_mono (hb C pins s1 σ H1 δ1 fp1 ex k I1 R1 h1) (fun _ _ z => z) fun e s2 z => z.shift k1
theorem Ztv (he : XE X io e m) : XS X io (.Return (some e) pos) m := fun C pins s σ H δ fp ex k I R hm => wpAny_Return_some (thn (he C pins s σ H δ fp ex k I R hm) fun _ _ z => z.elim)
theorem Zrl {C : Addr} {x j : Str} {jk : Nat} {np cpos pos kp : Pos} (hex : X.ex = []) (hh : X.A.handled = none) (hg : Gl X x) (hm : X.mg x = some (.ref C)) (q : Zw9 X.K C) (hd : (x == ("__debug__" : Str)) = false := by decide) :
    XS X io (.Raise (some (.Call (.Name x np) [.Constant (.str j) jk kp] [] cpos)) none pos) (Zn9 C) := by
  intro M pins s σ H δ fp ex k I R hk
  obtain ⟨tl, N, nm, qn, bs, hdct, sn, sub, ab, col, dd, k0, k1, k2, k3, k5, mN, hC, hN, hni, TL⟩ := Zxf I.ok.mod.kin q
  refine wpAny_Raise_call_subT (C := C) (nm := nm) (q := qn) (N := N) (bs := bs) (bm := tl) (hdct := hdct) (sn := sn) (sub := sub) (ab := ab) (col := col) (dd := dd) (k0 := k0) (k1 := k1) (k2 := k2) (k3 := k3) (k5 := k5)
    PySem.F.excBase_ValueError (mN := mN) (TL.hasType PySem.F.excBase_ValueError.hasBase) hh rfl hni (Zlt I hg hm ⟨rfl, ?_⟩ hd)
  refine Calls.evalArgs_plain ?_
  refine Calls.spliced_cons ?_
  show wpAny _ _ (eval (.Constant (.str j) jk kp) X.env) _ _ _
  refine Calls.Constant_str ?_
  refine Calls.spliced_nil ?_
  have I1 := I.tok (s.toks + 1)
  refine ⟨rfl, by show 1 ≤ sizeLine; decide, I1.bk _ _ hC, hN.keeps I1.bk, TL.keeps I1.bk, fun h' e hx => ?_⟩
  obtain ⟨t, e1, _, _⟩ := hx.there
  have I2 := I1.kept (t' := s.toks + 1) hx.keeps
  exact ⟨e, C, σ, H, δ, fp, rfl, I2, .inr (.inl ⟨_, _, _, e1, ⟨rfl, rfl⟩, rfl, rfl, I1.apart hex hx.new (I1.unheld hx.new)⟩), R, .refl _ _, hk⟩
end
end L2
namespace L2
open PySem PySem.Spec PyProof.Rows
noncomputable def CX1 (P : Program) (w : World) : CXT := fun outer H s E e s' => ∃ a C H', e = .ref a ∧ s'.os = s.os ∧ AllBare s'.gens ∧ Un (frs outer) [] H H' s.heap s'.heap ∧ HOk P w H' s'.heap ∧ Fl (fun b => H' b = none ∧ s.heap.get? b = none) C a .none s'.heap ∧ E (.ref C) none H'
noncomputable def spX (G : PySem.W.Frag) (S : List PyData → Addr → Prop) : Sp := fun vs H Q E => ∃ L ds cl, Das G H L vs ds ∧ S ds cl ∧ ∀ H', Same H H' → E (.ref cl) none H'
section
variable {P : Program} {w : World} {K : PySem.W.Frag} {mg : Str → Option Value} {base : Heap}
theorem Fun.okX {x qual : Str} {st : Stmt} {f : Addr} {fd : FuncData} {N ps : List Str} {n : Nat} {S : List PyData → Addr → Prop} (F : Fun K x qual st f fd) (Sc : Z6 N ps (Zf st)) (len : ∀ ds cl, S ds cl → ds.length = ps.length)
    (hbody : ∀ (cdv : Value) (A : Around) (outer : List Env) (s : Shared) (H : Hp) (E : XK), Room n (A.deeper (envOfC qual (Zf st) s.heap.objs.size f cdv)) →
      ∃ m, XSs (Zq8 (CX1 P w) P w K mg base N qual (Zf st) f cdv A outer s H E).nox [] (Z0 st) m ∧ ∀ ds cl, S ds cl → m (Zh8 N ds) (fun c _ => c = cl)) : FnOk P w K mg base (CX1 P w) (n + 1) f fd ps (spX K S) := by
  obtain ⟨oc, od, kV, doc, pm, an, cdv, ct, osl, rfl, lk, hcd⟩ := F.ex
  refine Zyy lk hcd Sc (fun vs H Q E h => ?_) fun A outer s H vs Q E hr hsp => ?_
  · obtain ⟨L, ds, cl, h1, h2, _⟩ := h
    rw [h1.length]
    exact len ds cl h2
  obtain ⟨L, ds, cl, h1, h2, h3⟩ := hsp
  obtain ⟨m, hX, q⟩ := hbody cdv A outer s H E hr
  refine ⟨fun _ σ' H' => σ' = start N vs ∧ H' = H, fun pins s1 σ1 H1 D I e => ?_, rfl, rfl⟩
  obtain ⟨rfl, rfl⟩ := e
  refine wpAny_mono (hX ⟨H1, fun _ => False, L, start N vs⟩ pins s1 _ _ _ _ _ (fun c _ => c = cl) (I.wish _) (Rel.entry h1) (q ds cl h2)) (fun _ _ z => z.elim) fun e s' z => ?_
  obtain ⟨a, cl', σ', H', δ', fp', rfl, I', F', R', K', rfl⟩ := z
  exact Zq2 I' rfl rfl rfl I'.ok.frames F' fun s'' J FF => ⟨a, cl', H', rfl, J.os, J.bare, J.base, J.hok, FF.imp fun b ap => ⟨ap.fr, ap.new⟩, h3 H' fun b o e => R'.fr b o e id⟩
end
theorem Rel.grown {G : PySem.W.Frag} {C : MC G} {io : List Nat} {H H' : Hp} {σ : St} {δ : Zn} {fp : Fp} {ex : Addr → Prop} (R : Rel C io H σ δ fp ex) (s : Same H H') : Rel C io H' σ δ fp ex :=
  (R.made (new := []) s (fun a m => nomatch m)).drop fun a z => .inl z
noncomputable def Ztr (S : List PyData → Addr → Prop) (mr : MAt) : MXt := fun δ k => mr δ fun rs δ1 => ∃ cl, S (OT.datas rs) cl ∧ k cl δ1
section
variable {X : Cx} {io : List Nat} {p c : Bool} {e : Expr} {es : List Expr} {mr : MAt} {pos pp : Pos} {k : Nat} {f : Addr} {fd : FuncData} {ps : List Str} {x : Str}
theorem Zqm {S} (F : FnOk X.prog X.w X.K X.mg X.base (CX1 X.prog X.w) k f fd ps (spX X.K S)) (hr : Room k X.A) (hg : Gl X x) (hm : X.mg x = some (.ref f)) (hk : PySem.W.keepIn X.K (.ref f) = true) (hb : Binds X.K fd ps [])
    (ha : MA X io p c (e :: es) mr) (hex : X.ex = [] := by rfl) (hx : X.xe = fun _ _ => False := by rfl) (hdb : (x == ("__debug__" : Str)) = false := by decide) (he : starEach (e :: es) X.env = (false, eval e X.env) :: starEach es X.env := by rfl) (hpl : (backTo pos (starEach es X.env)).any (·.1) = false := by rfl) :
    XE X io (.Call (.Name x pp) (e :: es) [] pos) (Ztr S mr) := by
  obtain ⟨t, A, sA⟩ := ha
  intro C pins s σ H δ fp ex kk I R hm'
  refine wpAny_Call_Name_kw (Zlt I hg hm ?_ hdb)
  refine PySem.W.callWith_K (h₀ := X.base) I.ok.mod.kin hk (wpAny_mono (A pos pins s σ H (fun vs H1 => ∃ δ1 fp1 L ds cl, Rel C io H1 σ δ1 fp1 ex ∧ Kp H fp H1 fp1 ∧ Das X.K H1 L vs ds ∧ S ds cl ∧ kk cl δ1) I
    (sA C H σ δ fp ex _ _ R hm' fun H1 vs rs δ1 fp1 new r1 h1 => let ⟨cl, h2, h3⟩ := h1; ⟨δ1, fp1, _, _, cl, r1.base, r1.stp.kp, r1.das R, h2, h3⟩)) (fun us s1 ⟨vs, H1, I1, r, q⟩ => ⟨I1.kIn, ?_⟩) fun e s1 z => by rw [hx] at z; exact z.elim) he hpl
  obtain ⟨δ1, fp1, L, ds, cl, R1, k1, hd, hS, hkk⟩ := q
  have hsp : spX X.K S vs H1 (fun _ _ => False) (fun c _ H' => c = .ref cl ∧ Same H1 H') := ⟨L, ds, cl, hd, hS, fun H' s => ⟨rfl, s⟩⟩
  have hl : (us ++ []).length = ps.length := by rw [List.append_nil, ← r.length]; exact F.len _ _ _ _ hsp
  have hB := hb s1 us I1.kIn hl
  rw [List.append_nil] at hB
  refine wpAny_call (codeAny_mono (F.run X.A X.stack s1 H1 ⟨us, []⟩ us vs _ _ hr I1.env0 hB r hsp) fun res s' hq => ?_)
  cases res with
  | error e =>
    obtain ⟨a, C', H', rfl, ho, bare, un, hok, FF, eC, same⟩ := hq
    cases eC
    have J := I1.call' (ch := []) ho un hok bare fun b z => nomatch z
    exact ⟨a, cl, σ, H', δ1, fp1, rfl, J, .inl (FF.imp fun b z => I1.apart hex z.2 z.1), R1.grown same, k1.trans (Stp.same same same.al), hkk⟩
  | ok fl =>
    cases fl with
    | ret u => obtain ⟨_, _, _, _, _, _, _, z⟩ := hq; exact z.elim
    | next => exact False.elim hq
    | brk => exact False.elim hq
    | cont => exact False.elim hq
end
section
variable {X : Cx} {pins : List (Addr × Obj)} {σ : St} {H : Hp} {s : Shared} {a C : Addr}
noncomputable abbrev Cx.suite (X : Cx) (a : Addr) : Cx := { X with A := X.A.mark (some (.ref a)), calm := false }
end
end L2
namespace L2
open PySem PySem.Spec PyProof.Rows
section
variable {X : Cx} {io : List Nat} {i : Nat} {n y : Str} {Dc : Addr} {b₀ : Stmt} {body suite : List Stmt} {pos hpos np : Pos} {u h : MSt} {x : MXt}
end
end L2
namespace L2
open PySem PySem.Spec PyProof.Rows
theorem Ztu (b : Bool) (k : Bool → Prop) : asB (.bool b) k = k b := rfl
inductive Z17 : V → Value → Prop where
  | own (D : Addr) : Z17 (.ref D) (.ref D)
  | ty (T : String) : Z17 (.ty T) (.type T)
inductive ClsVs : List V → List Value → Prop where
  | nil : ClsVs [] []
  | cons {v : V} {c : Value} {vs : List V} {cs : List Value} : Z17 v c → ClsVs vs cs → ClsVs (v :: vs) (c :: cs)
theorem ClsVs.length : ∀ {vs : List V} {cs : List Value}, ClsVs vs cs → vs.length = cs.length
  | _, _, .nil => rfl
  | _, _, .cons _ t => by simp [t.length]
section
variable {X : Cx} {io : List Nat} {p c : Bool} {a b : Expr} {ma : MEt} {pos pp p2 : Pos}
end
end L2
namespace L2
open PySem PySem.Spec PyProof.Rows PySem.P
section
variable {prog : Program} {w : World} {A : Around} {E : Value → Shared → Prop} {s : Shared} {e t0 C : Addr} {o : Obj} {vs : Array Value} {K : PySem.W.Frag} {m : Str} {tk : Tok}
structure Z7e (s : Shared) (e C t0 : Addr) (m : Str) (tk : Tok) : Prop where
  ob : ∃ o vs, s.heap.get? e = some o ∧ o.cls = .ref C ∧ o.data = .fields vs ∧ vs[0]? = some (.ref t0)
  tx : s.heap.TupAt t0 [.str m tk]
end
section
variable {X : Cx} {C : Addr} {x j : Str} {jk : Nat} {np cpos pos kp p1 : Pos}
end
end L2
namespace L2
open PySem PySem.Spec PyProof.Rows
variable {G : PySem.W.Frag}
section
variable {X : Cx} {io : List Nat} {p c : Bool} {e : Expr} {m : MEt} {pos apos cpos px : Pos} {i : Nat} {x : Str}
end
end L2
namespace L2
open PySem PySem.Spec PyProof.Rows
variable {G : PySem.W.Frag}
section
variable {X : Cx} {io : List Nat} {e : Expr} {pos apos cpos px pt pl p2 : Pos} {i j : Nat} {x y : Str}
end
section
variable {X : Cx} {io : List Nat} {e : Expr} {i : Nat} {y : Str}
end
end L2
namespace L2
open PySem PySem.Spec PyProof.Rows
section
variable {X : Cx} {pins : List (Addr × Obj)} {σ : St} {H : Hp} {s : Shared} {M : Model} {A : Around} {E : Value → Shared → Prop} {Q : Unit → Shared → Prop} {C a L : Addr} {fl : Value}
end
end L2
namespace L2
open PySem PySem.Spec PyProof.Rows
section
variable {X : Cx} {io : List Nat} {p : Bool} {tg iter : Expr} {body : List Stmt} {mi : MIt} {g : MGt} {u : MSt} {x : MXt} {pos : Pos}
end
end L2
namespace L2
open PySem PySem.Spec PyProof.Rows
noncomputable abbrev FE := Zn → Option (OT × Zn)
noncomputable abbrev FA := Zn → Option (List OT × Zn)
noncomputable abbrev FT := Zn → Option (Bool × Zn)
noncomputable abbrev FI := Zn → Option (List PyData × Zn)
noncomputable abbrev FO := Zn → Option (Option Int × Zn)
noncomputable abbrev FG := PyData → Zn → Option Zn
noncomputable abbrev FGs := List PyData → Zn → Option Zn
noncomputable def o2 {α : Type} (f : Zn → Option (α × Zn)) : Zn → (α → Zn → Prop) → Prop := fun δ K => ∃ r δ', f δ = some (r, δ') ∧ K r δ'
noncomputable def oG (g : FG) : MGt := fun d δ k => ∃ δ', g d δ = some δ' ∧ k δ'
noncomputable def oGs (g : FGs) : Zq9 := fun d δ k => ∃ δ', g d δ = some δ' ∧ k δ'
section
variable {X : Cx} {io : List Nat} {p c : Bool} {e tg : Expr} {es : List Expr} {m m' : MEt} {mr mr' : MAt} {mt mt' : MTt} {mi mi' : MIt} {g g' : MGt} {gs gs' : Zq9} {mo mo' : MOt} {st : Stmt} {sts : List Stmt} {u u' : MSt} {eo : Option Expr}
theorem ME.weak (h : ME X io p c e m) (w : ∀ δ K, m' δ K → m δ K) : ME X io p c e m' := let ⟨t, A, s⟩ := h; ⟨t, A, fun C H σ δ fp ex K Q R h k => s C H σ δ fp ex K Q R (w δ K h) k⟩
theorem MA.weak (h : MA X io p c es mr) (w : ∀ δ K, mr' δ K → mr δ K) : MA X io p c es mr' := let ⟨t, A, s⟩ := h; ⟨t, A, fun C H σ δ fp ex K Q R h k => s C H σ δ fp ex K Q R (w δ K h) k⟩
theorem MT.weak (h : MT X io p e mt) (w : ∀ δ K, mt' δ K → mt δ K) : MT X io p e mt' := let ⟨t, A, s⟩ := h; ⟨t, A, fun C H σ δ fp ex K Q R h k => s C H σ δ fp ex K Q R (w δ K h) k⟩
theorem MW.weak (h : MW X io p e mt) (w : ∀ δ K, mt' δ K → mt δ K) : MW X io p e mt' := let ⟨t, A, s⟩ := h; ⟨t, A, fun C H σ δ fp ex K Q R h k => s C H σ δ fp ex K Q R (w δ K h) k⟩
theorem MIfs.weak (h : MIfs X io p es mt) (w : ∀ δ K, mt' δ K → mt δ K) : MIfs X io p es mt' := let ⟨t, A, s⟩ := h; ⟨t, A, fun C H σ δ fp ex K Q R h k => s C H σ δ fp ex K Q R (w δ K h) k⟩
theorem MI.weak (h : MI X io p c tg e mi) (w : ∀ δ K, mi' δ K → mi δ K) : MI X io p c tg e mi' := let ⟨t, A, s⟩ := h; ⟨t, A, fun C H σ δ fp ex K Q R h k => s C H σ δ fp ex K Q R (w δ K h) k⟩
theorem MO.weak (h : MO X io p eo mo) (w : ∀ δ K, mo' δ K → mo δ K) : MO X io p eo mo' := let ⟨t, A, s⟩ := h; ⟨t, A, fun C H σ δ fp ex K Q R h k => s C H σ δ fp ex K Q R (w δ K h) k⟩
theorem MG.weak (h : MG X io c tg g) (w : ∀ d δ K, g' d δ K → g d δ K) : MG X io c tg g' := let ⟨t, A, s⟩ := h; ⟨t, A, fun C H σ δ fp ex v d k Q R q h kk => s C H σ δ fp ex v d k Q R q (w d δ k h) kk⟩
theorem MGs.weak (h : MGs X io c es gs) (w : ∀ d δ K, gs' d δ K → gs d δ K) : MGs X io c es gs' := let ⟨t, A, s⟩ := h; ⟨t, A, fun C H σ δ fp ex v d k Q R q h kk => s C H σ δ fp ex v d k Q R q (w d δ k h) kk⟩
theorem MS.weak (h : MS X io st u) (w : ∀ D δ, u' D δ → u D δ) : MS X io st u' := let ⟨t, A, s⟩ := h; ⟨t, A, fun C H σ δ fp ex D D' R h E => s C H σ δ fp ex D D' R (w D δ h) E⟩
theorem MSs.weak (h : MSs X io sts u) (w : ∀ D δ, u' D δ → u D δ) : MSs X io sts u' := let ⟨t, A, s⟩ := h; ⟨t, A, fun C H σ δ fp ex D D' R h E => s C H σ δ fp ex D D' R (w D δ h) E⟩
end
noncomputable def Zh (i : Nat) : FE := fun δ => match δ[i]? with | some (some (.fz d)) => some (.fz d, δ) | _ => none
noncomputable def Zrk (i : Nat) : FE := fun δ => match δ[i]? with | some (some t) => some (.fz t.data, δ) | _ => none
noncomputable def fC (d : PyData) : FE := fun δ => some (.fz d, δ)
noncomputable def Zm (g : PyData → PyData → Option PyData) (a b : FE) : FE := fun δ => (a δ).bind fun p => (b p.2).bind fun q => (g p.1.data q.1.data).bind fun d => some (.fz d, q.2)
noncomputable def We (g : PyData → PyData → Option OT) (a b : FE) : FE := fun δ => (a δ).bind fun p => (b p.2).bind fun q => (g p.1.data q.1.data).bind fun d => some (d, q.2)
noncomputable def fUn (g : PyData → Option PyData) (a : FE) : FE := fun δ => (a δ).bind fun p => (g p.1.data).bind fun d => some (.fz d, p.2)
noncomputable def Zxc (a b : FE) : FE := fun δ => (a δ).bind fun p => match p.1.data with | .bool true => b p.2 | .bool false => some (.fz (.bool false), p.2) | _ => none
noncomputable def fOr (a b : FE) : FE := fun δ => (a δ).bind fun p => match p.1.data with | .bool true => some (.fz (.bool true), p.2) | .bool false => b p.2 | _ => none
noncomputable def fIf (t : FT) (a b : FE) : FE := fun δ => (t δ).bind fun p => if p.1 = true then a p.2 else b p.2
noncomputable def tV (e : FE) : FT := fun δ => (e δ).bind fun p => match p.1 with | .fz (.bool b) => some (b, p.2) | _ => none
noncomputable def tNo (t : FT) : FT := fun δ => (t δ).bind fun p => some (!p.1, p.2)
noncomputable def tAn (t u : FT) : FT := fun δ => (t δ).bind fun p => if p.1 = true then u p.2 else some (false, p.2)
noncomputable def tO (t u : FT) : FT := fun δ => (t δ).bind fun p => if p.1 = true then some (true, p.2) else u p.2
noncomputable def tD (e : FE) : FT := fun δ => (e δ).bind fun p => (Zr2 p.1.data).bind fun b => some (b, p.2)
noncomputable def Z5 : FA := fun δ => some ([], δ)
noncomputable def Ze (e : FE) (a : FA) : FA := fun δ => (e δ).bind fun p => (a p.2).bind fun q => some (p.1 :: q.1, q.2)
noncomputable def Zfl (a : FA) : FE := fun δ => (a δ).bind fun p => if p.1.length ≤ sizeLine then some (.fz (.tuple (OT.datas p.1)), p.2) else none
noncomputable def Zjm (a : FA) : FE := fun δ => (a δ).bind fun p => if p.1.length ≤ sizeLine then some (.nd p.1, p.2) else none
noncomputable def Zrd (e : FE) : FE := fun δ => (e δ).bind fun p => if Zdb p.1.data = true then some (.fz p.1.data, p.2) else none
noncomputable def Z1g (e : FE) : FE := fun δ => (e δ).bind fun p => if Zwz p.1 = true then some (p.1, p.2) else none
inductive RF where
  | ok (r : OT)
  | exn (c : Str)
  | bad
noncomputable abbrev FD := List PyData → RF
noncomputable abbrev FIO := OT → List PyData → Option (OT × OT)
noncomputable def Z7 (F : FD) (a : FA) : FE := fun δ => (a δ).bind fun p => match F (OT.datas p.1) with | .ok r => some (r, p.2) | _ => none
noncomputable def Zth (i : Nat) (F : FIO) (a : FA) : FE := fun δ => match δ[i]? with
  | some (some _) => (a δ).bind fun p => match p.2[i]? with
    | some (some t) => (F t (OT.datas p.1)).bind fun q => some (q.1, p.2.set i (some q.2))
    | _ => none
  | _ => none
noncomputable def Zij (g : List PyData → Option PyData) (a : FA) : FE := fun δ => (a δ).bind fun p => (g (OT.datas p.1)).bind fun d => some (.fz d, p.2)
noncomputable def fBl (g : List PyData → Option OT) (a : FA) : FE := fun δ => (a δ).bind fun p => (g (OT.datas p.1)).bind fun d => some (d, p.2)
noncomputable def Zr6 (T : String) (e : FE) : FE := fun δ => (e δ).bind fun p => if Zje p.1.data = true then none else some (.fz (.bool (Zn7 T p.1.data)), p.2)
noncomputable def oN : FO := fun δ => some (none, δ)
noncomputable def oI (e : FE) : FO := fun δ => (e δ).bind fun p => match p.1.data with | .int i => some (some i, p.2) | _ => none
noncomputable def fSl (e : FE) (lo hi : FO) : FE := fun δ => (e δ).bind fun p => (lo p.2).bind fun q => (hi q.2).bind fun r => match p.1.data with | .list ds => some (.nd ((cutD ds q.1 r.1).map OT.fz), r.2) | _ => none
noncomputable def Zf7 (e : FE) : FI := fun δ => (e δ).bind fun p => match p.1.data with | .list ds => some (ds, p.2) | _ => none
noncomputable def iTp (e : FE) : FI := fun δ => (e δ).bind fun p => match p.1.data with | .tuple ds => some (ds, p.2) | _ => none
noncomputable def rOk (j : Int) : Bool := decide (-(2 ^ 62) ≤ j) && decide (j < 2 ^ 62)
theorem Zdz {j : Int} (h : rOk j = true) : -(2 ^ 62) ≤ j ∧ j < 2 ^ 62 := by
  unfold rOk at h
  rw [Bool.and_eq_true] at h
  exact ⟨of_decide_eq_true h.1, of_decide_eq_true h.2⟩
theorem Zh4 {j : Int} (h0 : -1000000 ≤ j) (h1 : j ≤ 1000000) : rOk j = true := by
  unfold rOk
  rw [decide_eq_true (show -(2 ^ 62) ≤ j by omega), decide_eq_true (show j < 2 ^ 62 by omega)]; rfl
noncomputable def iRa (a : FA) : FI := fun δ => (a δ).bind fun p => match OT.datas p.1 with | [.int j] => if rOk j = true then some (Zjh 0 j.toNat, p.2) else none | _ => none
noncomputable def iRb (a : FA) : FI := fun δ => (a δ).bind fun p => match OT.datas p.1 with | [.int i, .int j] => if (rOk i && rOk j) = true then some (Zjh i (j - i).toNat, p.2) else none | _ => none
noncomputable def Zzu (a : FA) : FI := fun δ => (a δ).bind fun p => match OT.datas p.1 with | [.list as, .list bs] => some (Zj2 as bs, p.2) | _ => none
noncomputable def gNm (i : Nat) : FG := fun d δ => some (δ.set i (some (.fz d)))
noncomputable def Z6r (i : Nat) : FG := fun d δ => if Zdb d = true then some (δ.set i (some (.fz d))) else none
noncomputable def gNl : FGs := fun ds δ => match ds with | [] => some δ | _ => none
noncomputable def gCn (g : FG) (gs : FGs) : FGs := fun ds δ => match ds with | d :: r => (g d δ).bind (gs r) | [] => none
noncomputable def gTp (n : Nat) (gs : FGs) : FG := fun d δ => match d with | .tuple ds => if ds.length = n then gs ds δ else none | _ => none
noncomputable def gLs (n : Nat) (gs : FGs) : FG := fun d δ => match d with | .list ds => if ds.length = n then gs ds δ else none | _ => none
noncomputable def compLoop (g : FG) (t : FT) (e : FE) : List PyData → Zn → Option (List OT × Zn)
  | [], δ => some ([], δ)
  | d :: ds, δ => (g d δ).bind fun δ1 => (t δ1).bind fun p => if p.1 = true then (e p.2).bind fun q => (compLoop g t e ds q.2).bind fun z => some (q.1 :: z.1, z.2) else compLoop g t e ds p.2
noncomputable def Ja (n : Nat) (caps : List Nat) (it : FI) (g : FG) (t : FT) (e : FE) : FE := fun δ => (it δ).bind fun p => if p.1.length ≤ sizeLine then (compLoop g t e p.1 (blk n caps p.2)).bind fun z => some (.nd z.1, p.2) else none
noncomputable def Ze6 : FT := fun δ => some (true, δ)
inductive RS where
  | nx (δ : Zn)
  | rt (r : OT) (δ : Zn)
  | bk (δ : Zn)
  | ct (δ : Zn)
  | ex (c : Str) (δ : Zn)
  | bad
noncomputable abbrev FS := Zn → RS
noncomputable def RS.fits (D : Zh0) : RS → Prop
  | .nx δ => D.nx δ
  | .rt r δ => D.rt r δ
  | .bk δ => D.bk δ
  | .ct δ => D.ct δ
  | _ => False
noncomputable def oS (f : FS) : MSt := fun D δ => (f δ).fits D
noncomputable def xS (K : PySem.W.Frag) (f : FS) : MXt := fun δ k => ∃ c C δ', f δ = .ex c δ' ∧ ClsAt K c C ∧ k C δ'
noncomputable def Yu (f g : FS) : FS := fun δ => match f δ with | .nx δ' => g δ' | r => r
noncomputable def fNx : FS := fun δ => .nx δ
noncomputable def Z6y : FS := fun δ => .bk δ
noncomputable def Z7t : FS := fun δ => .ct δ
noncomputable def wE (e : FE) (k : OT → Zn → RS) : FS := fun δ => match e δ with | some (r, δ') => k r δ' | none => .bad
noncomputable def wX (F : FD) (a : FA) (k : OT → Zn → RS) : FS := fun δ => match a δ with
  | some (rs, δ1) => match F (OT.datas rs) with
    | .ok r => k r δ1
    | .exn c => .ex c δ1
    | .bad => .bad
  | none => .bad
noncomputable def Z2v : OT → Zn → RS := fun _ δ => .nx δ
noncomputable def Zbg : OT → Zn → RS := fun r δ => .rt r δ
noncomputable def Z3w : OT → Zn → RS := fun r δ => if Zdb r.data = true then .rt (.fz r.data) δ else .bad
noncomputable def Ju (i : Nat) : OT → Zn → RS := fun r δ => .nx (δ.set i (some (.fz r.data)))
noncomputable def Z31 (i : Nat) : OT → Zn → RS := fun r δ => if Zdb r.data = true then .nx (δ.set i (some (.fz r.data))) else .bad
noncomputable def Zeu (i : Nat) : OT → Zn → RS := fun r δ => .nx (δ.set i (some r))
noncomputable def Z7z (g : FG) : OT → Zn → RS := fun r δ => match g r.data δ with | some δ' => .nx δ' | none => .bad
noncomputable def Z38 : FS := fun δ => .rt (.fz .none) δ
noncomputable def Ze3 (i : Nat) : FS := fun δ => match δ[i]? with | some (some t) => .rt t (δ.set i none) | _ => .bad
noncomputable def Zem (t : FT) (u w : FS) : FS := fun δ => match t δ with | some (b, δ') => if b = true then u δ' else w δ' | none => .bad
noncomputable def Zl7 (c : Str) : FS := fun δ => .ex c δ
noncomputable def Jx (i : Nat) (e : FE) : FS := fun δ => match δ[i]? with
  | some (some (.nd _)) => wE e (fun r δ1 => match δ1[i]? with
    | some (some (.nd ts)) => if ts.length < sizeLine then .nx (δ1.set i (some (.nd (ts ++ [.fz r.data])))) else .bad
    | _ => .bad) δ
  | _ => .bad
noncomputable def Zmc (i : Nat) (e : FE) : FS := fun δ => match δ[i]? with
  | some (some (.nd _)) => wE e (fun r δ1 => match δ1[i]? with
    | some (some (.nd ts)) => if ts.length < sizeLine then .nx (δ1.set i (some (.nd (ts ++ [r])))) else .bad
    | _ => .bad) δ
  | _ => .bad
noncomputable def Zxo (i : Nat) (e j : FE) : FS := wE e fun r δ1 => match δ1[i]? with
  | some (some (.nd ts)) => wE j (fun n _ => match n.data with
    | .int k => match ixN ts.length k with
      | some j => .nx (δ1.set i (some (.nd (ts.set j (.fz r.data)))))
      | none => .bad
    | _ => .bad) δ1
  | _ => .bad
noncomputable def Zi8 (i : Nat) (e j j2 : FE) : FS := wE e fun r δ1 => match δ1[i]? with
  | some (some (.nd ts)) => wE j (fun n _ => match n.data with
    | .int k => match ixN ts.length k with
      | some j => match ts[j]? with
        | some (.nd us) => wE j2 (fun n' _ => match n'.data with
          | .int k' => match ixN us.length k' with
            | some j' => .nx (δ1.set i (some (.nd (ts.set j (.nd (us.set j' (.fz r.data)))))))
            | none => .bad
          | _ => .bad) δ1
        | _ => .bad
      | none => .bad
    | _ => .bad) δ1
  | _ => .bad
noncomputable def Zhh (i : Nat) (u : FS) : FS := fun δ => match δ[i]? with | some (some t) => u (δ.set i (some (.fz t.data))) | _ => .bad
noncomputable def forLoop (g : FG) (u : FS) : List PyData → Zn → RS
  | [], δ => .nx δ
  | d :: ds, δ => match g d δ with
    | none => .bad
    | some δ1 => match u δ1 with
      | .nx δ2 => forLoop g u ds δ2
      | .ct δ2 => forLoop g u ds δ2
      | .bk δ2 => .nx δ2
      | r => r
noncomputable def Zf0 (it : FI) (g : FG) (u : FS) : FS := fun δ => match it δ with | some (ds, δ1) => forLoop g u ds δ1 | none => .bad
noncomputable def whileLoop (t : FT) (u : FS) : Nat → Zn → RS
  | 0, _ => .bad
  | n + 1, δ => match t δ with
    | none => .bad
    | some (b, δ1) => if b = true then match u δ1 with
      | .nx δ2 => whileLoop t u n δ2
      | .ct δ2 => whileLoop t u n δ2
      | .bk δ2 => .nx δ2
      | .rt r δ2 => .rt r δ2
      | _ => .bad
      else .nx δ1
open Classical in
noncomputable def Zia (t : FT) (u : FS) : FS := fun δ => if h : ∃ n, whileLoop t u n δ ≠ .bad then whileLoop t u (Classical.choose h) δ else .bad
noncomputable def Zkx (n : Nat) (ds : List PyData) : Zn := ds.map (fun d => some (.fz d)) ++ List.replicate (n - ds.length) none
noncomputable def Z33 (n : Nat) (t : OT) (ds : List PyData) : Zn := some t :: (ds.map (fun d => some (.fz d)) ++ List.replicate (n - (ds.length + 1)) none)
noncomputable def RS.told : RS → RF
  | .nx _ => .ok (.fz .none)
  | .rt r _ => .ok r
  | .ex c _ => .exn c
  | _ => .bad
noncomputable def Zbe (np n : Nat) (S : FS) : FD := fun ds => if ds.length = np then (S (Zkx n ds)).told else .bad
end L2
namespace L2
open PySem PySem.Spec PyProof.Rows
noncomputable def sD (F : FD) : List PyData → (OT → Prop) → Prop := fun ds k => ∃ r, F ds = .ok r ∧ k r
noncomputable def sX (K : PySem.W.Frag) (F : FD) : List PyData → Addr → Prop := fun ds cl => ∃ c, F ds = .exn c ∧ ClsAt K c cl
theorem bs {α β : Type} {x : Option α} {f : α → Option β} {b : β} (h : x.bind f = some b) : ∃ a, x = some a ∧ f a = some b := Option.bind_eq_some_iff.mp h
section
variable {X : Cx} {io : List Nat} {p c : Bool} {e tg : Expr} {es : List Expr} {st : Stmt} {sts : List Stmt} {eo : Option Expr} {fa fb fc : FE} {ra : FA} {ta tb : FT} {i : Nat}
theorem Zb (h : ME X io p c e (Z1x i)) : ME X io p c e (o2 (Zh i)) := h.weak fun δ K q91 => by
  obtain ⟨r, δ', h, k⟩ := q91
  unfold Zh at h; unfold Z1x
  split at h
  · rename_i d hd; (try rw [hd]); cases h; exact k
  · cases h
theorem Ztn (h : ME X io p c e (Z1n i)) : ME X io p c e (o2 (Zrk i)) := h.weak fun δ K q92 => by
  obtain ⟨r, δ', h, k⟩ := q92
  unfold Zrk at h; unfold Z1n
  split at h
  · rename_i d hd; (try rw [hd]); cases h; exact k
  · cases h
theorem Yd {d : PyData} (h : ME X io p c e (mC d)) : ME X io p c e (o2 (fC d)) := h.weak fun δ K ⟨r, δ', h, k⟩ => by cases h; exact k
noncomputable def ByS (g : PyData → PyData → Option PyData) (rp : PyData → PyData → (PyData → Prop) → Prop) : Prop := ∀ d e r k, g d e = some r → k r → rp d e k
noncomputable def ByO (g : PyData → PyData → Option OT) (rp : PyData → PyData → (OT → Prop) → Prop) : Prop := ∀ d e r k, g d e = some r → k r → rp d e k
theorem Zuc {g rp} (G : ByS g rp) {δ : Zn} {K : OT → Zn → Prop} (h : o2 (Zm g fa fb) δ K) : Zlu rp (o2 fa) (o2 fb) δ K := by
  obtain ⟨r, δ', h, k⟩ := h
  obtain ⟨⟨x, δ1⟩, h1, h⟩ := bs h
  obtain ⟨⟨y, δ2⟩, h2, h⟩ := bs h
  obtain ⟨d, h3, h⟩ := bs h
  cases h
  exact ⟨x, δ1, h1, y, δ2, h2, G _ _ _ _ h3 k⟩
theorem Zo {g rp} (G : ByS g rp) (h : ME X io p c e (Zlu rp (o2 fa) (o2 fb))) : ME X io p c e (o2 (Zm g fa fb)) := h.weak fun δ K z => Zuc G z
theorem Z7j {f : FE} {δ : Zn} {K : Bool → Zn → Prop} (h : o2 (tV f) δ K) : o2 f δ (kB K) := by
  obtain ⟨b, δ', h, k⟩ := h
  obtain ⟨⟨x, δ1⟩, h1, h⟩ := bs h
  refine ⟨x, δ1, h1, ?_⟩
  unfold kB
  try dsimp only at h ⊢
  split at h
  · cases h; exact k
  · cases h
theorem Jb {g rp} (G : ByS g rp) (h : MT X io p e (fun δ K => Zlu rp (o2 fa) (o2 fb) δ (kB K))) : MT X io p e (o2 (tV (Zm g fa fb))) := h.weak fun δ K z => Zuc G (Z7j z)
theorem Z3 {g rp} (G : ByO g rp) (h : ME X io p c e (Z16 rp (o2 fa) (o2 fb))) : ME X io p c e (o2 (We g fa fb)) := h.weak fun δ K h => by
  obtain ⟨r, δ', h, k⟩ := h
  obtain ⟨⟨x, δ1⟩, h1, h⟩ := bs h
  obtain ⟨⟨y, δ2⟩, h2, h⟩ := bs h
  obtain ⟨d, h3, h⟩ := bs h
  cases h
  exact ⟨x, δ1, h1, y, δ2, h2, G _ _ _ _ h3 k⟩
noncomputable def Zz5 : PyData → Option PyData | .int i => some (.int (-i)) | _ => none
noncomputable def Z1q : PyData → Option PyData | .bool b => some (.bool (!b)) | _ => none
theorem Ztf (h : ME X io p c e (Z45 (o2 fa))) : ME X io p c e (o2 (fUn Zz5 fa)) := h.weak fun δ K h => by
  obtain ⟨r, δ', h, k⟩ := h
  obtain ⟨⟨x, δ1⟩, h1, h⟩ := bs h
  obtain ⟨d, h3, h⟩ := bs h
  cases h
  refine ⟨x, δ1, h1, ?_⟩
  dsimp only at h3 ⊢
  cases q : x.data <;> rw [q] at h3 <;> cases h3
  exact k
theorem Zps (h : ME X io p c e (Z0f (o2 fa))) : ME X io p c e (o2 (fUn Z1q fa)) := h.weak fun δ K h => by
  obtain ⟨r, δ', h, k⟩ := h
  obtain ⟨⟨x, δ1⟩, h1, h⟩ := bs h
  obtain ⟨d, h3, h⟩ := bs h
  cases h
  refine ⟨x, δ1, h1, ?_⟩
  dsimp only at h3 ⊢
  cases q : x.data <;> rw [q] at h3 <;> cases h3
  exact k
theorem Zls (h : ME X io p c e (Z00 (o2 fa) (o2 fb))) : ME X io p c e (o2 (Zxc fa fb)) := h.weak fun δ K h => by
  obtain ⟨r, δ', h, k⟩ := h
  obtain ⟨⟨x, δ1⟩, h1, h⟩ := bs h
  refine ⟨x, δ1, h1, ?_⟩
  try dsimp only at h ⊢
  split at h
  · rename_i q; (try rw [q]); rw [Ztu, if_pos rfl]; exact ⟨r, δ', h, k⟩
  · rename_i q; (try rw [q]); cases h; rw [Ztu, if_neg Bool.false_ne_true]; exact k
  · cases h
theorem Z3z (h : ME X io p c e (mIf (o2 ta) (o2 fa) (o2 fb))) : ME X io p c e (o2 (fIf ta fa fb)) := h.weak fun δ K h => by
  obtain ⟨r, δ', h, k⟩ := h
  obtain ⟨⟨x, δ1⟩, h1, h⟩ := bs h
  refine ⟨x, δ1, h1, ?_⟩
  try dsimp only at h ⊢
  split at h
  · rename_i q; rw [if_pos q]; exact ⟨r, δ', h, k⟩
  · rename_i q; rw [if_neg q]; exact ⟨r, δ', h, k⟩
theorem Zeb (h : MT X io p e (Z6i (o2 ta))) : MT X io p e (o2 (tNo ta)) := h.weak fun δ K h => by
  obtain ⟨r, δ', h, k⟩ := h
  obtain ⟨⟨x, δ1⟩, h1, h⟩ := bs h
  cases h
  exact ⟨x, δ1, h1, k⟩
theorem Zy1 (h : MW X io p e (Z5c (o2 ta) (o2 tb))) : MW X io p e (o2 (tAn ta tb)) := h.weak fun δ K h => by
  obtain ⟨r, δ', h, k⟩ := h
  obtain ⟨⟨x, δ1⟩, h1, h⟩ := bs h
  refine ⟨x, δ1, h1, ?_⟩
  try dsimp only at h ⊢
  split at h
  · rename_i q; rw [if_pos q]; exact ⟨r, δ', h, k⟩
  · rename_i q; rw [if_neg q]; cases h; exact k
theorem Zgh (h : MW X io p e (mOr (o2 ta) (o2 tb))) : MW X io p e (o2 (tO ta tb)) := h.weak fun δ K h => by
  obtain ⟨r, δ', h, k⟩ := h
  obtain ⟨⟨x, δ1⟩, h1, h⟩ := bs h
  refine ⟨x, δ1, h1, ?_⟩
  try dsimp only at h ⊢
  split at h
  · rename_i q; rw [if_pos q]; cases h; exact k
  · rename_i q; rw [if_neg q]; exact ⟨r, δ', h, k⟩
theorem Zdj (h : MT X io p e (Z57 (o2 fa))) : MT X io p e (o2 (tD fa)) := h.weak fun δ K h => by
  obtain ⟨r, δ', h, k⟩ := h
  obtain ⟨⟨x, δ1⟩, h1, h⟩ := bs h
  obtain ⟨d, h3, h⟩ := bs h
  cases h
  refine ⟨x, δ1, h1, ?_⟩
  dsimp only at h3 ⊢
  rw [h3]
  exact k
theorem Zj (h : MA X io p c es Z4q) : MA X io p c es (o2 Z5) := h.weak fun δ K ⟨r, δ', h, k⟩ => by cases h; exact k
theorem Zvh (h : MA X io p c es (Zzn (o2 fa) (o2 ra))) : MA X io p c es (o2 (Ze fa ra)) := h.weak fun δ K h => by
  obtain ⟨r, δ', h, k⟩ := h
  obtain ⟨⟨x, δ1⟩, h1, h⟩ := bs h
  obtain ⟨⟨y, δ2⟩, h2, h⟩ := bs h
  cases h
  exact ⟨x, δ1, h1, y, δ2, h2, k⟩
theorem Zbd (h : ME X io p c e (Z5f (o2 ra))) : ME X io p c e (o2 (Zfl ra)) := h.weak fun δ K h => by
  obtain ⟨r, δ', h, k⟩ := h
  obtain ⟨⟨x, δ1⟩, h1, h⟩ := bs h
  refine ⟨x, δ1, h1, ?_⟩
  dsimp only at h
  split at h
  · rename_i q; cases h; exact ⟨q, k⟩
  · cases h
theorem Zdi (h : ME X io p c e (Z4z (o2 ra))) : ME X io p c e (o2 (Zjm ra)) := h.weak fun δ K h => by
  obtain ⟨r, δ', h, k⟩ := h
  obtain ⟨⟨x, δ1⟩, h1, h⟩ := bs h
  refine ⟨x, δ1, h1, ?_⟩
  dsimp only at h
  split at h
  · rename_i q; cases h; exact ⟨q, k⟩
  · cases h
theorem Zxj (h : ME X io p c e (Zy5 (o2 fa))) : ME X io p c e (o2 (Zrd fa)) := h.weak fun δ K h => by
  obtain ⟨r, δ', h, k⟩ := h
  obtain ⟨⟨x, δ1⟩, h1, h⟩ := bs h
  refine ⟨x, δ1, h1, ?_⟩
  dsimp only at h
  split at h
  · rename_i q; cases h; exact ⟨q, k⟩
  · cases h
theorem Zr {F : FD} (h : ME X io p c e (Zvy (sD F) (o2 ra))) : ME X io p c e (o2 (Z7 F ra)) := h.weak fun δ K h => by
  obtain ⟨r, δ', h, k⟩ := h
  obtain ⟨⟨x, δ1⟩, h1, h⟩ := bs h
  refine ⟨x, δ1, h1, ?_⟩
  dsimp only at h
  split at h
  · rename_i q; cases h; exact ⟨_, q, k⟩
  · cases h
theorem Zbw {g rp} (G : ∀ ds r k, g ds = some r → k r → rp ds k) (h : ME X io p c e (Z11 rp (o2 ra))) : ME X io p c e (o2 (Zij g ra)) := h.weak fun δ K h => by
  obtain ⟨r, δ', h, k⟩ := h
  obtain ⟨⟨x, δ1⟩, h1, h⟩ := bs h
  obtain ⟨d, h3, h⟩ := bs h
  cases h
  exact ⟨x, δ1, h1, G _ _ _ h3 k⟩
theorem Zwk {g rp} (G : ∀ ds r k, g ds = some r → k r → rp ds k) (h : ME X io p c e (mBl rp (o2 ra))) : ME X io p c e (o2 (fBl g ra)) := h.weak fun δ K h => by
  obtain ⟨r, δ', h, k⟩ := h
  obtain ⟨⟨x, δ1⟩, h1, h⟩ := bs h
  obtain ⟨d, h3, h⟩ := bs h
  cases h
  exact ⟨x, δ1, h1, G _ _ _ h3 k⟩
theorem Zkb {T : String} (h : ME X io p c e (Z6l T (o2 fa))) : ME X io p c e (o2 (Zr6 T fa)) := h.weak fun δ K h => by
  obtain ⟨r, δ', h, k⟩ := h
  obtain ⟨⟨x, δ1⟩, h1, h⟩ := bs h
  by_cases hf : Zje x.data = true
  · have h' : (if Zje x.data = true then none else some (OT.fz (.bool (Zn7 T x.data)), δ1)) = some (r, δ') := h
    rw [if_pos hf] at h'
    cases h'
  · have h' : (if Zje x.data = true then none else some (OT.fz (.bool (Zn7 T x.data)), δ1)) = some (r, δ') := h
    rw [if_neg hf] at h'
    injection h' with h'
    injection h' with e1 e2
    subst e1 e2
    exact ⟨x, _, h1, Bool.eq_false_iff.mpr hf, k⟩
theorem Zoh (h : MO X io p eo Zq3) : MO X io p eo (o2 oN) := h.weak fun δ K ⟨r, δ', h, k⟩ => by cases h; exact k
theorem Ziw (h : MO X io p eo (Z1b (o2 fa))) : MO X io p eo (o2 (oI fa)) := h.weak fun δ K h => by
  obtain ⟨r, δ', h, k⟩ := h
  obtain ⟨⟨x, δ1⟩, h1, h⟩ := bs h
  refine ⟨x, δ1, h1, ?_⟩
  try dsimp only at h ⊢
  split at h
  · rename_i q; (try rw [q]); cases h; exact k
  · cases h
theorem Zwq {lo hi : FO} (h : ME X io p c e (mSl (o2 fa) (o2 lo) (o2 hi))) : ME X io p c e (o2 (fSl fa lo hi)) := h.weak fun δ K h => by
  obtain ⟨r, δ', h, k⟩ := h
  obtain ⟨⟨x, δ1⟩, h1, h⟩ := bs h
  obtain ⟨⟨y, δ2⟩, h2, h⟩ := bs h
  obtain ⟨⟨z, δ3⟩, h3, h⟩ := bs h
  refine ⟨x, δ1, h1, y, δ2, h2, z, δ3, h3, ?_⟩
  try dsimp only at h ⊢
  split at h
  · rename_i q; (try rw [q]); cases h; exact k
  · cases h
theorem J5 (h : MI X io p c tg e (iL (o2 fa))) : MI X io p c tg e (o2 (Zf7 fa)) := h.weak fun δ K h => by
  obtain ⟨r, δ', h, k⟩ := h
  obtain ⟨⟨x, δ1⟩, h1, h⟩ := bs h
  refine ⟨x, δ1, h1, ?_⟩
  try dsimp only at h ⊢
  split at h
  · rename_i q; (try rw [q]); cases h; exact k
  · cases h
theorem Zle (h : MI X io p c tg e (iR1 (o2 ra))) : MI X io p c tg e (o2 (iRa ra)) := h.weak fun δ K h => by
  obtain ⟨r, δ', h, k⟩ := h
  obtain ⟨⟨x, δ1⟩, h1, h⟩ := bs h
  refine ⟨x, δ1, h1, ?_⟩
  try dsimp only at h ⊢
  split at h
  case h_2 => cases h
  rename_i q
  (try rw [q])
  try dsimp only
  split at h
  · rename_i b; cases h; exact ⟨Zdz b, k⟩
  · cases h
theorem Zx7 (h : MI X io p c tg e (iR2 (o2 ra))) : MI X io p c tg e (o2 (iRb ra)) := h.weak fun δ K h => by
  obtain ⟨r, δ', h, k⟩ := h
  obtain ⟨⟨x, δ1⟩, h1, h⟩ := bs h
  refine ⟨x, δ1, h1, ?_⟩
  try dsimp only at h ⊢
  split at h
  case h_2 => cases h
  rename_i q
  (try rw [q])
  try dsimp only
  split at h
  · rename_i b
    cases h
    rw [Bool.and_eq_true] at b
    exact ⟨⟨(Zdz b.1).1, (Zdz b.1).2, (Zdz b.2).1, (Zdz b.2).2⟩, k⟩
  · cases h
theorem Z2 (h : MG X io c tg (dName i)) : MG X io c tg (oG (gNm i)) := h.weak fun d δ K ⟨δ', h, k⟩ => by cases h; exact k
theorem Zau (h : MGs X io c es Z5n) : MGs X io c es (oGs gNl) := h.weak fun d δ K q94 => by
  obtain ⟨δ', h, k⟩ := q94
  unfold gNl at h
  split at h
  · cases h; exact ⟨rfl, k⟩
  · cases h
theorem Yj {g : FG} {gs : FGs} (h : MGs X io c es (Zz8 (oG g) (oGs gs))) : MGs X io c es (oGs (gCn g gs)) := h.weak fun d δ K q95 => by
  obtain ⟨δ', h, k⟩ := q95
  unfold gCn at h
  split at h
  · obtain ⟨δ1, h1, h⟩ := bs h
    exact ⟨δ1, h1, δ', h, k⟩
  · cases h
theorem Zco {n : Nat} {gs : FGs} (h : MG X io c tg (dTup n (oGs gs))) : MG X io c tg (oG (gTp n gs)) := h.weak fun d δ K q96 => by
  obtain ⟨δ', h, k⟩ := q96
  unfold gTp at h
  split at h
  case h_2 => cases h
  split at h
  · rename_i q; exact ⟨q, δ', h, k⟩
  · cases h
theorem Jo (h : MIfs X io p es Zy3) : MIfs X io p es (o2 Ze6) := h.weak fun δ K ⟨r, δ', h, k⟩ => by cases h; exact k
theorem Zu1 {g : FG} {t : FT} {me : FE} {ds : List PyData} {δ0 : Zn} {zs : List OT} {δe : Zn} (h : compLoop g t me ds δ0 = some (zs, δe)) :
    ∃ I : Nat → List OT → Zn → Prop, I 0 [] δ0 ∧
  (∀ (i : Nat) (d : PyData) (rs : List OT) (δ' : Zn), ds[i]? = some d → I i rs δ' → oG g d δ' fun δ2 => o2 t δ2 fun b δ3 => if b = true then o2 me δ3 fun r δ4 => I (i + 1) (rs ++ [r]) δ4 else I (i + 1) rs δ3) ∧
  ∀ rs δ', I ds.length rs δ' → rs = zs ∧ δ' = δe := by
  refine ⟨fun i rs δ' => ∃ ys, rs ++ ys = zs ∧ compLoop g t me (ds.drop i) δ' = some (ys, δe), ⟨zs, rfl, by rw [List.drop_zero]; exact h⟩, ?_, ?_⟩
  · rintro i d rs δ' hd ⟨ys, e, hl⟩
    obtain ⟨hi, hdi⟩ := List.getElem?_eq_some_iff.mp hd
    rw [List.drop_eq_getElem_cons hi, hdi] at hl
    unfold compLoop at hl
    obtain ⟨δ1, h1, hl⟩ := bs hl
    obtain ⟨⟨b, δ2⟩, h2, hl⟩ := bs hl
    refine ⟨δ1, h1, b, δ2, h2, ?_⟩
    dsimp only at hl
    split at hl
    · rename_i hb
      rw [if_pos hb]
      obtain ⟨⟨r, δ3⟩, h3, hl⟩ := bs hl
      obtain ⟨⟨ws, δ4⟩, h4, hl⟩ := bs hl
      cases hl
      exact ⟨r, δ3, h3, ws, by rw [List.append_assoc]; exact e, h4⟩
    · rename_i hb
      rw [if_neg hb]
      exact ⟨ys, e, hl⟩
  · rintro rs δ' ⟨ys, e, hl⟩
    rw [List.drop_length] at hl
    unfold compLoop at hl
    cases hl
    exact ⟨by rw [← e, List.append_nil], rfl⟩
theorem Zpq {n : Nat} {caps : List Nat} {it : FI} {g : FG} {t : FT} {me : FE} {δ : Zn} {K : OT → Zn → Prop} (h : o2 (Ja n caps it g t me) δ K) : Zhu n caps (o2 it) (oG g) (o2 t) (o2 me) δ K := by
  obtain ⟨r, δ', h, k⟩ := h
  obtain ⟨⟨ds, δ1⟩, h1, h⟩ := bs h
  refine ⟨ds, δ1, h1, ?_⟩
  dsimp only at h
  split at h
  case isFalse => cases h
  rename_i hz
  obtain ⟨⟨zs, δe⟩, h2, h⟩ := bs h
  cases h
  obtain ⟨I, i0, st, en⟩ := Zu1 h2
  refine ⟨hz, I, i0, st, fun rs δ'' q => ?_⟩
  obtain ⟨rfl, rfl⟩ := en rs δ'' q
  exact k
theorem Zcw {n : Nat} {caps : List Nat} {it : FI} {g : FG} {t : FT} {me : FE} (h : ME X io p c e (Zhu n caps (o2 it) (oG g) (o2 t) (o2 me))) : ME X io p c e (o2 (Ja n caps it g t me)) := h.weak fun δ K z => Zpq z
end
end L2
namespace L2
open PySem PySem.Spec PyProof.Rows
section
variable {X : Cx} {io : List Nat} {p c : Bool} {e tg iter : Expr} {es : List Expr} {st : Stmt} {sts : List Stmt} {fa fb fc : FE} {ra : FA} {ta tb : FT} {i : Nat} {f g u w : FS}
theorem Zu (h : MSs X io sts (Z3q (oS f) (oS g))) : MSs X io sts (oS (Yu f g)) := h.weak fun D δ h => by
  unfold oS Yu at h; unfold Z3q oS
  cases q : f δ <;> rw [q] at h <;> exact h
theorem Jh (h : MSs X io sts Zyt) : MSs X io sts (oS fNx) := h.weak fun D δ h => h
theorem Zp1 {k : OT → Zn → RS} {D : Zh0} {δ : Zn} (h : oS (wE fa k) D δ) : o2 fa δ fun r δ' => (k r δ').fits D := by
  unfold oS wE at h
  split at h
  · rename_i q; exact ⟨_, _, q, h⟩
  · exact h.elim
theorem o2.imp {α : Type} {f : Zn → Option (α × Zn)} {δ : Zn} {K K' : α → Zn → Prop} (h : o2 f δ K) (k : ∀ r δ', K r δ' → K' r δ') : o2 f δ K' := let ⟨r, δ', e, q⟩ := h; ⟨r, δ', e, k r δ' q⟩
theorem Zsw {P : Prop} [Decidable P] {a : RS} {D : Zh0} (h : (if P then a else .bad : RS).fits D) : P ∧ a.fits D := by
  split at h
  · exact ⟨‹_›, h⟩
  · exact h.elim
theorem Yy (h : MS X io st (Z6j (o2 fa))) : MS X io st (oS (wE fa Zbg)) := h.weak fun D δ h => Zp1 h
theorem Zdg (h : MS X io st (Zrs i)) : MS X io st (oS (Ze3 i)) := h.weak fun D δ h => by
  unfold oS Ze3 at h; unfold Zrs
  split at h
  · rename_i q; (try rw [q]); exact h
  · exact h.elim
theorem Zdp (h : MS X io st (Z43 (o2 ta) (oS u) (oS w))) : MS X io st (oS (Zem ta u w)) := h.weak fun D δ h => by
  unfold oS Zem at h
  split at h
  · rename_i b δ' q
    refine ⟨b, δ', q, ?_⟩
    split at h
    · rename_i hb; rw [if_pos hb]; exact h
    · rename_i hb; rw [if_neg hb]; exact h
  · exact h.elim
theorem Yk (h : MS X io st (Zxr i (o2 fa))) : MS X io st (oS (wE fa (Ju i))) := h.weak fun D δ h => Zp1 h
theorem Zev (h : MS X io st (Zns i (o2 fa))) : MS X io st (oS (wE fa (Zeu i))) := h.weak fun D δ h => Zp1 h
section
variable {n : Nat} {caps : List Nat} {o q : Nat} {it : FI} {gg : FG} {t : FT} {me : FE}
theorem Zlz (h : MS X io st (if true = true then Zns i (Zhu n caps (o2 it) (oG gg) (o2 t) (o2 me)) else Zxr i (Zhu n caps (o2 it) (oG gg) (o2 t) (o2 me)))) : MS X io st (oS (wE (Ja n caps it gg t me) (Zeu i))) :=
  h.weak fun D δ h => by rw [if_pos rfl]; exact Zpq (Zp1 h)
theorem Zep (h : MS X io st (if false = true then Zns i (Zhu n caps (o2 it) (oG gg) (o2 t) (o2 me)) else Zxr i (Zhu n caps (o2 it) (oG gg) (o2 t) (o2 me)))) : MS X io st (oS (wE (Ja n caps it gg t me) (Ju i))) :=
  h.weak fun D δ h => by rw [if_neg Bool.false_ne_true]; exact Zpq (Zp1 h)
end
theorem Zcp (h : MS X io st (Zjg i (o2 fa))) : MS X io st (oS (Jx i fa)) := h.weak fun D δ h => by
  unfold oS Jx at h; unfold Zjg
  split at h
  case h_2 => exact h.elim
  rename_i q; (try rw [q])
  refine (Zp1 h).imp fun r δ' z => ?_
  split at z
  · rename_i q2; (try rw [q2]); exact Zsw z
  · exact z.elim
theorem Zzf (h : MS X io st (Z6k i (o2 fa) (o2 fb))) : MS X io st (oS (Zxo i fa fb)) := h.weak fun D δ h => by
  refine (Zp1 h).imp fun r δ' z => ?_
  split at z
  case h_2 => exact z.elim
  rename_i q; (try rw [q])
  refine (Zp1 z).imp fun n δ2 z => ?_
  split at z
  case h_2 => exact z.elim
  rename_i k q2; (try rw [q2])
  show match ixN _ k with | some j => _ | none => _
  split at z
  · rename_i q3; (try rw [q3]); exact z
  · exact z.elim
theorem Zjf (h : MS X io st (Z0c i (o2 fa) (o2 fb) (o2 fc))) : MS X io st (oS (Zi8 i fa fb fc)) := h.weak fun D δ h => by
  refine (Zp1 h).imp fun r δ' z => ?_
  split at z
  case h_2 => exact z.elim
  rename_i q; (try rw [q])
  refine (Zp1 z).imp fun n δ2 z => ?_
  split at z
  case h_2 => exact z.elim
  rename_i k q2; (try rw [q2])
  show match ixN _ k with | some j => _ | none => _
  split at z
  case h_2 => exact z.elim
  rename_i q3; (try rw [q3])
  try dsimp only
  split at z
  case h_2 => exact z.elim
  rename_i q4; (try rw [q4])
  refine (Zp1 z).imp fun n' δ3 z => ?_
  split at z
  case h_2 => exact z.elim
  rename_i k' q5; (try rw [q5])
  show match ixN _ k' with | some j => _ | none => _
  split at z
  · rename_i q6; (try rw [q6]); exact z
  · exact z.elim
theorem Zqa (h : MS X io st (Zim i (oS u))) : MS X io st (oS (Zhh i u)) := h.weak fun D δ h => by
  unfold oS Zhh at h; unfold Zim
  split at h
  · rename_i q; (try rw [q]); exact h
  · exact h.elim
theorem Zgb {gg : FG} {d : PyData} {ds : List PyData} {δ : Zn} : forLoop gg u (d :: ds) δ = match gg d δ with
    | none => .bad
    | some δ1 => match u δ1 with
      | .nx δ2 => forLoop gg u ds δ2
      | .ct δ2 => forLoop gg u ds δ2
      | .bk δ2 => .nx δ2
      | r => r := rfl
theorem Zck {it : FI} {gg : FG} (h : MS X io st (Z6f (o2 it) (oG gg) (oS u))) : MS X io st (oS (Zf0 it gg u)) := h.weak fun D δ h => by
  unfold oS Zf0 at h
  split at h
  case h_2 => exact h.elim
  rename_i ds δ1 q
  refine ⟨ds, δ1, q, fun i δ' => (forLoop gg u (ds.drop i) δ').fits D, by show RS.fits D (forLoop gg u (ds.drop 0) δ1); rw [List.drop_zero]; exact h, fun i d δ' hd z => ?_, fun δ' z => ?_⟩
  · obtain ⟨hi, hdi⟩ := List.getElem?_eq_some_iff.mp hd
    replace z : RS.fits D (forLoop gg u (ds.drop i) δ') := z
    rw [List.drop_eq_getElem_cons hi, hdi, Zgb] at z
    split at z
    case h_1 => exact z.elim
    rename_i δ2 q2
    refine ⟨δ2, q2, ?_⟩
    unfold oS
    cases q3 : u δ2 <;> rw [q3] at z <;> (try rw [q3]) <;> exact z
  · replace z : RS.fits D (forLoop gg u (ds.drop ds.length) δ') := z
    rw [List.drop_length] at z; exact z
theorem Zl1 (h : MS X io st (Zug (o2 ta) (oS u))) : MS X io st (oS (Zia ta u)) := h.weak fun D δ h => by
  unfold oS Zia at h
  split at h
  case isFalse => exact h.elim
  rename_i hn
  refine ⟨fun n δ' => (whileLoop ta u n δ').fits D, ⟨_, h⟩, fun n δ' z => ?_⟩
  cases n with
  | zero => exact z.elim
  | succ n =>
    unfold whileLoop at z
    split at z
    case h_1 => exact z.elim
    rename_i b δ1 q
    refine ⟨b, δ1, q, ?_⟩
    split at z
    · rename_i hb
      rw [if_pos hb]
      refine ⟨fun δ'' => (whileLoop ta u n δ'').fits D, fun δ'' y => ⟨n, Nat.lt_succ_self n, y⟩, ?_⟩
      unfold oS
      cases q3 : u δ1 <;> rw [q3] at z <;> exact z
    · rename_i hb
      rw [if_neg hb]
      exact z
theorem Zeh {n m : Nat} : ∀ {δ : Zn}, whileLoop ta u n δ ≠ .bad → whileLoop ta u (n + m) δ = whileLoop ta u n δ := by
  induction n with
  | zero => intro δ h; exact absurd rfl h
  | succ n ih =>
    intro δ h
    rw [Nat.succ_add]
    unfold whileLoop at h ⊢
    cases q : ta δ with
    | none => rfl
    | some x =>
      obtain ⟨b, δ1⟩ := x
      rw [q] at h
      try dsimp only at h ⊢
      split
      · rename_i hb
        rw [if_pos hb] at h
        cases q3 : u δ1 <;> rw [q3] at h <;> first | exact ih h | rfl
      · rfl
theorem Zkf {r : RS} {δ : Zn} (n : Nat) (h : whileLoop ta u n δ = r) (hr : r ≠ .bad) : Zia ta u δ = r := by
  have hn : ∃ n, whileLoop ta u n δ ≠ .bad := ⟨n, by rw [h]; exact hr⟩
  unfold Zia
  rw [dif_pos hn]
  have h1 := Classical.choose_spec hn
  have e1 := Zeh (m := n) h1
  have e2 := Zeh (m := Classical.choose hn) (show whileLoop ta u n δ ≠ .bad by rw [h]; exact hr)
  rw [Nat.add_comm] at e2
  rw [← e1, e2, h]
theorem Zm2 {cn : Str} : MS X io st (oS (Zl7 cn)) := Zs1.weak fun D δ h => h
theorem Z2i {F : FD} {k : OT → Zn → RS} (h : MS X io st (oS (wE (Z7 F ra) k))) : MS X io st (oS (wX F ra k)) := h.weak fun D δ h => by
  unfold oS wX at h; unfold oS wE Z7
  split at h
  case h_2 => exact h.elim
  rename_i rs δ1 q
  (try rw [q])
  dsimp only [Option.bind]
  split at h
  · rename_i q2; (try rw [q2]); exact h
  · exact h.elim
  · exact h.elim
theorem XS.weak {m m' : MXt} (h : XS X io st m) (w : ∀ δ k, m' δ k → m δ k) : XS X io st m' := fun C pins s σ H δ fp ex k I R hm => h C pins s σ H δ fp ex k I R (w δ k hm)
theorem XSs.weak {m m' : MXt} (h : XSs X io sts m) (w : ∀ δ k, m' δ k → m δ k) : XSs X io sts m' := fun C pins s σ H δ fp ex k I R hm => h C pins s σ H δ fp ex k I R (w δ k hm)
theorem XE.weak {m m' : MXt} (h : XE X io e m) (w : ∀ δ k, m' δ k → m δ k) : XE X io e m' := fun C pins s σ H δ fp ex k I R hm => h C pins s σ H δ fp ex k I R (w δ k hm)
class NoEx (f : FS) : Prop where
  no : ∀ δ cn δ', f δ ≠ .ex cn δ'
class NoExK (k : OT → Zn → RS) : Prop where
  no : ∀ r δ cn δ', k r δ ≠ .ex cn δ'
theorem Zxa (f : FS) [NoEx f] : XS X io st (xS X.K f) := Zsb.weak fun δ k ⟨cn, _, δ', h, _⟩ => (NoEx.no δ cn δ' h).elim
theorem Ztt (f : FS) [NoEx f] : XSs X io sts (xS X.K f) := Zp3.weak fun δ k ⟨cn, _, δ', h, _⟩ => (NoEx.no δ cn δ' h).elim
instance nx_kRet_k : NoExK Zbg := ⟨fun _ _ _ _ h => by cases h⟩
instance nx_kSet_k : NoExK (Ju i) := ⟨fun _ _ _ _ h => by cases h⟩
instance nx_wE {k : OT → Zn → RS} [NoExK k] : NoEx (wE fa k) := ⟨fun δ cn δ' h => by
  unfold wE at h
  split at h
  · exact NoExK.no _ _ _ _ h
  · cases h⟩
instance nx_fNx : NoEx fNx := ⟨fun _ _ _ h => by cases h⟩
theorem Zsg {cn : Str} {C : Addr} (hc : ClsAt X.K cn C) (h : XS X io st (Zn9 C)) : XS X io st (xS X.K (Zl7 cn)) := h.weak fun δ k z => by
  obtain ⟨c', C', δ', h, k1, k2⟩ := z
  cases h
  have := k1.symm.trans hc
  injection this with this; injection this with this; injection this with this
  subst this
  exact k2
theorem Zoa {F : FD} {k : OT → Zn → RS} [NoExK k] (h : XE X io e (Ztr (sX X.K F) (o2 ra))) : XE X io e (xS X.K (wX F ra k)) := h.weak fun δ kk z => by
  obtain ⟨c', C', δ', h, k1, k2⟩ := z
  unfold wX at h
  split at h
  case h_2 => cases h
  rename_i rs δ1 q
  refine ⟨rs, δ1, q, ?_⟩
  split at h
  · exact (NoExK.no _ _ _ _ h).elim
  · rename_i q2
    cases h
    exact ⟨C', ⟨_, q2, k1⟩, k2⟩
  · cases h
theorem Zl6 (h1 : XS X io st (xS X.K f)) (m1 : MS X io st (oS f)) (h2 : XSs X io sts (xS X.K g)) (hx : X.xe = fun _ _ => False := by rfl) : XSs X io (st :: sts) (xS X.K (Yu f g)) := by
  intro C pins s σ H δ fp ex k I R hm
  obtain ⟨cn, C', δ', h, k1, k2⟩ := hm
  unfold Yu at h
  split at h
  · rename_i δ1 q
    exact Zso m1 h2 hx C pins s σ H δ fp ex k I R (by
      show (f δ).fits _
      (try rw [q])
      exact ⟨cn, C', δ', h, k1, k2⟩)
  · exact Zmt h1 C pins s σ H δ fp ex k I R ⟨cn, C', δ', h, k1, k2⟩
theorem Zlc (h1 : XS X io st (xS X.K f)) : XSs X io [st] (xS X.K f) := Zmt h1
theorem Z25 {a b : List Stmt} {pos : Pos} (h : XS X io (.If e a b pos) (Z5v (o2 ta) (xS X.K u) (xS X.K w))) : XS X io (.If e a b pos) (xS X.K (Zem ta u w)) := h.weak fun δ k z => by
  obtain ⟨cn, C', δ', h, k1, k2⟩ := z
  unfold Zem at h
  split at h
  case h_2 => cases h
  rename_i b δ1 q
  refine ⟨b, δ1, q, ?_⟩
  split at h
  · rename_i hb; rw [if_pos hb]; exact ⟨cn, C', δ', h, k1, k2⟩
  · rename_i hb; rw [if_neg hb]; exact ⟨cn, C', δ', h, k1, k2⟩
end
section
variable {P : Program} {w : World} {K : PySem.W.Frag} {mg : Str → Option Value} {base : Heap} {x qual : Str} {st : Stmt} {f : Addr} {fd : FuncData} {N ps : List Str} {n np nn : Nat} {S : FS}
theorem RS.told_fits {r : RS} {o : OT} {k : OT → Prop} (h : r.told = .ok o) (hk : k o) : r.fits (Zul k) := by
  cases r <;> unfold RS.told at h <;> first | (cases h; exact hk) | cases h
theorem Y0 (F : Fun K x qual st f fd) (Sc : Z6 N ps (Zf st)) (hN : N.length = nn) (hp : np = ps.length)
    (hb : ∀ (cdv : Value) (A : Around) (outer : List Env) (s : Shared) (H : Hp) (E : XK), Room n (A.deeper (envOfC qual (Zf st) s.heap.objs.size f cdv)) → MSs (Zq8 CX0 P w K mg base N qual (Zf st) f cdv A outer s H E).nox [] (Z0 st) (oS S)) :
    FnOk P w K mg base CX0 (n + 1) f fd ps (spD K (sD (Zbe np nn S))) := by
  subst hN hp
  refine F.okD Sc (fun ds k h => ?_) fun cdv A outer s H E hr => ⟨_, hb cdv A outer s H E hr, fun ds k h => ?_⟩
  · obtain ⟨r, h, _⟩ := h
    unfold Zbe at h
    split at h
    · assumption
    · cases h
  · obtain ⟨r, h, hk⟩ := h
    unfold Zbe at h
    split at h
    · exact RS.told_fits h hk
    · cases h
theorem Zqj (F : Fun K x qual st f fd) (Sc : Z6 N ps (Zf st)) (hN : N.length = nn) (hp : np = ps.length)
    (hb : ∀ (cdv : Value) (A : Around) (outer : List Env) (s : Shared) (H : Hp) (E : XK), Room n (A.deeper (envOfC qual (Zf st) s.heap.objs.size f cdv)) → XSs (Zq8 (CX1 P w) P w K mg base N qual (Zf st) f cdv A outer s H E).nox [] (Z0 st) (xS K S)) :
    FnOk P w K mg base (CX1 P w) (n + 1) f fd ps (spX K (sX K (Zbe np nn S))) := by
  subst hN hp
  refine F.okX Sc (fun ds cl h => ?_) fun cdv A outer s H E hr => ⟨_, hb cdv A outer s H E hr, fun ds cl h => ?_⟩
  · obtain ⟨r, h, _⟩ := h
    unfold Zbe at h
    split at h
    · assumption
    · cases h
  · obtain ⟨c, h, hc⟩ := h
    unfold Zbe at h
    split at h
    case isFalse => cases h
    have e : Zkx N.length ds = Zh8 N ds := rfl
    rw [e] at h
    cases q : S (Zh8 N ds) <;> rw [q] at h <;> unfold RS.told at h <;> cases h
    exact ⟨_, cl, _, q, hc, rfl⟩
end
end L2
namespace L2
open PySem PySem.Spec PyProof.Rows
noncomputable def i2 (g : Int → Int → PyData) : PyData → PyData → Option PyData := fun d e => match d, e with | .int i, .int j => some (g i j) | _, _ => none
noncomputable def i2c (c : Int → Int → Bool) (g : Int → Int → PyData) : PyData → PyData → Option PyData := fun d e => match d, e with | .int i, .int j => if c i j = true then some (g i j) else none | _, _ => none
theorem Zpv {g : Int → Int → PyData} : ByS (i2 g) (Ztl g) := fun d e r k h hk => by
  unfold i2 at h
  split at h
  · cases h; exact hk
  · cases h
theorem Zmw {c : Int → Int → Bool} {C : Int → Int → Prop} {g : Int → Int → PyData} (hc : ∀ i j, c i j = true → C i j) : ByS (i2c c g) (d2I C g) := fun d e r k h hk => by
  unfold i2c at h
  split at h
  · split at h
    · cases h; exact ⟨hc _ _ ‹_›, hk⟩
    · cases h
  · cases h
noncomputable def Zu6 (a b : Int) : Bool := !(decide (Builtin.Int.intBits a > shortFactorBits) && decide (Builtin.Int.intBits b > shortFactorBits) && Builtin.Int.intTooBig (Builtin.Int.intBits a + Builtin.Int.intBits b))
noncomputable def Z1j (_ j : Int) : Bool := decide (j ≠ 0) && decide (j.natAbs.log2 < 9000)
noncomputable def Z59 (_ j : Int) : Bool := decide (j ≠ 0)
noncomputable def Z2s (i j : Int) : Bool := decide (0 ≤ j ∧ j ≤ 1000000 ∧ i.natAbs < 2 ^ 64)
theorem Zgt {a b : Int} : Zu6 a b = true ↔ IntMulOk a b := by
  unfold Zu6 IntMulOk
  rw [Bool.not_eq_true', Bool.not_eq_true]
noncomputable def Zhs := i2 fun i j => .int (i + j)
noncomputable def gSb := i2 fun i j => .int (i - j)
noncomputable def Ze1 := i2c Zu6 fun i j => .int (i * j)
noncomputable def Zad := i2c Z1j fun i j => .int (i.fdiv j)
noncomputable def Zdc := i2c Z59 fun i j => .int (i.fmod j)
noncomputable def Zk2 := i2c Z2s fun i j => .int (i ^ j.toNat)
noncomputable def gLt := i2 fun i j => .bool (decide (i < j))
noncomputable def gLe := i2 fun i j => .bool (decide (i ≤ j))
noncomputable def gGt := i2 fun i j => .bool (decide (j < i))
noncomputable def gGe := i2 fun i j => .bool (decide (j ≤ i))
theorem Zg1 : ByS Zhs (Ztl fun i j => .int (i + j)) := Zpv
theorem Zna : ByS gSb (Ztl fun i j => .int (i - j)) := Zpv
theorem Zcy : ByS Ze1 (d2I MulOk fun i j => .int (i * j)) := Zmw fun i j h => ⟨Zgt.mp h⟩
theorem Zb4 : ByS Zad (d2I Z47 fun i j => .int (i.fdiv j)) := Zmw fun i j h => ⟨by
  unfold Z1j at h
  rw [Bool.and_eq_true] at h
  exact ⟨of_decide_eq_true h.1, of_decide_eq_true h.2⟩⟩
theorem Zc0 : ByS Zdc (d2I (fun _ j => j ≠ 0) fun i j => .int (i.fmod j)) := Zmw fun i j h => of_decide_eq_true h
theorem Zlr : ByS Zk2 (d2I Z4p fun i j => .int (i ^ j.toNat)) := Zmw fun i j h => ⟨(of_decide_eq_true h : 0 ≤ j ∧ j ≤ 1000000 ∧ i.natAbs < 2 ^ 64)⟩
theorem Zxq : ByS gLt (Ztl fun i j => .bool (decide (i < j))) := Zpv
theorem Z22 : ByS gGt (Ztl fun i j => .bool (decide (j < i))) := Zpv
theorem Z54 : ByS gGe (Ztl fun i j => .bool (decide (j ≤ i))) := Zpv
noncomputable def gEq : PyData → PyData → Option PyData := fun d e => if (SeqAt.shaped d && SeqAt.shaped e) = true then some (.bool (PyData.eqv d e)) else none
noncomputable def gNe : PyData → PyData → Option PyData := fun d e => if (SeqAt.shaped d && SeqAt.shaped e) = true then some (.bool (!PyData.eqv d e)) else none
theorem Zvi : ByS gEq dEq := fun d e r k h hk => by
  unfold gEq at h
  split at h
  · rename_i q
    rw [Bool.and_eq_true] at q
    cases h
    exact ⟨⟨q.1⟩, ⟨q.2⟩, hk⟩
  · cases h
theorem Zrn : ByS gNe dNe := fun d e r k h hk => by
  unfold gNe at h
  split at h
  · rename_i q
    rw [Bool.and_eq_true] at q
    cases h
    exact ⟨⟨q.1⟩, ⟨q.2⟩, hk⟩
  · cases h
noncomputable def gIs : PyData → PyData → Option PyData := fun d e => match e with | .none => some (.bool (Ziz d)) | _ => none
noncomputable def Z0g : PyData → PyData → Option PyData := fun d e => match e with | .none => some (.bool (!Ziz d)) | _ => none
noncomputable def Znx (neg : Bool) : PyData → PyData → Option PyData := fun d e => match Zmf e with
  | some ds => if (scD d && ds.all scD) = true then some (.bool (if neg then !memS d ds else memS d ds)) else none
  | none => none
theorem Zxl {neg : Bool} : ByS (Znx neg) (dIn neg) := fun d e r k h hk => by
  unfold Znx at h
  split at h
  case h_2 => cases h
  rename_i ds q
  split at h
  case isFalse => cases h
  rename_i q2
  rw [Bool.and_eq_true] at q2
  cases h
  refine ⟨q2.1, ?_⟩
  cases e <;> cases q
  · exact ⟨q2.2, hk⟩
  · exact ⟨q2.2, hk⟩
noncomputable def gIx : PyData → PyData → Option OT := fun d e => (ixD d e).bind fun x => some (.fz x)
theorem Za0 : ByO gIx dIx := fun d e r k h hk => by
  obtain ⟨x, h1, h2⟩ := bs h
  cases h2
  unfold dIx
  rw [h1]
  exact hk
noncomputable def Zn8 : PyData → PyData → Option OT := fun d e => match d, e with | .list ds, .list es => if ds.length + es.length ≤ sizeLine then some (.nd ((ds ++ es).map OT.fz)) else none | _, _ => none
theorem Zre : ByO Zn8 dCat := fun d e r k h hk => by
  unfold Zn8 at h
  split at h
  · split at h
    · cases h; exact ⟨‹_›, hk⟩
    · cases h
  · cases h
noncomputable def Zn3 : List PyData → Option PyData := fun ds => match ds with | [d] => (Zr3 d).bind fun n => some (.int n) | _ => none
theorem Zli : ∀ ds r k, Zn3 ds = some r → k r → Z5i ds k := fun ds r k h hk => by
  unfold Zn3 at h
  split at h
  · obtain ⟨n, h1, h2⟩ := bs h
    cases h2
    show match Zr3 _ with | some n => _ | none => _
    rw [h1]
    exact hk
  · cases h
noncomputable def Zwb : List PyData → Option PyData := fun ds => match ds with | [.int i] => some (.int (if i < 0 then -i else i)) | _ => none
theorem Zqt : ∀ ds r k, Zwb ds = some r → k r → Z5a ds k := fun ds r k h hk => by
  unfold Zwb at h
  split at h
  · cases h; exact hk
  · cases h
noncomputable def Z62 : List PyData → Option PyData := fun ds => match ds with | [.int i, .int j] => some (.int (if j > i then j else i)) | _ => none
noncomputable def Z6x : List PyData → Option PyData := fun ds => match ds with | [.int i, .int j] => some (.int (if j < i then j else i)) | _ => none
noncomputable def Z58 : List PyData → Option PyData := fun ds => match ds with | [.int i] => some (.int i) | [.bool b] => some (.int (if b then 1 else 0)) | _ => none
noncomputable def Zj1 : List PyData → Option OT := fun ds => match ds with | [d] => (Zmf d).bind fun es => some (.nd (es.map OT.fz)) | _ => none
theorem Ztx : ∀ ds r k, Zj1 ds = some r → k r → Zzw ds k := fun ds r k h hk => by
  unfold Zj1 at h
  split at h
  · obtain ⟨n, h1, h2⟩ := bs h
    cases h2
    show match Zmf _ with | some n => _ | none => _
    rw [h1]
    exact hk
  · cases h
noncomputable def Zhv : List PyData → Option (List Int)
  | [] => some []
  | .int i :: r => (Zhv r).bind fun l => some (i :: l)
  | _ :: _ => none
theorem Zgn : ∀ {ds : List PyData} {ns : List Int}, Zhv ds = some ns → ds = ns.map PyData.int
  | [], _, h => by cases h; rfl
  | .int i :: r, _, h => by
    obtain ⟨l, h1, h2⟩ := bs h
    cases h2
    rw [Zgn h1]; rfl
  | .none :: _, _, h => by cases h
  | .bool _ :: _, _, h => by cases h
  | .str _ :: _, _, h => by cases h
  | .list _ :: _, _, h => by cases h
  | .tuple _ :: _, _, h => by cases h
  | .dict _ :: _, _, h => by cases h
@[simp] theorem Zfd : ∀ ns : List Int, Zhv (ns.map PyData.int) = some ns
  | [] => rfl
  | n :: ns => by rw [List.map_cons, Zhv, Zfd ns]; rfl
noncomputable def Z0s : List PyData → Option PyData := fun ds => match ds with | [.list es] => (Zhv es).bind fun ns => some (.int ns.sum) | _ => none
theorem Z2m : ∀ ds r k, Z0s ds = some r → k r → Z42 ds k := fun ds r k h hk => by
  unfold Z0s at h
  split at h
  · obtain ⟨n, h1, h2⟩ := bs h
    cases h2
    exact ⟨n, by rw [Zgn h1], hk⟩
  · cases h
section
variable {X : Cx} {io : List Nat} {p c : Bool} {e tg : Expr} {es : List Expr} {st : Stmt} {fa fb fc : FE} {ra : FA} {i : Nat}
noncomputable def Z51 (a : FA) : FE := fun δ => (a δ).bind fun p => match OT.datas p.1 with | [.int j] => if rOk j = true ∧ j.toNat ≤ sizeLine then some (.nd ((Zjh 0 j.toNat).map OT.fz), p.2) else none | _ => none
noncomputable def Zw1 (a b : FE) : FE := fun δ => (a δ).bind fun p => (b p.2).bind fun q => match q.1.data with | .int k => if rOk k = true ∧ k.toNat ≤ sizeLine then some (.nd (List.replicate k.toNat (.fz p.1.data)), p.2) else none | _ => none
theorem Zy2 (h : ME X io p c e (Z4v (o2 fa) (o2 fb))) : ME X io p c e (o2 (Zw1 fa fb)) := h.weak fun δ K h => by
  obtain ⟨r, δ', h, k⟩ := h
  obtain ⟨⟨x, δ1⟩, h1, h⟩ := bs h
  obtain ⟨⟨y, δ2⟩, h2, h⟩ := bs h
  refine ⟨x, δ1, h1, y, δ2, h2, ?_⟩
  try dsimp only at h ⊢
  split at h
  case h_2 => cases h
  rename_i q
  (try rw [q])
  split at h
  case isFalse => cases h
  rename_i b
  cases h
  have z := Zdz b.1
  exact ⟨⟨by omega, by omega, b.2⟩, k⟩
end
end L2
namespace L2
open PySem PySem.Spec PyProof.Rows
variable {G : PySem.W.Frag}
section
variable {X : Cx} {io : List Nat} {p c : Bool} {e a b : Expr} {es : List Expr} {m ma mb : MEt} {mr : MAt} {pos apos cpos px py pt sp kp : Pos} {i j : Nat} {x y : Str} {fa fb : FE} {ra : FA} {st : Stmt}
noncomputable def Z2u (a : FA) : FE := fun δ => (a δ).bind fun p => if p.1.length ≤ sizeLine then some (.tp p.1, p.2) else none
noncomputable def Zty (i c : Nat) (e : FE) : FS := fun δ => match δ[i]? with
  | some (some (.tp ts)) => match ts[c]? with
    | some (.nd us) => wE e (fun r _ => if us.length < sizeLine then .nx (δ.set i (some (.tp (ts.set c (.nd (us ++ [.fz r.data])))))) else .bad) δ
    | _ => .bad
  | _ => .bad
noncomputable def Z4y (i j : Nat) (mr : MAt) : MSt := fun D δ => mr δ fun rs δ1 => ∃ d e, OT.datas rs = [d, e] ∧ D.nx ((δ1.set i (some (.fz d))).set j (some (.fz e)))
theorem Zx9 {kt k2 : Nat} {pt2 : Pos} (hc : X.calm = true) (hN : X.N.Nodup) (hi : X.N[i]? = some x) (hj : X.N[j]? = some y) (hij : i ≠ j) (hx : X.env.scope.names.lookup x = some .local) (hy : X.env.scope.names.lookup y = some .local) (ha : MA X io p true [a, b] mr)
    (hi' : i ∉ io := by decide) (hj' : j ∉ io := by decide)
    (hw : swappedStores [.Tuple [.Name x px, .Name y py] kt pt] (.Tuple [a, b] k2 pt2) X.env = pure (some [x, y]) := by rfl)
    (hs : swapsWithSole [.Tuple [.Name x px, .Name y py] kt pt] (.Tuple [a, b] k2 pt2) pos.line X.env = pure false := by rfl) :
    MS X io (.Assign [.Tuple [.Name x px, .Name y py] kt pt] (.Tuple [a, b] k2 pt2) pos) (Z4y i j mr) := by
  obtain ⟨_, A, s⟩ := ha
  refine ⟨_, Z0p hc hN hi hj hij hx hy A hw hs, fun C H σ δ fp ex D D' R h E => ?_⟩
  refine s C H σ δ fp ex _ _ R h fun H1 vs rs δ1 fp1 new r1 h1 => ?_
  obtain ⟨d, e, hd, h1⟩ := h1
  have q := (r1.das R).wide (L' := Lf C fp1 ex) fun a l _ => l rfl
  rw [hd] at q
  cases q with
  | cons q1 q =>
    cases q with
    | cons q2 q =>
      cases q
      obtain ⟨fp2, R2, k2⟩ := r1.base.putD hi' q1
      have z := r1.base.kp_das k2 (.cons q2 .nil)
      cases z with
      | cons q2' _ =>
        obtain ⟨fp3, R3, k3⟩ := R2.putD hj' q2'
        exact ⟨_, _, rfl, E.nx _ _ _ fp3 R3 (r1.stp.kp.trans (k2.trans k3)) h1⟩
noncomputable def Zrb (i j : Nat) (a : FA) : FS := fun δ => match a δ with
  | some (rs, δ1) => match OT.datas rs with
    | [d, e] => .nx ((δ1.set i (some (.fz d))).set j (some (.fz e)))
    | _ => .bad
  | none => .bad
theorem Z05 (h : MS X io st (Z4y i j (o2 ra))) : MS X io st (oS (Zrb i j ra)) := h.weak fun D δ h => by
  unfold oS Zrb at h
  split at h
  case h_2 => exact h.elim
  rename_i rs δ1 q
  refine ⟨rs, δ1, q, ?_⟩
  split at h
  · rename_i q2; exact ⟨_, _, q2, h⟩
  · exact h.elim
end
class NoStar (e : Expr) : Prop where
  h : ∀ es env, starEach (e :: es) env = (false, eval e env) :: starEach es env
instance nx_Name {x : Str} {p : Pos} : NoStar (.Name x p) := ⟨fun _ _ => rfl⟩
instance nx_Constant {x k} {p : Pos} : NoStar (.Constant x k p) := ⟨fun _ _ => rfl⟩
instance nx_BinOp {a o b} {p : Pos} : NoStar (.BinOp a o b p) := ⟨fun _ _ => rfl⟩
instance nx_UnaryOp {o a} {p : Pos} : NoStar (.UnaryOp o a p) := ⟨fun _ _ => rfl⟩
instance nx_Call {f a k} {p : Pos} : NoStar (.Call f a k p) := ⟨fun _ _ => rfl⟩
instance nx_List {a} {p : Pos} : NoStar (.List a p) := ⟨fun _ _ => rfl⟩
instance nx_Subscript {a b} {p : Pos} : NoStar (.Subscript a b p) := ⟨fun _ _ => rfl⟩
instance nx_ListComp {a b s} {p : Pos} : NoStar (.ListComp a b s p) := ⟨fun _ _ => rfl⟩
theorem Za {X : Cx} {io : List Nat} {p p' c c' p2 c2 : Bool} {e : Expr} {es : List Expr} {fa : FE} {ra : FA} [NoStar e] (ha : ME X io p c e (o2 fa)) (hr : MA X io p' c' es (o2 ra)) (hc : p' = true ∨ c = true := by first | exact Or.inl rfl | exact Or.inr rfl) (h2 : (p && p') = p2 := by rfl) (h3 : (c && c') = c2 := by rfl) : MA X io p2 c2 (e :: es) (o2 (Ze fa ra)) :=
  h2 ▸ h3 ▸ Zvh (Zvo ha hr hc (NoStar.h es X.env))
theorem Ym {X : Cx} {io : List Nat} {p p' c c' : Bool} {e : Expr} {m : MEt} (h : ME X io p c e m) (h2 : p = p' := by rfl) (h3 : c = c' := by rfl) : ME X io p' c' e m := h2 ▸ h3 ▸ h
end L2
namespace L2
open PySem PySem.Spec PyProof.Rows
variable {G : PySem.W.Frag}
section
variable {X : Cx} {io : List Nat} {p c : Bool} {e a b : Expr} {es : List Expr} {m ma mb : MEt} {mr : MAt} {pos apos cpos px py pt sp kp : Pos} {i j : Nat} {x y : Str} {fa fb : FE} {ra : FA} {st : Stmt} {u : FS}
end
end L2
namespace L2
open PySem PySem.Spec PyProof.Rows
structure Gives (P : Program) (w : World) (it : Addr) (f : List Addr) (St : Heap → Prop) (x : Value) (St' : Heap → Prop) : Prop where
  mem : it ∈ f
  run : ∀ {A : Around} {E : Value → Shared → Prop} {s : Shared} {Q : Value → Shared → Prop}, St s.heap → (∀ h', St' h' → Heap.SameBut it s.heap h' → Q x { s with heap := h' }) → wpAny (model P w) A (Builtin.SmallTypes.nextOf (.ref it)) Q E s
  keep : ∀ h h', (∀ c ∈ f, ∀ o, h.get? c = some o → h'.get? c = some o) → St h → St h'
  keep' : ∀ h h', (∀ c ∈ f, ∀ o, h.get? c = some o → h'.get? c = some o) → St' h → St' h'
structure Zh6 (P : Program) (w : World) (it : Addr) (f : List Addr) (St : Heap → Prop) : Prop where
  mem : it ∈ f
  run : ∀ {A : Around} {E : Value → Shared → Prop} {s : Shared} {Q : Value → Shared → Prop}, A.handled = none → St s.heap → (∀ h' e, Heap.ExtBut it s.heap h' → (∃ o, h'.get? e = some o ∧ o.cls = .type "StopIteration") → E (.ref e) { s with heap := h' }) → wpAny (model P w) A (Builtin.SmallTypes.nextOf (.ref it)) Q E s
  keep : ∀ h h', (∀ c ∈ f, ∀ o, h.get? c = some o → h'.get? c = some o) → St h → St h'
structure ZA (z TI TO i1 i2 : Addr) (f1 f2 : List Addr) : Prop where
  TIz : TI ≠ z
  TOz : TO ≠ z
  a1 : ∀ c ∈ f1, c ≠ z ∧ c ≠ TO ∧ c ≠ i2
  a2 : ∀ c ∈ f2, c ≠ z ∧ c ≠ TO ∧ c ≠ i1
section
variable {P : Program} {w : World} {A : Around} {E : Value → Shared → Prop} {s : Shared}
theorem Zi7 {T : Addr} {a b x : Value} {k : Nat} {Q : Unit → Shared → Prop} (hT : IsPair s.heap T a b) (h : ∀ h', h'.get? T = some { cls := .type "tuple", data := .seq ((#[a, b] : Array Value).setIfInBounds k x) } → Heap.SameBut T s.heap h' → Q () { s with heap := h' }) :
    wpAny (model P w) A (updateSeq T (·.setIfInBounds k x)) Q E s := wpAny_updateSeq_pair hT h
theorem Zp9 {z TI TO i1 i2 : Addr} {f1 f2 : List Addr} {S1 T1 S2 T2 : Heap → Prop} {x y a b : Value} {Q : Value → Shared → Prop} (D : ZA z TI TO i1 i2 f1 f2) (G1 : Gives P w i1 f1 S1 x T1) (G2 : Gives P w i2 f2 S2 y T2)
    (hz : IsZip s.heap z TI TO .none) (hTI : IsPair s.heap TI (.ref i1) (.ref i2)) (hTO : IsPair s.heap TO a b) (h1 : S1 s.heap) (h2 : S2 s.heap)
    (hQ : ∀ h', IsZip h' z TI TO (rawInt s.heap.objs.size) → IsPair h' TO x y → T1 h' → T2 h' → IsPair h' s.heap.objs.size x y →
      (∀ c o, c ∉ [z, TO, i1, i2] → s.heap.get? c = some o → h'.get? c = some o) → Q (.ref s.heap.objs.size) { s with heap := h' }) :
    wpAny (model P w) A (Builtin.«zip.__next__» ⟨[.ref z], []⟩) (fun fin s' => ∃ v, fin = .done (.ret v) ∧ Q v s') E s := by
  obtain ⟨i1z, i1O, i12⟩ := D.a1 i1 G1.mem
  obtain ⟨i2z, i2O, i21⟩ := D.a2 i2 G2.mem
  have r1 : z ∉ f1 ∧ TO ∉ f1 ∧ i2 ∉ f1 := ⟨fun m => (D.a1 z m).1 rfl, fun m => (D.a1 TO m).2.1 rfl, fun m => (D.a1 i2 m).2.2 rfl⟩
  have r2 : z ∉ f2 ∧ TO ∉ f2 ∧ i1 ∉ f2 := ⟨fun m => (D.a2 z m).1 rfl, fun m => (D.a2 TO m).2.1 rfl, fun m => (D.a2 i1 m).2.2 rfl⟩
  have st : ∀ {b : Addr} {h h' : Heap} {f : List Addr}, Heap.SameBut b h h' → b ∉ f → ∀ c ∈ f, ∀ o, h.get? c = some o → h'.get? c = some o := fun sb hb c hc o e => sb.extBut _ _ (fun q => hb (q ▸ hc)) e
  show wpAny _ _ (field (.ref z) 2 >>= _) _ _ _
  refine wpAny_bind (wpAny_field hz rfl (x := .bool false) rfl ?_)
  show wpAny _ _ (field (.ref z) 3 >>= _) _ _ _
  refine wpAny_bind (wpAny_field hz rfl (x := .ref TI) rfl (wpAny_bind (wpAny_seqItems hTI rfl ?_)))
  show wpAny _ _ (Builtin.SmallTypes.ownedTupleIsFree (.ref z) >>= _) _ _ _
  refine wpAny_bind ?_
  unfold Builtin.SmallTypes.ownedTupleIsFree
  refine wpAny_bind (wpAny_field hz rfl (x := .none) rfl (wpAny_pure ?_))
  simp only [if_true]
  refine wpAny_bind (wpAny_rule (wpAny_bind (wpAny_field hz rfl (x := .ref TO) rfl (wpAny_bind (wpAny_setField_rec hz (by simp) fun h3 z3 b3 => ?_)))))
  replace z3 : IsZip h3 z TI TO .ellipsis := z3
  refine wpAny_bind ?_
  simp only [List.zipIdx_cons, List.zipIdx_nil, List.forIn_cons, List.forIn_nil]
  refine wpAny_bind (wpAny_bind (wpAny_onRaise ?_))
  show wpAny _ _ (Builtin.SmallTypes.nextOf (.ref i1) >>= _) _ _ _
  refine wpAny_bind (G1.run (s := { s with heap := h3 }) (G1.keep _ _ (st b3 r1.1) h1) fun h4 k4 b4 => wpAny_pure ?_)
  have o4 : IsPair h4 TO a b := b4.extBut _ _ i1O.symm (b3.extBut _ _ D.TOz hTO)
  refine wpAny_bind (wpAny_seqItems o4 rfl (wpAny_bind (Zi7 (s := { s with heap := h4 }) o4 fun h5 o5 b5 => wpAny_bind (wpAny_letGo (wpAny_pure ?_)))))
  replace o5 : IsPair h5 TO x b := o5
  refine wpAny_bind (wpAny_bind (wpAny_onRaise ?_))
  show wpAny _ _ (Builtin.SmallTypes.nextOf (.ref i2) >>= _) _ _ _
  refine wpAny_bind (G2.run (s := { s with heap := h5 }) (G2.keep _ _ (st b5 r2.2.1) (G2.keep _ _ (st b4 r2.2.2) (G2.keep _ _ (st b3 r2.1) h2))) fun h6 k6 b6 => wpAny_pure ?_)
  have o6 : IsPair h6 TO x b := b6.extBut _ _ i2O.symm o5
  refine wpAny_bind (wpAny_seqItems o6 rfl (wpAny_bind (Zi7 (s := { s with heap := h6 }) o6 fun h7 o7 b7 => wpAny_bind (wpAny_letGo (wpAny_pure (wpAny_pure ?_))))))
  replace o7 : IsPair h7 TO x y := o7
  refine wpAny_bind (wpAny_seqItems o7 rfl (wpAny_bind (wpAny_newTuple ?_)))
  have sz : h7.objs.size = s.heap.objs.size := by rw [b7.1, b6.1, b5.1, b4.1, b3.1]
  have z7 : IsZip h7 z TI TO .ellipsis := b7.extBut _ _ D.TOz.symm (b6.extBut _ _ i2z.symm (b5.extBut _ _ D.TOz.symm (b4.extBut _ _ i1z.symm z3)))
  have t1 : T1 h7 := G1.keep' _ _ (st b7 r1.2.1) (G1.keep' _ _ (st b6 r1.2.2) (G1.keep' _ _ (st b5 r1.2.1) k4))
  have t2 : T2 h7 := G2.keep' _ _ (st b7 r2.2.1) k6
  have old : ∀ c o, c ∉ [z, TO, i1, i2] → s.heap.get? c = some o → h7.get? c = some o := fun c o n e => by
    simp only [List.mem_cons, List.not_mem_nil, or_false, not_or] at n
    exact b7.extBut _ _ n.2.1 (b6.extBut _ _ n.2.2.2 (b5.extBut _ _ n.2.1 (b4.extBut _ _ n.2.2.1 (b3.extBut _ _ n.1 e))))
  show wpAny _ _ (Builtin.SmallTypes.ownedTupleHandOut (.ref z) (.ref h7.objs.size) >>= _) _ _ _
  refine wpAny_bind ?_
  unfold Builtin.SmallTypes.ownedTupleHandOut
  have zp : IsZip (h7.push { cls := .type "tuple", data := .seq #[x, y] }) z TI TO .ellipsis := Heap.get?_push_of_some _ z7
  refine wpAny_bind (wpAny_setField_rec zp (by simp) fun h8 z8 b8 => ?_)
  replace z8 : IsZip h8 z TI TO (rawInt h7.objs.size) := z8
  refine wpAny_setField_rec z8 (by simp) fun h9 z9 b9 => ?_
  replace z9 : IsZip h9 z TI TO (rawInt h7.objs.size) := z9
  have up : ∀ c o, c ≠ z → h7.get? c = some o → h9.get? c = some o := fun c o n e => b9.extBut _ _ n (b8.extBut _ _ n (Heap.get?_push_of_some _ e))
  have nz : h7.objs.size ≠ z := Nat.ne_of_gt (Heap.lt_size z7)
  have p9 : IsPair h9 h7.objs.size x y := b9.extBut _ _ nz (b8.extBut _ _ nz (Heap.get?_push_size _ rfl))
  refine wpAny_pure ⟨_, rfl, ?_⟩
  show Q (.ref h7.objs.size) _
  rw [sz] at z9 p9 ⊢
  exact hQ h9 z9 (up _ _ D.TOz o7) (G1.keep' _ _ (fun c hc o e => up c o (fun q => r1.1 (q ▸ hc)) e) t1) (G2.keep' _ _ (fun c hc o e => up c o (fun q => r2.1 (q ▸ hc)) e) t2) p9 fun c o n e => up c o (fun q => n (by simp [q])) (old c o n e)
theorem Zrp {z TI TO i1 i2 : Addr} {f1 f2 : List Addr} {S1 T1 S2 : Heap → Prop} {a b : Value} {Q : Fin → Shared → Prop} (hh : A.handled = none) (D : ZA z TI TO i1 i2 f1 f2) (g1 : Zh6 P w i1 f1 S1 ∨ (∃ x, Gives P w i1 f1 S1 x T1) ∧ Zh6 P w i2 f2 S2)
    (hz : IsZip s.heap z TI TO .none) (hTI : IsPair s.heap TI (.ref i1) (.ref i2)) (hTO : IsPair s.heap TO a b) (h1 : S1 s.heap) (h2 : S2 s.heap)
    (hE : ∀ h' e, (∀ c o, c ∉ [z, TO, i1, i2] → s.heap.get? c = some o → h'.get? c = some o) → (∃ o, h'.get? e = some o ∧ o.cls = .type "StopIteration") → E (.ref e) { s with heap := h' }) :
    wpAny (model P w) A (Builtin.«zip.__next__» ⟨[.ref z], []⟩) Q E s := by
  have r1 : z ∉ f1 ∧ TO ∉ f1 ∧ i2 ∉ f1 := ⟨fun m => (D.a1 z m).1 rfl, fun m => (D.a1 TO m).2.1 rfl, fun m => (D.a1 i2 m).2.2 rfl⟩
  have r2 : z ∉ f2 ∧ TO ∉ f2 ∧ i1 ∉ f2 := ⟨fun m => (D.a2 z m).1 rfl, fun m => (D.a2 TO m).2.1 rfl, fun m => (D.a2 i1 m).2.2 rfl⟩
  have st : ∀ {b : Addr} {h h' : Heap} {f : List Addr}, Heap.SameBut b h h' → b ∉ f → ∀ c ∈ f, ∀ o, h.get? c = some o → h'.get? c = some o := fun sb hb c hc o e => sb.extBut _ _ (fun q => hb (q ▸ hc)) e
  show wpAny _ _ (field (.ref z) 2 >>= _) _ _ _
  refine wpAny_bind (wpAny_field hz rfl (x := .bool false) rfl ?_)
  show wpAny _ _ (field (.ref z) 3 >>= _) _ _ _
  refine wpAny_bind (wpAny_field hz rfl (x := .ref TI) rfl (wpAny_bind (wpAny_seqItems hTI rfl ?_)))
  show wpAny _ _ (Builtin.SmallTypes.ownedTupleIsFree (.ref z) >>= _) _ _ _
  refine wpAny_bind ?_
  unfold Builtin.SmallTypes.ownedTupleIsFree
  refine wpAny_bind (wpAny_field hz rfl (x := .none) rfl (wpAny_pure ?_))
  simp only [if_true]
  refine wpAny_bind (wpAny_rule (wpAny_bind (wpAny_field hz rfl (x := .ref TO) rfl (wpAny_bind (wpAny_setField_rec hz (by simp) fun h3 z3 b3 => ?_)))))
  replace z3 : IsZip h3 z TI TO .ellipsis := z3
  refine wpAny_bind ?_
  simp only [List.zipIdx_cons, List.zipIdx_nil, List.forIn_cons, List.forIn_nil]
  refine wpAny_bind (wpAny_bind (wpAny_onRaise ?_))
  show wpAny _ _ (Builtin.SmallTypes.nextOf (.ref i1) >>= _) _ _ _
  rcases g1 with G1 | ⟨⟨x, G1⟩, G2⟩
  · obtain ⟨i1z, i1O, i12⟩ := D.a1 i1 G1.mem
    refine wpAny_bind (G1.run (s := { s with heap := h3 }) hh (G1.keep _ _ (st b3 r1.1) h1) fun h4 e b4 he => ?_)
    obtain ⟨oe, hoe, hce⟩ := he
    have z4 : IsZip h4 z TI TO .ellipsis := b4 _ _ i1z.symm z3
    have ez : e ≠ z := fun q => by subst q; rw [z4] at hoe; cases hoe; simp at hce
    refine wpAny_setField_rec z4 (by simp) fun h5 _ b5 => hE h5 e (fun c o n q => ?_) ⟨oe, b5.extBut _ _ ez hoe, hce⟩
    simp only [List.mem_cons, List.not_mem_nil, or_false, not_or] at n
    exact b5.extBut _ _ n.1 (b4 _ _ n.2.2.1 (b3.extBut _ _ n.1 q))
  · obtain ⟨i1z, i1O, i12⟩ := D.a1 i1 G1.mem
    obtain ⟨i2z, i2O, i21⟩ := D.a2 i2 G2.mem
    refine wpAny_bind (G1.run (s := { s with heap := h3 }) (G1.keep _ _ (st b3 r1.1) h1) fun h4 k4 b4 => wpAny_pure ?_)
    have o4 : IsPair h4 TO a b := b4.extBut _ _ i1O.symm (b3.extBut _ _ D.TOz hTO)
    refine wpAny_bind (wpAny_seqItems o4 rfl (wpAny_bind (Zi7 (s := { s with heap := h4 }) o4 fun h5 o5 b5 => wpAny_bind (wpAny_letGo (wpAny_pure ?_)))))
    refine wpAny_bind (wpAny_bind (wpAny_onRaise ?_))
    show wpAny _ _ (Builtin.SmallTypes.nextOf (.ref i2) >>= _) _ _ _
    refine wpAny_bind (G2.run (s := { s with heap := h5 }) hh (G2.keep _ _ (st b5 r2.2.1) (G2.keep _ _ (st b4 r2.2.2) (G2.keep _ _ (st b3 r2.1) h2))) fun h6 e b6 he => ?_)
    obtain ⟨oe, hoe, hce⟩ := he
    have z6 : IsZip h6 z TI TO .ellipsis := b6 _ _ i2z.symm (b5.extBut _ _ D.TOz.symm (b4.extBut _ _ i1z.symm z3))
    have ez : e ≠ z := fun q => by subst q; rw [z6] at hoe; cases hoe; simp at hce
    refine wpAny_setField_rec z6 (by simp) fun h7 _ b7 => hE h7 e (fun c o n q => ?_) ⟨oe, b7.extBut _ _ ez hoe, hce⟩
    simp only [List.mem_cons, List.not_mem_nil, or_false, not_or] at n
    exact b7.extBut _ _ n.1 (b6 _ _ n.2.2.2 (b5.extBut _ _ n.2.1 (b4.extBut _ _ n.2.2.1 (b3.extBut _ _ n.1 q))))
theorem Znp {z TI TO i1 i2 : Addr} {f1 f2 : List Addr} {S1 T1 S2 T2 : Heap → Prop} {x y a b : Value} {Q : Option Value → Shared → Prop} (D : ZA z TI TO i1 i2 f1 f2) (G1 : Gives P w i1 f1 S1 x T1) (G2 : Gives P w i2 f2 S2 y T2)
    (hz : IsZip s.heap z TI TO .none) (hTI : IsPair s.heap TI (.ref i1) (.ref i2)) (hTO : IsPair s.heap TO a b) (h1 : S1 s.heap) (h2 : S2 s.heap)
    (hQ : ∀ h', IsZip h' z TI TO (rawInt s.heap.objs.size) → IsPair h' TO x y → T1 h' → T2 h' → IsPair h' s.heap.objs.size x y →
      (∀ c o, c ∉ [z, TO, i1, i2] → s.heap.get? c = some o → h'.get? c = some o) → Q (some (.ref s.heap.objs.size)) { s with heap := h' }) : wpAny (model P w) A (pyNext (.ref z)) Q E s := by
  have hT : s.TypeIs (.ref z) "zip" := ⟨_, hz, rfl⟩
  unfold pyNext
  exact wpAny_bind (wpAny_attempt (wpAny_callSpecial?_slot (name := Str.ofString "__next__") hT F.slot_zip_next (wpAny_call_entry F.slot_zip_next hT F.entry_zip_next (Zp9 D G1 G2 hz hTI hTO h1 h2 fun h' a1 a2 a3 a4 a5 a6 => wpAny_pure (hQ h' a1 a2 a3 a4 a5 a6)) (F.args_zip_next_1 _))))
theorem Zqd {z TI TO i1 i2 : Addr} {f1 f2 : List Addr} {S1 T1 S2 : Heap → Prop} {a b : Value} {Q : Option Value → Shared → Prop} (hh : A.handled = none) (D : ZA z TI TO i1 i2 f1 f2) (g1 : Zh6 P w i1 f1 S1 ∨ (∃ x, Gives P w i1 f1 S1 x T1) ∧ Zh6 P w i2 f2 S2)
    (hz : IsZip s.heap z TI TO .none) (hTI : IsPair s.heap TI (.ref i1) (.ref i2)) (hTO : IsPair s.heap TO a b) (h1 : S1 s.heap) (h2 : S2 s.heap)
    (hQ : ∀ h', (∀ c o, c ∉ [z, TO, i1, i2] → s.heap.get? c = some o → h'.get? c = some o) → Q none { s with heap := h' }) : wpAny (model P w) A (pyNext (.ref z)) Q E s := by
  have hT : s.TypeIs (.ref z) "zip" := ⟨_, hz, rfl⟩
  unfold pyNext
  refine wpAny_bind (wpAny_attempt (wpAny_callSpecial?_slot (name := Str.ofString "__next__") hT F.slot_zip_next (wpAny_call_entry F.slot_zip_next hT F.entry_zip_next (Zrp hh D g1 hz hTI hTO h1 h2 fun h' e hk he => ?_) (F.args_zip_next_1 _))))
  obtain ⟨o, ho, hc⟩ := he
  exact wpAny_bind (wpAny_isInstance (T := "StopIteration") (b := true) ⟨o, ho, hc⟩ isSubtype_stop (wpAny_pure (hQ _ hk)))
theorem Zog {it t : Addr} {i : Nat} {items : Array Value} {x : Value} (hx : items[i]? = some x) : Gives P w it [it, t] (fun h => IsTupIter h it t i ∧ IsTup h t items) x (fun h => IsTupIter h it t (i + 1)) where
  mem := by simp
  run := fun {A E s Q} ⟨hit, ht⟩ hQ => by
    obtain ⟨o, ho, hc, hd⟩ := id hit
    obtain ⟨ol, hol, _, nl, hdl⟩ := ht
    unfold Builtin.SmallTypes.nextOf
    refine wpAny_bind (wpAny_callSpecial?_slot (name := Str.ofString "__next__") hit.typeIs slot_tupleiter_next (wpAny_call_entry slot_tupleiter_next hit.typeIs entry_tupleiter_next ?_ (args_tupleiter_next _)))
    show wpAny _ _ (field (.ref it) 0 >>= _) _ _ s
    refine wpAny_bind (wpAny_field ho hd (x := .ref t) rfl ?_)
    show wpAny _ _ (if (Value.ref t == Value.none) = true then _ else _) _ _ s
    rw [if_neg (show ¬ ((Value.ref t == Value.none) = true) from Bool.false_ne_true)]
    show wpAny _ _ (field (.ref it) 1 >>= _) _ _ s
    refine wpAny_bind (wpAny_field ho hd (x := .int i 0) rfl ?_)
    show wpAny _ _ (seqItems? (.ref t) >>= _) _ _ s
    refine wpAny_bind (wpAny_seqItems hol hdl ?_)
    simp only [Int.toNat_natCast, hx]
    refine wpAny_bind (wpAny_setField ho hd (by simp) (wpAny_pure ⟨x, rfl, wpAny_pure (hQ _ ?_ (Heap.SameBut.update ..))⟩))
    exact ⟨_, Heap.get?_update_self _ ho (Obj.isFreed_of_fields (Obj.data_mapFields hd _)), (Obj.cls_mapFields ..).trans hc, by rw [Obj.data_mapFields hd]; simp [rawInt]⟩
  keep := fun h h' k ⟨⟨o, a1, a2⟩, ⟨o', b1, b2⟩⟩ => ⟨⟨o, k it (by simp) o a1, a2⟩, ⟨o', k t (by simp) o' b1, b2⟩⟩
  keep' := fun h h' k ⟨o, a1, a2⟩ => ⟨o, k it (by simp) o a1, a2⟩
theorem Zr7 {it t : Addr} {i : Nat} {items : Array Value} (hx : items[i]? = none) : Zh6 P w it [it, t] (fun h => IsTupIter h it t i ∧ IsTup h t items) where
  mem := by simp
  run := fun {A E s Q} hh ⟨hit, ht⟩ hE => by
    obtain ⟨o, ho, hc, hd⟩ := id hit
    obtain ⟨ol, hol, _, nl, hdl⟩ := ht
    unfold Builtin.SmallTypes.nextOf
    refine wpAny_bind (wpAny_callSpecial?_slot (name := Str.ofString "__next__") hit.typeIs slot_tupleiter_next (wpAny_call_entry slot_tupleiter_next hit.typeIs entry_tupleiter_next ?_ (args_tupleiter_next _)))
    show wpAny _ _ (field (.ref it) 0 >>= _) _ _ s
    refine wpAny_bind (wpAny_field ho hd (x := .ref t) rfl ?_)
    show wpAny _ _ (if (Value.ref t == Value.none) = true then _ else _) _ _ s
    rw [if_neg (show ¬ ((Value.ref t == Value.none) = true) from Bool.false_ne_true)]
    show wpAny _ _ (field (.ref it) 1 >>= _) _ _ s
    refine wpAny_bind (wpAny_field ho hd (x := .int i 0) rfl ?_)
    show wpAny _ _ (seqItems? (.ref t) >>= _) _ _ s
    refine wpAny_bind (wpAny_seqItems hol hdl ?_)
    simp only [Int.toNat_natCast, hx]
    refine wpAny_bind (wpAny_rule (wpAny_bind (wpAny_setField ho hd (by simp) ?_)))
    show wpAny _ _ (newExc (.type "StopIteration") [] >>= _) _ _ _
    refine wpAny_bind ?_
    simp only [newExc, newTuple]
    refine wpAny_bind (wpAny_newObj_type ?_ (by size_fits))
    refine wpAny_bind (m := firstArgMember _ _) (wpAny_of_eq (a := Value.none) (by first | rfl | (simp only [firstArgMember]; rfl)) ?_)
    refine wpAny_newObj_type ?_ (by size_fits)
    simp only [raiseNew]
    refine wpAny_bind (wpAny_handled ?_)
    first | rw [show A.in1.handled = none from hh] | rw [hh]
    exact wpAny_bind (wpAny_pure (wpAny_throw (hE _ _ (((Heap.SameBut.update ..).extBut.push _).push _) ⟨_, Heap.get?_push_size _ rfl, rfl⟩)))
  keep := fun h h' k ⟨⟨o, a1, a2⟩, ⟨o', b1, b2⟩⟩ => ⟨⟨o, k it (by simp) o a1, a2⟩, ⟨o', k t (by simp) o' b1, b2⟩⟩
end
noncomputable abbrev zT1 (h : Heap) (a : Addr) : Heap := h.push { cls := .type "tuple_iterator", data := .fields #[.ref a, .int 0 0] }
noncomputable abbrev zT2 (h : Heap) (a b : Addr) : Heap := (zT1 h a).push { cls := .type "tuple_iterator", data := .fields #[.ref b, .int 0 0] }
noncomputable abbrev zT3 (h : Heap) (a b : Addr) : Heap := (zT2 h a b).push { cls := .type "tuple", data := .seq #[.ref h.objs.size, .ref (zT1 h a).objs.size] }
noncomputable abbrev zT4 (h : Heap) (a b : Addr) : Heap := (zT3 h a b).push { cls := .type "tuple", data := .seq #[.none, .none] }
noncomputable abbrev zT5 (h : Heap) (a b : Addr) : Heap := (zT4 h a b).push { cls := .type "zip", data := .fields #[.none, .bool false, .bool false, .ref (zT2 h a b).objs.size, .ref (zT3 h a b).objs.size] }
theorem Zs3 (a b : Addr) (xs ys : Array Value) :
    Meets (Builtin.«zip.__new__» ⟨[.type "zip", .ref a, .ref b], []⟩) (fun _ R s => IsTup s.heap a xs ∧ IsTup s.heap b ys ∧ R (.ok (.ret (.ref (zT4 s.heap a b).objs.size))) { s with heap := zT5 s.heap a b }) :=
  .of_wp fun prog w A R s h => by
    obtain ⟨hp, g, d, tk, os⟩ := s
    obtain ⟨h1, h2, h⟩ := h
    have hsub := sub_zip
    have hL1 : IsTup (Shared.heap ⟨hp, g, d, tk, os⟩) a xs := h1
    have hL2 : IsTup (Shared.heap ⟨hp.push { cls := .type "tuple_iterator", data := .fields #[.ref a, .int 0 0] }, g, d, tk, os⟩) b ys := h2.push _
    wp_walk using iter_tuple hL1, iter_tuple hL2
    exact ⟨_, rfl, h⟩
section
variable {P : Program} {w : World} {A : Around} {E : Value → Shared → Prop} {s : Shared}
theorem Zp8 {a b : Addr} {xs ys : Array Value} {Q : Value → Shared → Prop} (h1 : IsTup s.heap a xs) (h2 : IsTup s.heap b ys)
    (h : ∀ h' n, n = s.heap.objs.size → IsZip h' (n + 4) (n + 2) (n + 3) .none → IsPair h' (n + 2) (.ref n) (.ref (n + 1)) → IsPair h' (n + 3) .none .none → IsTupIter h' n a 0 → IsTupIter h' (n + 1) b 0 →
      (∀ c o, s.heap.get? c = some o → h'.get? c = some o) → Q (.ref (n + 4)) { s with heap := h' }) : wpAny (model P w) A (call (.type "zip") [.ref a, .ref b]) Q E s := by
  refine callType_new F.called_zip (by decide) (F.typeCall_zip_2 _ _) (F.newCall_zip_2 _ _) (fun obj => F.args_object_init_3 obj _ _) F.entry_zip_new (Zs3 a b xs ys) ⟨h1, h2, ?_⟩
  have e1 : (zT1 s.heap a).objs.size = s.heap.objs.size + 1 := Heap.size_push ..
  have e2 : (zT2 s.heap a b).objs.size = s.heap.objs.size + 2 := by rw [Heap.size_push, e1]
  have e3 : (zT3 s.heap a b).objs.size = s.heap.objs.size + 3 := by rw [Heap.size_push, e2]
  have e4 : (zT4 s.heap a b).objs.size = s.heap.objs.size + 4 := by rw [Heap.size_push, e3]
  have up : ∀ {c o}, (zT1 s.heap a).get? c = some o → (zT5 s.heap a b).get? c = some o := fun x => Heap.get?_push_of_some _ (Heap.get?_push_of_some _ (Heap.get?_push_of_some _ (Heap.get?_push_of_some _ x)))
  have p5 : (zT5 s.heap a b).get? (zT4 s.heap a b).objs.size = some _ := Heap.get?_push_size _ rfl
  have p4 : (zT5 s.heap a b).get? (zT3 s.heap a b).objs.size = some _ := Heap.get?_push_of_some _ (Heap.get?_push_size _ rfl)
  have p3 : (zT5 s.heap a b).get? (zT2 s.heap a b).objs.size = some _ := Heap.get?_push_of_some _ (Heap.get?_push_of_some _ (Heap.get?_push_size _ rfl))
  have p2 : (zT5 s.heap a b).get? (zT1 s.heap a).objs.size = some _ := Heap.get?_push_of_some _ (Heap.get?_push_of_some _ (Heap.get?_push_of_some _ (Heap.get?_push_size _ rfl)))
  have p1 : (zT5 s.heap a b).get? s.heap.objs.size = some _ := up (Heap.get?_push_size _ rfl)
  show _ ∧ _
  rw [e2, e3, e4] at p5
  rw [e1, e2] at p3
  rw [e3] at p4
  rw [e1] at p2
  rw [e4]
  exact ⟨⟨_, p5, rfl⟩, h _ _ rfl p5 p3 p4 ⟨_, p1, rfl, rfl⟩ ⟨_, p2, rfl, rfl⟩ fun c o x => up (Heap.get?_push_of_some _ x)⟩
end
theorem nad {c d : Nat} (h : c < d ∨ d < c) : c ≠ d := by omega
theorem ZA.new {n a b : Nat} (h1 : a < n) (h2 : b < n) : ZA (n + 4) (n + 2) (n + 3) n (n + 1) [n, a] [n + 1, b] where
  TIz := nad (by omega)
  TOz := nad (by omega)
  a1 := fun c hc => by
    simp only [List.mem_cons, List.not_mem_nil, or_false] at hc
    rcases hc with rfl | rfl
    · exact ⟨nad (by omega), nad (by omega), nad (by omega)⟩
    · exact ⟨nad (by omega), nad (by omega), nad (by omega)⟩
  a2 := fun c hc => by
    simp only [List.mem_cons, List.not_mem_nil, or_false] at hc
    rcases hc with rfl | rfl
    · exact ⟨nad (by omega), nad (by omega), nad (by omega)⟩
    · exact ⟨nad (by omega), nad (by omega), nad (by omega)⟩
theorem ZA.new2 (n : Nat) : (n + 2 : Nat) ≠ n + 3 ∧ (n + 2 : Nat) ≠ n ∧ (n + 2 : Nat) ≠ n + 1 := ⟨by omega, by omega, by omega⟩
section
variable {X : Cx} {io : List Nat} {p c : Bool} {a b : Expr} {mr : MAt}
noncomputable def Zzi (ds : List PyData) : Option (List PyData) := match ds with | [.list as, .list bs] => some (Zj2 as bs) | [.tuple as, .tuple bs] => some (Zj2 as bs) | _ => none
noncomputable def Zfa (a : FA) : FI := fun δ => (a δ).bind fun p => (Zzi (OT.datas p.1)).bind fun ds => some (ds, p.2)
end
end L2
namespace L2
open PySem PySem.Spec PyProof.Rows
section
variable {X : Cx} {e : Expr} {te : TE} {lo hi : Option Expr} {se : Expr} {tl th ts : TO} {pos p2 : Pos}
end
section
variable {X : Cx} {io : List Nat} {p c : Bool} {a e : Expr} {ma : MEt} {lo hi : Option Expr} {se : Expr} {ml mh ms : MOt} {pos p2 : Pos} {fa : FE}
end
end L2
namespace L2
open PySem PySem.Spec PyProof.Rows
section
variable {X : Cx} {io : List Nat} {c1 c2 c3 c4 p : Bool} {a b e d : Expr} {ma mb mc md : MEt} {pos : Pos} {f g h : Int → Int → Bool} {ta tb tc td : TE} {fa fb fc fd : FE} {G : PySem.W.Frag}
end
end L2
namespace L2
open PySem PySem.Spec PyProof.Rows
variable {G : PySem.W.Frag}
section
variable {X : Cx} {io : List Nat} {p c : Bool} {a b e : Expr} {mr : MAt} {ra : FA} {i : Nat}
noncomputable def isFn (y : Str) (d : PyData) : Bool := match d with | .dict [(.str x, .bool true)] => decide (x = y) | _ => false
end
section
variable {X : Cx} {io : List Nat} {p c : Bool} {a : Expr} {mr : MAt} {ra : FA}
end
end L2
namespace L2
open PySem PySem.Spec PyProof.Rows
variable {G : PySem.W.Frag}
theorem Z0r {α : Type} {p : α → Prop} {a b c d : α} (h1 : p a) (h2 : p b) (h3 : p c) (h4 : p d) : ∀ x ∈ [a, b, c, d], p x := by
  intro x hx
  rcases List.mem_cons.mp hx with rfl | hx
  · exact h1
  rcases List.mem_cons.mp hx with rfl | hx
  · exact h2
  rcases List.mem_cons.mp hx with rfl | hx
  · exact h3
  rcases List.mem_singleton.mp hx with rfl
  exact h4
theorem Z3j {α : Type} {p : α → Prop} {a b c d e : α} (h1 : p a) (h2 : p b) (h3 : p c) (h4 : p d) (h5 : p e) : ∀ x ∈ [a, b, c, d, e], p x := fun x hx => (List.mem_cons.mp hx).elim (fun q => q ▸ h1) (Z0r h2 h3 h4 h5 x)
theorem no4 {α : Type} {a b c d x : α} (h1 : x ≠ a) (h2 : x ≠ b) (h3 : x ≠ c) (h4 : x ≠ d) : x ∉ [a, b, c, d] := fun hx => Z0r (p := fun y => x ≠ y) h1 h2 h3 h4 x hx rfl
noncomputable def SqB (K : PySem.W.Frag) (t : Bool) (H : Hp) (a : Addr) (xs : List V) : Prop := match t with | true => H a = some (.tup xs) | false => SqL K H a xs
noncomputable def IsB (t : Bool) (h : Heap) (a : Addr) (its : Array Value) : Prop := match t with | true => IsTup h a its | false => h.IsList a its
noncomputable def ItB (t : Bool) (h : Heap) (it a : Addr) (i : Nat) : Prop := match t with | true => IsTupIter h it a i | false => h.IsListIter it a i
theorem ItB.at {t : Bool} {h h' : Heap} {it a : Addr} {i : Nat} (x : ItB t h it a i) (k : ∀ o, h.get? it = some o → h'.get? it = some o) : ItB t h' it a i := by
  cases t with
  | false => exact Heap.IsListIter.at x k
  | true =>
    obtain ⟨o, ho, r⟩ := x
    exact ⟨o, k o ho, r⟩
theorem ItB.obj {t : Bool} {h : Heap} {it a : Addr} {i : Nat} (x : ItB t h it a i) : ∃ o, h.get? it = some o ∧ ∀ v, o.data ≠ .cell v := by
  cases t with
  | false =>
    obtain ⟨o, ho, _, d⟩ := x
    exact ⟨o, ho, fun v q => by rw [d] at q; cases q⟩
  | true =>
    obtain ⟨o, ho, _, d⟩ := x
    exact ⟨o, ho, fun v q => by rw [d] at q; cases q⟩
theorem IsB.lt {t : Bool} {h : Heap} {a : Addr} {its : Array Value} (x : IsB t h a its) : a < h.objs.size := by
  cases t with
  | false =>
    obtain ⟨o, ho, _⟩ := x
    exact Heap.lt_size ho
  | true =>
    obtain ⟨o, ho, _⟩ := x
    exact Heap.lt_size ho
theorem SqB.its {X : Cx} {pins : List (Addr × Obj)} {σ : St} {H : Hp} {s : Shared} {t : Bool} {a : Addr} {xs : List V} (I : Inv X pins σ H s) (h : SqB X.K t H a xs) : ∃ its : List Value, Vals xs its ∧ IsB t s.heap a its.toArray := by
  cases t with
  | false =>
    obtain ⟨its, r, p, _⟩ := I.list h
    exact ⟨its, r, p.isList⟩
  | true =>
    obtain ⟨_, its, r, p⟩ := (show ObjOk X.prog X.w H s.heap a (.tup xs) from I.hok a _ h)
    exact ⟨its, r, p⟩
theorem SqB.inj {X : Cx} {pins : List (Addr × Obj)} {σ : St} {H : Hp} {s : Shared} {t : Bool} {a : Addr} {xs ys : List V} (I : Inv X pins σ H s) (h : SqB X.K t H a xs) (k : SqB X.K t H a ys) : xs = ys := by
  cases t with
  | false => exact I.list_inj h k
  | true =>
    have := (show H a = some (.tup xs) from h).symm.trans k
    cases this
    rfl
section
variable {P : Program} {w : World}
theorem Zoy {t : Bool} {it a : Addr} {i : Nat} {items : Array Value} {x : Value} (hx : items[i]? = some x) : Gives P w it [it, a] (fun h => ItB t h it a i ∧ IsB t h a items) x (fun h => ItB t h it a (i + 1)) := by
  cases t with
  | true => exact Zog hx
  | false =>
    exact ⟨.head _, fun st hQ => wpAny_nextOf_list_item st.1 st.2 hx hQ, fun h h' k st => ⟨Heap.IsListIter.at st.1 fun o e => k it (.head _) o e, by
      obtain ⟨o, ho, r⟩ := st.2
      exact ⟨o, k a (.tail _ (.head _)) o ho, r⟩⟩, fun h h' k st => Heap.IsListIter.at st fun o e => k it (.head _) o e⟩
theorem Zys {t : Bool} {it a : Addr} {i : Nat} {items : Array Value} (hx : items[i]? = none) : Zh6 P w it [it, a] (fun h => ItB t h it a i ∧ IsB t h a items) := by
  cases t with
  | true => exact Zr7 hx
  | false =>
    exact ⟨.head _, fun hh st hE => wpAny_nextOf_list_end hh st.1 st.2 hx hE, fun h h' k st => ⟨Heap.IsListIter.at st.1 fun o e => k it (.head _) o e, by
      obtain ⟨o, ho, r⟩ := st.2
      exact ⟨o, k a (.tail _ (.head _)) o ho, r⟩⟩⟩
end
noncomputable def Z5l (K : PySem.W.Frag) (t : Bool) (a b : Addr) : It :=
  ⟨fun i H => ∃ xs ys x y, SqB K t H a xs ∧ SqB K t H b ys ∧ xs[i]? = some x ∧ ys[i]? = some y,
   fun i H v H' => ∃ p x y, H p = none ∧ v = .ref p ∧ H' = upd H p (.tup [x, y]) ∧ (∀ xs, SqB K t H a xs → xs[i]? = some x) ∧ ∀ ys, SqB K t H b ys → ys[i]? = some y,
   fun i H => ∃ xs ys, SqB K t H a xs ∧ SqB K t H b ys ∧ (xs.length ≤ i ∨ ys.length ≤ i)⟩
noncomputable def Z6g (t : Bool) (z TI TO i1 i2 a b : Addr) (i : Nat) (h : Heap) : Prop := IsZip h z TI TO .none ∧ IsPair h TI (.ref i1) (.ref i2) ∧ (∃ x y, IsPair h TO x y) ∧ ItB t h i1 a i ∧ ItB t h i2 b i
theorem Zq6 {P : Program} {w : World} {K : PySem.W.Frag} {es : List Expr} {kk : Nat} {pos : Pos} {t : Bool} {z TI TO i1 i2 a b : Addr} (D : ZA z TI TO i1 i2 [i1, a] [i2, b]) (D2 : TI ≠ TO ∧ TI ≠ i1 ∧ TI ≠ i2) : Turn P w K (.Tuple es kk pos) (Z5l K t a b) [z, TI, TO, i1, i2] z (Z6g t z TI TO i1 i2 a b) where
  mem := .head _
  obj := fun i h st => by
    obtain ⟨s1, s2, ⟨x, y, s3⟩, s4, s5⟩ := st
    exact Z3j ⟨_, s1, fun v q => by cases q⟩ ⟨_, s2, fun v q => by cases q⟩ ⟨_, s3, fun v q => by cases q⟩ s4.obj s5.obj
  keep := fun i h h' st k => by
    obtain ⟨s1, s2, ⟨x, y, s3⟩, s4, s5⟩ := st
    have m2 : TI ∈ [z, TI, TO, i1, i2] := .tail _ (.head _)
    have m3 : TO ∈ [z, TI, TO, i1, i2] := .tail _ (.tail _ (.head _))
    have m4 : i1 ∈ [z, TI, TO, i1, i2] := .tail _ (.tail _ (.tail _ (.head _)))
    have m5 : i2 ∈ [z, TI, TO, i1, i2] := .tail _ (.tail _ (.tail _ (.tail _ (.head _))))
    exact ⟨k z (.head _) _ s1, k TI m2 _ s2, ⟨x, y, k TO m3 _ s3⟩, s4.at (k i1 m4), s5.at (k i2 m5)⟩
  item := by
    intro X hP hw hK hc i pins s σ H E I hf st hg
    subst hP hw hK
    obtain ⟨s1, s2, ⟨x0, y0, s3⟩, s4, s5⟩ := st
    obtain ⟨xs, ys, x, y, hx, hy, ex, ey⟩ := hg
    obtain ⟨its, rx, px⟩ := hx.its I
    obtain ⟨its', ry, py⟩ := hy.its I
    obtain ⟨u, hu, ru⟩ := rx.get ex
    obtain ⟨u', hu', ru'⟩ := ry.get ey
    rw [← List.getElem?_toArray] at hu hu'
    refine Znp D (Zoy hu) (Zoy hu') s1 s2 s3 ⟨s4, px⟩ ⟨s5, py⟩ fun h' g1 g2 g3 g4 g5 g6 => ?_
    refine ⟨_, rfl, wpAny_letOwnedTupleGo_zip (s := { s with heap := h' }) g1 fun h2 z2 sb => ?_⟩
    have up : ∀ c o, c ≠ z → h'.get? c = some o → h2.get? c = some o := fun c o n e => (sb.2 c n).trans e
    have kp : ∀ c o, c ∉ [z, TO, i1, i2] → s.heap.get? c = some o → h2.get? c = some o := fun c o n e => up c o (fun q => n (q ▸ .head _)) (g6 c o n e)
    have t5 : IsPair h2 s.heap.objs.size u u' := up _ _ (Nat.ne_of_gt (Heap.lt_size s1)) g5
    have i1z := (D.a1 i1 (.head _)).1
    have i2z := (D.a2 i2 (.head _)).1
    have n3 := g3.at (up i1 · i1z)
    have n4 := g4.at (up i2 · i2z)
    obtain ⟨f1, f2, f3, f4, f5⟩ : (Zii X pins H z ∧ Zii X pins H TI ∧ Zii X pins H TO ∧ Zii X pins H i1 ∧ Zii X pins H i2) := ⟨hf _ (.head _), hf _ (.tail _ (.head _)), hf _ (.tail _ (.tail _ (.head _))), hf _ (.tail _ (.tail _ (.tail _ (.head _)))), hf _ (.tail _ (.tail _ (.tail _ (.tail _ (.head _)))))⟩
    have I2 : Inv X pins σ (upd H s.heap.objs.size (.tup [x, y])) { s with heap := h2 } :=
      I.turnTup (ch := [z, TO, i1, i2]) (its := [u, u']) (Z0r f1 f3 f4 f5) kp (Z0r ⟨_, z2⟩ ⟨_, up _ _ D.TOz g2⟩ (n3.obj.imp fun _ q => q.1) (n4.obj.imp fun _ q => q.1)) (Nat.le_refl _) Z0a (.cons ru (.cons ru' .nil)) ⟨_, t5, rfl, 0, rfl⟩
    have lt : ∀ {c : Addr} {o : Obj}, s.heap.get? c = some o → Zii X pins H c → upd H s.heap.objs.size (.tup [x, y]) c = none := fun e f => by rw [Yl (Nat.ne_of_lt (Heap.lt_size e))]; exact f.1
    refine ⟨.ref s.heap.objs.size, _, I2, rfl, ⟨_, x, y, I.fresh, rfl, rfl, fun zs hz => by rw [hz.inj I hx]; exact ex, fun zs hz => by rw [hz.inj I hy]; exact ey⟩, ⟨z2, kp TI _ (no4 D.TIz D2.1 D2.2.1 D2.2.2) s2, ⟨_, _, up _ _ D.TOz g2⟩, n3, n4⟩, ?_⟩
    obtain ⟨o4, e4, _⟩ := s4.obj
    obtain ⟨o5, e5, _⟩ := s5.obj
    exact Z3j (lt s1 f1) (lt s2 f2) (lt s3 f3) (lt e4 f4) (lt e5 f5)
  done := by
    intro X hP hw hK hc i pins s σ H E I hf st hg
    subst hP hw hK
    obtain ⟨s1, s2, ⟨x0, y0, s3⟩, s4, s5⟩ := st
    obtain ⟨xs, ys, hx, hy, he⟩ := hg
    obtain ⟨its, rx, px⟩ := hx.its I
    obtain ⟨its', ry, py⟩ := hy.its I
    have l1 := rx.length
    have l2 := ry.length
    refine Zqd (I.ok.hd hc) D (S1 := fun h => ItB t h i1 a i ∧ IsB t h a its.toArray) (T1 := fun h => ItB t h i1 a (i + 1)) (S2 := fun h => ItB t h i2 b i ∧ IsB t h b its'.toArray) ?_ s1 s2 s3 ⟨s4, px⟩ ⟨s5, py⟩ fun h' k => ⟨rfl, I.turnAll (ch := [z, TO, i1, i2]) (Z0r (hf _ (.head _)) (hf _ (.tail _ (.tail _ (.head _)))) (hf _ (.tail _ (.tail _ (.tail _ (.head _))))) (hf _ (.tail _ (.tail _ (.tail _ (.tail _ (.head _))))))) k⟩
    cases q : its.toArray[i]? with
    | none => exact .inl (Zys q)
    | some v =>
      refine .inr ⟨⟨v, Zoy q⟩, Zys ?_⟩
      have := (Array.getElem?_eq_some_iff.mp q).1
      rw [List.size_toArray] at this
      rw [Array.getElem?_eq_none_iff, List.size_toArray]
      omega
  self := fun _ _ _ _ _ st h => wpAny_pyIter_zip st.1 h
theorem Zph {P : Program} {w : World} {A : Around} {E : Value → Shared → Prop} {s : Shared} {t : Bool} {a b : Addr} {xs ys : Array Value} {Q : Value → Shared → Prop} (h1 : IsB t s.heap a xs) (h2 : IsB t s.heap b ys)
    (h : ∀ h' n, n = s.heap.objs.size → IsZip h' (n + 4) (n + 2) (n + 3) .none → IsPair h' (n + 2) (.ref n) (.ref (n + 1)) → IsPair h' (n + 3) .none .none → ItB t h' n a 0 → ItB t h' (n + 1) b 0 →
      (∀ c o, s.heap.get? c = some o → h'.get? c = some o) → Q (.ref (n + 4)) { s with heap := h' }) : wpAny (model P w) A (call (.type "zip") [.ref a, .ref b]) Q E s := by
  cases t with
  | true => exact Zp8 h1 h2 h
  | false => exact call_zip_2 h1 h2 fun h' g1 g2 g3 g4 g5 _ g7 => h h' _ rfl g1 g2 g3 g4 g5 g7
noncomputable def Z3m (K : PySem.W.Frag) (ta : TA) : TI := fun σ H R => ta σ H fun vs H1 => ∃ t a b, vs = [.ref a, .ref b] ∧ (∃ xs, SqB K t H1 a xs) ∧ (∃ ys, SqB K t H1 b ys) ∧ R (Z5l K t a b) H1
theorem Zu0 {X : Cx} {K : PySem.W.Frag} {a b : Expr} {ta : TA} {p pos pt : Pos} {es : List Expr} {kk : Nat} (hK : X.K = K) (hg : Gl X "zip") (hm : X.mg "zip" = none) (hv : bootBuiltins "zip" = some (.type "zip")) (ha : PA X [a, b] ta)
    (he : starEach [a, b] X.env = (false, eval a X.env) :: starEach [b] X.env := by rfl) (hpl : (backTo pos (starEach [b] X.env)).any (·.1) = false := by rfl) :
    PI X (.Tuple es kk pt) (.Call (.Name "zip" p) [a, b] [] pos) (Z3m K ta) := by
  subst hK
  intro pins s σ H R I h
  refine wpAny_Call_Name_kw (Zgc I hg hm hv ?_ (by decide) (by decide))
  refine PyProof.Rows.callWith_type1 (thn (ha pos pins s σ H _ I h) fun us s1 q => ?_) he hpl
  obtain ⟨vs, H1, I1, r1, t, l1, l2, e1, ⟨xs, hx⟩, ⟨ys, hy⟩, q⟩ := q
  subst e1
  obtain ⟨u, u', rfl, ru, ru'⟩ := vals2 r1
  cases (show u = Value.ref l1 from ru)
  cases (show u' = Value.ref l2 from ru')
  obtain ⟨its, rx, px⟩ := hx.its I1
  obtain ⟨its', ry, py⟩ := hy.its I1
  refine Zph px py fun h' n en g1 g2 g3 g4 g5 g7 => ?_
  have I2 : Inv X pins σ H1 { s1 with heap := h' } := I1.kept (t' := s1.toks) g7
  refine wpAny_pyIter_zip (s := { s1 with heap := h' }) g1 ?_
  refine ⟨_, [_, _, _, _, _], Z6g _ _ _ _ _ _ _ _, _, H1, rfl, I2, Zq6 (ZA.new (en ▸ px.lt) (en ▸ py.lt)) (ZA.new2 n), ⟨g1, g2, ⟨_, _, g3⟩, g4, g5⟩, ?_, q⟩
  subst en
  have ok : ∀ k : Nat, Zii X pins H1 (s1.heap.objs.size + k) := fun k => I1.fpOk (Nat.le_add_right _ _) (I1.hok.fresh (Nat.le_add_right _ _))
  exact Z3j (ok 4) (ok 2) (ok 3) (ok 0) (ok 1)
section
variable {X : Cx} {io : List Nat} {p c : Bool} {a b : Expr} {mr : MAt} {ra : FA}
noncomputable def Z1v (t : Bool) (as : List PyData) : PyData := match t with | true => .tuple as | false => .list as
theorem Rel.keptSq {C : MC G} {H : Hp} {σ : St} {δ : Zn} {fp : Fp} {ex : Addr → Prop} {v : V} {t : Bool} {ds : List PyData} (R : Rel C io H σ δ fp ex) (q : Da G H (fun a => c = true → Lf C fp ex a) v (Z1v t ds)) :
    ∃ a xs, v = .ref a ∧ ∀ H' : Hp, (∀ b o, H b = some o → (c = false ∨ ¬ Foot fp b) → H' b = some o) → SqB G t H' a xs ∧ Das G H' (fun a => c = true → (Lf C fp ex a ∧ H a ≠ none)) xs ds := by
  cases t with
  | false => exact R.keptList q
  | true =>
    generalize hd : Z1v true ds = d at q
    cases q with
    | tup e r =>
      cases hd
      rename_i a0 xs0
      refine ⟨a0, xs0, rfl, fun H' kp => ?_⟩
      obtain ⟨f1, f2⟩ := R.kept kp
      exact ⟨f2 _ (.tup _) e, r.frame f1 f2⟩
    | _ => cases hd
theorem Zs4 {ds es : List PyData} (h : Zzi ds = some es) : ∃ t as bs, ds = [Z1v t as, Z1v t bs] ∧ es = Zj2 as bs := by
  unfold Zzi at h
  split at h
  · cases h; exact ⟨false, _, _, rfl, rfl⟩
  · cases h; exact ⟨true, _, _, rfl, rfl⟩
  · cases h
noncomputable def iZB (mr : MAt) : MIt := fun δ K => mr δ fun rs δ' => ∃ es, Zzi (OT.datas rs) = some es ∧ K es δ'
theorem Zex {p' pos pt : Pos} {es : List Expr} {kk : Nat} (hg : Gl X "zip") (hm : X.mg "zip" = none) (hv : bootBuiltins "zip" = some (.type "zip")) (ha : MA X io p c [a, b] mr)
    (he : starEach [a, b] X.env = (false, eval a X.env) :: starEach [b] X.env := by rfl) (hpl : (backTo pos (starEach [b] X.env)).any (·.1) = false := by rfl) : MI X io p c (.Tuple es kk pt) (.Call (.Name "zip" p') [a, b] [] pos) (iZB mr) := by
  obtain ⟨_, A, s⟩ := ha
  refine ⟨_, Zu0 rfl hg hm hv A he hpl, fun C H σ δ fp ex K' Q R h kk => s C H σ δ fp ex _ _ R h fun H1 vs rs δ1 fp1 new r1 h1 => ?_⟩
  have q := r1.das R
  obtain ⟨es, hz, h1⟩ := h1
  obtain ⟨t, as, bs, e, rfl⟩ := Zs4 hz
  rw [e] at q
  cases q with
  | cons q1 q2 =>
    cases q2 with
    | cons q2 q3 =>
      cases q3
      have R1 := r1.base
      obtain ⟨l1, xs, rfl, k1⟩ := R1.keptSq q1
      obtain ⟨l2, ys, rfl, k2⟩ := R1.keptSq q2
      refine ⟨t, l1, l2, rfl, ⟨_, (k1 H1 fun _ _ e _ => e).1⟩, ⟨_, (k2 H1 fun _ _ e _ => e).1⟩, kk _ H1 _ δ1 fp1 R1 r1.stp (fun H' kp i => ?_) h1⟩
      obtain ⟨s1, d1⟩ := k1 H' kp
      obtain ⟨s2, d2⟩ := k2 H' kp
      refine ⟨fun d hd => ?_, fun hd => ⟨_, _, s1, s2, by rw [d1.length, d2.length]; exact Zpa hd⟩⟩
      obtain ⟨x, y, hx, hy, rfl⟩ := Zsh hd
      obtain ⟨u, hu, qu⟩ := d1.get hx
      obtain ⟨w, hw, qw⟩ := d2.get hy
      refine ⟨⟨_, _, u, w, s1, s2, hu, hw⟩, fun v H'' hyl => ?_⟩
      obtain ⟨t', u', w', ht, rfl, rfl, hu', hw'⟩ := hyl
      cases hu.symm.trans (hu' _ s1)
      cases hw.symm.trans (hw' _ s2)
      exact ⟨Wi ht _, .tup Y7 (.cons (qu.same (Wi ht _)) (.cons (qw.same (Wi ht _)) .nil))⟩
theorem Zen {tg e : Expr} (g : MI X io p c tg e (iZB (o2 ra))) : MI X io p c tg e (o2 (Zfa ra)) := g.weak fun δ K h => by
  obtain ⟨r, δ', h, k⟩ := h
  obtain ⟨⟨x, δ1⟩, h1, h⟩ := bs h
  obtain ⟨ds, h2, h⟩ := bs h
  cases h
  exact ⟨x, _, h1, _, h2, k⟩
end
end L2
namespace L2
open PySem PySem.Spec PyProof.Rows PySem.W
noncomputable def kEv {α : Type} (lt : Nat → Nat → Bool) : KasT α → α
  | .ret a => a
  | .ask i j k => kEv lt (k (lt i j))
noncomputable def kGood {α : Type} (n : Nat) (P : α → Prop) : KasT α → Prop
  | .ret a => P a
  | .ask i j k => i < n ∧ j < n ∧ ∀ b, kGood n P (k b)
theorem kGood.bind {α β : Type} {n : Nat} {P : α → Prop} {R : β → Prop} {f : α → KasT β} (hf : ∀ a, P a → kGood n R (f a)) {t : KasT α} (h : kGood n P t) : kGood n R (t.bind f) := by
  induction t with
  | ret a => exact hf a h
  | ask i j k ih => exact ⟨h.1, h.2.1, fun b => ih b (h.2.2 b)⟩
theorem kGood.ev {α : Type} {n : Nat} {P : α → Prop} {lt : Nat → Nat → Bool} {t : KasT α} (h : kGood n P t) : P (kEv lt t) := by
  induction t with
  | ret a => exact h
  | ask i j k ih => exact ih _ (h.2.2 _)
theorem kGood.wp {α : Type} {n : Nat} {P : α → Prop} {lt : Nat → Nat → Bool} {cmp : Nat → Nat → (Bool → Shared → Prop) → Shared → Prop} {s : Shared} {Q : α → Shared → Prop} (hc : ∀ i j C, i < n → j < n → C (lt i j) s → cmp i j C s) {t : KasT α} (h : kGood n P t) (q : Q (kEv lt t) s) : t.kasWp cmp Q s := by
  induction t with
  | ret a => exact q
  | ask i j k ih => exact hc i j _ h.1 h.2.1 (ih _ (h.2.2 _) q)
noncomputable def kP (n : Nat) (p : Array Nat) : Prop := p.toList.Perm (List.range n)
theorem kP.at {n : Nat} {p : Array Nat} (h : kP n p) (h0 : 0 < n) (i : Nat) : p.getD i 0 < n := by
  by_cases c : i < p.size
  · have e : p.getD i 0 = p[i] := by simp [Array.getD, c]
    rw [e]
    exact List.mem_range.mp (h.mem_iff.mp (Array.getElem_mem_toList c))
  · have e : p.getD i 0 = 0 := by simp [Array.getD, c]
    rw [e]; exact h0
theorem kP.rev {n : Nat} {p : Array Nat} (h : kP n p) (i j : Nat) : kP n (kas_rev p i j) := (Array.perm_iff_toList_perm.mp (mirror_perm p i j _)).trans h
theorem kP.bub {n : Nat} {p : Array Nat} (h : kP n p) (i j : Nat) : kP n (bubble p i j) := (Array.perm_iff_toList_perm.mp (bubble_perm p i j)).trans h
theorem Zmv {n : Nat} {p : Array Nat} (h : kP n p) (h0 : 0 < n) (f m : Nat) : kGood n (fun _ => True) (kas_asc p f m) := by
  induction f generalizing m with
  | zero => exact trivial
  | succ f ih =>
    refine ⟨h.at h0 _, h.at h0 _, fun b => ?_⟩
    cases b
    · exact ih _
    · exact trivial
theorem Zpd {n : Nat} (h0 : 0 < n) (f : Nat) {p : Array Nat} (h : kP n p) (m q : Nat) : kGood n (fun r : Array Nat × Nat × Nat => kP n r.1) (kas_desc f p m q) := by
  induction f generalizing p m q with
  | zero => exact h
  | succ f ih =>
    refine ⟨h.at h0 _, h.at h0 _, fun b => ?_⟩
    cases b
    · refine ⟨h.at h0 _, h.at h0 _, fun b => ?_⟩
      cases b
      · exact ih h _ _
      · exact h
    · show kGood n _ (if q > 0 then _ else _)
      split
      · exact ih (h.rev _ _) _ _
      · exact ih h _ _
theorem Zjt {n : Nat} {p : Array Nat} (h : kP n p) (h0 : 0 < n) (m r : Nat) : kGood n (fun r : Nat × Array Nat => kP n r.2) (kas_tail3 m r p) := by
  refine kGood.bind (P := fun _ => True) (fun a _ => ?_) (Zmv (h.rev _ _) h0 _ _)
  exact h.rev _ _
theorem Zfh {n : Nat} {p : Array Nat} (h : kP n p) (h0 : 0 < n) (m r : Nat) : kGood n (fun r : Nat × Array Nat => kP n r.2) (kas_descPart m r p) :=
  (Zpd h0 _ h _ _).bind fun x hx => by
    show kGood n _ (if x.2.2 > 0 then _ else _)
    split
    · exact Zjt (hx.rev _ _) h0 _ _
    · exact Zjt hx h0 _ _
theorem Znn {n : Nat} {p : Array Nat} (h : kP n p) (h0 : 0 < n) (r : Nat) : kGood n (fun r : Nat × Array Nat => kP n r.2) (kas_count r p) :=
  (Zmv h h0 _ _).bind fun m _ => by
    show kGood n _ (if (m == r) = true then _ else if m > 1 then _ else _)
    split
    · exact h
    · split
      · refine ⟨h.at h0 _, h.at h0 _, fun b => ?_⟩
        cases b
        · exact Zfh (h.rev _ _) h0 _ _
        · exact h
      · exact Zfh h h0 _ _
theorem Zni {n : Nat} {p : Array Nat} (h : kP n p) (h0 : 0 < n) (k f l r : Nat) : kGood n (fun _ => True) (kas_place p k f l r) := by
  induction f generalizing l r with
  | zero => exact trivial
  | succ f ih =>
    show kGood n _ (if l ≥ r then _ else _)
    split
    · exact trivial
    · refine ⟨h.at h0 _, h.at h0 _, fun b => ?_⟩
      cases b
      · exact ih _ _
      · exact ih _ _
theorem Ztd {n : Nat} (h0 : 0 < n) (f : Nat) {p : Array Nat} (h : kP n p) (k : Nat) : kGood n (kP n) (kas_bin f p k) := by
  induction f generalizing p k with
  | zero => exact h
  | succ f ih => exact (Zni h h0 _ _ _ _).bind fun l _ => ih (h.bub _ _) _
theorem Zkp {n : Nat} (h0 : 0 < n) : kGood n (kP n) (kas_sort n) :=
  (Znn (p := List.toArray (List.range n)) (.refl _) h0 n).bind fun r hr => by
    show kGood n _ (if r.1 < n then _ else _)
    split
    · exact Ztd h0 _ hr _
    · exact hr
noncomputable def Zxn (lt : Nat → Nat → Bool) (n : Nat) : List Nat := (kEv lt (kas_sort n)).toList
theorem Zks {lt : Nat → Nat → Bool} {n : Nat} (h0 : 0 < n) : (Zxn lt n).Perm (List.range n) := (Zkp h0).ev (P := kP n)
end L2
namespace L2
open PySem PySem.Spec PyProof.Rows PySem.W PySem.SeqAt
open AutoSeq1 (wpAny_loadPart')
open MeetsSeq MeetsSeq2 MeetsSeq3 SeqRoads2
noncomputable def ltI : List Int → List Int → Bool
  | [], [] => false
  | [], _ :: _ => true
  | _ :: _, [] => false
  | x :: xs, y :: ys => if x = y then ltI xs ys else decide (x < y)
theorem Zuh {vs : List Value} {ns : List Int} (h : IntsAre vs ns) (i : Nat) (hi : i < vs.length) : ∃ x t, vs[i]? = some (.int x t) ∧ ns.drop i = x :: ns.drop (i + 1) := by
  induction h generalizing i with
  | nil => exact absurd hi (Nat.not_lt_zero i)
  | cons n t h ih =>
    cases i with
    | zero => exact ⟨n, t, rfl, rfl⟩
    | succ i => exact ih i (Nat.lt_of_succ_lt_succ hi)
theorem Zm0 {vs : List Value} {ns : List Int} (h : IntsAre vs ns) : vs.length = ns.length := by
  induction h with
  | nil => rfl
  | cons n t h ih => exact congrArg Nat.succ ih
theorem Zq4 {xs ys : List Int} (h : xs = [] ∨ ys = []) : ltI xs ys = decide (xs.length < ys.length) := by
  cases xs <;> cases ys <;> first | rfl | (rcases h with h | h <;> cases h) | exact (decide_eq_true (Nat.succ_pos _)).symm
theorem Zov (l b : Addr) (items items2 : Array Value) (n n2 : Nat) (dd dd2 : Option Addr) (sl sl2 : Array (Option Value)) {xs ys : List Int} (h1 : IntsAre items.toList xs) (h2 : IntsAre items2.toList ys) (k : Nat) :
    ∀ i : Nat, items.size - i = k → i ≤ items.size → i ≤ items2.size → Meets (Builtin.«list.__eq__.loop» ⟨[.ref l, .ref b, rawInt i, rawInt 0], []⟩)
      (fun A R s => s.heap.get? l = some { cls := .type "list", dict := dd, data := .seq items n, slots := sl } ∧ s.heap.get? b = some { cls := .type "list", dict := dd2, data := .seq items2 n2, slots := sl2 } ∧
        R (.ok (.ret (.bool (ltI (xs.drop i) (ys.drop i))))) s) := by
  have e1 : items.size = xs.length := Zm0 h1
  have e2 : items2.size = ys.length := Zm0 h2
  have fin : ∀ i, i ≤ items.size → i ≤ items2.size → (i = items.size ∨ i = items2.size) → ltI (xs.drop i) (ys.drop i) = decide (items.size < items2.size) := fun i u1 u2 c => by
    rw [Zq4 (c.imp (fun c => List.drop_eq_nil_of_le (by omega)) fun c => List.drop_eq_nil_of_le (by omega)), List.length_drop, List.length_drop]
    exact decide_eq_decide.mpr (by omega)
  induction k with
  | zero =>
    intro i hk u1 u2 prog w A R s h
    obtain ⟨hp, g, d, tk, os⟩ := s; obtain ⟨hl, hb, h⟩ := h
    wp_walk using wpAny_loadPart' hl, wpAny_loadPart' hb
    have hi1 : items[((i : Nat) : Int).toNat]? = none := by simp; omega
    rw [fin i u1 u2 (.inl (by omega))] at h
    rw [hi1]
    wp_walk using wpAny_loadPart' hl, wpAny_loadPart' hb
    exact h
  | succ k ih =>
    intro i hk u1 u2 prog w A R s h
    obtain ⟨hp, g, d, tk, os⟩ := s; obtain ⟨hl, hb, h⟩ := h
    have hlt : i < items.size := by omega
    obtain ⟨x, t, q1, q2⟩ := Zuh h1 i hlt
    have hi1 : items[((i : Nat) : Int).toNat]? = some (.int x t) := by rw [Int.toNat_natCast, ← q1, Array.getElem?_toList]
    wp_walk using wpAny_loadPart' hl, wpAny_loadPart' hb
    by_cases c : i < items2.size
    · obtain ⟨y, u, q3, q4⟩ := Zuh h2 i c
      have hi2 : items2[((i : Nat) : Int).toNat]? = some (.int y u) := by rw [Int.toNat_natCast, ← q3, Array.getElem?_toList]
      have hc : ((i : Int) + 1) = ((i + 1 : Nat) : Int) := by push_cast; rfl
      rw [q2, q4] at h
      unfold ltI at h
      rw [hi1, hi2]
      refine wpAny_bind (EqAt.int_int x t y u prog w _ _ ?_)
      by_cases cx : x = y
      · rw [if_pos cx] at h
        rw [beq_iff_eq.mpr cx]
        wp_walk
        rw [hc]
        exact ⟨plainId_quiet plain_eq_loop _, codeAny_builtin entry_eq_loop (by
          rw [Around.under_plainId plain_eq_loop _]
          exact ih (i + 1) (by omega) (by omega) (by omega) prog w A R _ ⟨hl, hb, h⟩)⟩
      · rw [if_neg cx] at h
        rw [beq_eq_false_iff_ne.mpr cx]
        wp_walk using wpAny_loadPart' hl, wpAny_loadPart' hb
        rw [hi1, hi2]
        refine wpAny_bind (lt_int ?_)
        wp_walk
        exact h
    · have hi2 : items2[((i : Nat) : Int).toNat]? = none := by simp; omega
      rw [fin i u1 u2 (.inr (by omega))] at h
      rw [hi1, hi2]
      wp_walk using wpAny_loadPart' hl, wpAny_loadPart' hb
      exact h
theorem Zow (l b : Addr) (items items2 : Array Value) (n n2 : Nat) (dd dd2 : Option Addr) (sl sl2 : Array (Option Value)) {xs ys : List Int} (h1 : IntsAre items.toList xs) (h2 : IntsAre items2.toList ys) :
    Meets (Builtin.«list.__lt__» ⟨[.ref l, .ref b], []⟩)
      (fun A R s => s.heap.get? l = some { cls := .type "list", dict := dd, data := .seq items n, slots := sl } ∧ s.heap.get? b = some { cls := .type "list", dict := dd2, data := .seq items2 n2, slots := sl2 } ∧
        R (.ok (.ret (.bool (ltI xs ys)))) s) := by
  intro prog w A R s h
  obtain ⟨hp, g, d, tk, os⟩ := s; obtain ⟨hl, hb, h⟩ := h
  have f3 := AutoSeq1.sub_list_list
  wp_walk using wpAny_loadPart' hl, wpAny_loadPart' hb
  exact ⟨plainId_quiet plain_eq_loop _, codeAny_builtin entry_eq_loop (by
    rw [Around.under_plainId plain_eq_loop _]
    exact Zov l b items items2 n n2 dd dd2 sl sl2 h1 h2 _ 0 rfl (Nat.zero_le _) (Nat.zero_le _) prog w A R _ ⟨hl, hb, h⟩)⟩
section
variable {prog : Program} {w : World} {A : Around} {E : Value → Shared → Prop} {s : Shared}
theorem Zm8 {l b : Addr} {items items2 : Array Value} {xs ys : List Int} {Q : Bool → Shared → Prop} (hu : A.units < cLine) (hl : s.heap.IsList l items) (hb : s.heap.IsList b items2) (h1 : IntsAre items.toList xs) (h2 : IntsAre items2.toList ys) (h : Q (ltI xs ys) s) :
    wpAny (model prog w) A (oneLt' true (.ref l) (.ref b)) Q E s := by
  obtain ⟨⟨cls, dd, data, sl⟩, hl, hc, n, hd⟩ := hl
  obtain ⟨⟨cls2, dd2, data2, sl2⟩, hb, hc2, n2, hd2⟩ := hb
  simp only at hc hd hc2 hd2
  subst hc hd hc2 hd2
  rw [oneLt'_eq]
  simp only [if_true]
  refine wpAny_bind (wpAny_cRoomFor hu ?_)
  refine wpAny_bind (wpAny_callSpecialIfBound?_slot ⟨_, hl, rfl⟩ F.slot_list_lt (call_meets F.slot_list_lt ⟨_, hl, rfl⟩ F.entry_list_lt (F.args_list_lt_2 _ _) (Zow l b items items2 n n2 dd dd2 sl sl2 h1 h2) ⟨hl, hb, ?_⟩))
  exact wpAny_truthy_bool h
end
section
variable {prog : Program} {w : World} {A : Around} {E : Value → Shared → Prop} {s : Shared}
end
end L2
namespace L2
open PySem PySem.Spec PyProof.Rows PySem.W
noncomputable def sLay {α : Type} (d : α) (lt : Nat → Nat → Bool) (vs : List α) : List α := if vs.length < 2 then vs else (Zxn lt vs.length).map fun i => vs.getD i d
theorem Zn4 {α : Type} (d : α) (vs : List α) : ((List.range vs.length).map fun i => vs.getD i d) = vs := by
  refine List.ext_getElem? fun i => ?_
  rw [List.getElem?_map]
  by_cases c : i < vs.length
  · rw [List.getElem?_range c, List.getElem?_eq_getElem c]
    show some (vs.getD i d) = _
    rw [List.getD_eq_getElem?_getD, List.getElem?_eq_getElem c]; rfl
  · rw [List.getElem?_eq_none (by rw [List.length_range]; omega), List.getElem?_eq_none (by omega)]; rfl
theorem Zkh {α : Type} (d : α) (lt : Nat → Nat → Bool) (vs : List α) : (sLay d lt vs).Perm vs := by
  unfold sLay
  split
  · exact .refl _
  · have := (Zks (lt := lt) (n := vs.length) (by omega)).map fun i => vs.getD i d
    rwa [Zn4] at this
theorem Zqc {lt : Nat → Nat → Bool} {xs : List V} {us : List Value} (h : Vals xs us) : Vals (sLay .non lt xs) (sLay .none lt us) := by
  unfold sLay
  rw [h.length]
  split
  · exact h
  · generalize Zxn lt _ = l
    induction l with
    | nil => exact .nil
    | cons i l ih =>
      refine .cons ?_ ih
      show RelV (xs.getD i V.non) (us.getD i Value.none)
      rw [List.getD_eq_getElem?_getD, List.getD_eq_getElem?_getD]
      cases e : xs[i]? with
      | some x =>
        obtain ⟨u, e', r⟩ := h.get e
        rw [e']; exact r
      | none =>
        have : us[i]? = none := List.getElem?_eq_none (by rw [← h.length]; exact List.getElem?_eq_none_iff.mp e)
        rw [this]; exact rfl
section
variable {prog : Program} {w : World} {A : Around} {E : Value → Shared → Prop} {s : Shared}
theorem Znd {κ : SortKind} {lt : Nat → Nat → Bool} {h0 : Heap} {a : Addr} {vs : List Value} {n : Nat} {P : PySem.Fin → Shared → Prop} (ho : s.heap.get? a = some (seqObj "list" vs.toArray n))
    (k0 : ∀ b o, h0.get? b = some o → s.heap.get? b = some o) (ha0 : h0.get? a = none) (h64 : vs.length < 64)
    (hk : 2 ≤ vs.length → ∀ s' : Shared, (∀ b o, h0.get? b = some o → s'.heap.get? b = some o) → ∀ Q : SortKind → Shared → Prop, Q κ s' → wpAny (model prog w) A (keyKind' vs.toArray) Q E s')
    (hc : 2 ≤ vs.length → ∀ s' : Shared, (∀ b o, h0.get? b = some o → s'.heap.get? b = some o) → ∀ i j C, i < vs.length → j < vs.length → C (lt i j) s' → kas_ask prog w A κ vs i j C s')
    (h : P (.done (.ret .none)) { s with heap := sortedHeap s.heap a vs (List.toArray (sLay Value.none lt vs)) }) : wpAny (model prog w) A (Builtin.«list.sort» ⟨[.ref a], []⟩) P E s := by
  have ha : a < s.heap.objs.size := Heap.lt_size ho
  obtain ⟨e1, ho1⟩ : ∃ e1, (s.heap.update a (Obj.mapSeq fun _ => (#[] : Array Value))).get? a = some (seqObj "list" #[] e1) := ⟨_, get?_update_seq ho fun _ => #[]⟩
  have ho6 : (((s.heap.update a (Obj.mapSeq fun _ => (#[] : Array Value))).push (seqObj "tuple" vs.toArray 0)).push (seqObj "list" #[] 0)).get? a = some (seqObj "list" #[] e1) := Heap.get?_push_of_some _ (Heap.get?_push_of_some _ ho1)
  have k6 : ∀ b o, h0.get? b = some o → (((s.heap.update a (Obj.mapSeq fun _ => (#[] : Array Value))).push (seqObj "tuple" vs.toArray 0)).push (seqObj "list" #[] 0)).get? b = some o := fun b o e => by
    refine Heap.get?_push_of_some _ (Heap.get?_push_of_some _ ?_)
    rw [Heap.get?_update_ne _ _ _ _ (fun q => by rw [q, ha0] at e; cases e)]
    exact k0 b o e
  rw [list_sort_plain]
  refine wpAny_bind (listItems_at ho rfl ?_)
  refine wpAny_bind (listUpdate_at ho rfl ?_ (by rw [List.size_toArray, sizeLine_eq]; omega) (Nat.zero_le _))
  refine wpAny_bind (seqEpoch_at ho1 rfl ?_)
  refine wpAny_bind (wpAny_newTuple ?_ (by show vs.length ≤ _; rw [sizeLine_eq]; omega))
  refine wpAny_bind (wpAny_newList ?_ (Nat.zero_le _))
  refine wpAny_holding ?_
  show wpAny (model prog w) A _ P E { s with heap := ((s.heap.update a (Obj.mapSeq fun _ => (#[] : Array Value))).push (seqObj "tuple" vs.toArray 0)).push (seqObj "list" #[] 0) }
  dsimp only
  have hs : vs.toArray.size = vs.length := List.size_toArray ..
  by_cases h2 : vs.toArray.size < 2
  · have el : sLay Value.none lt vs = vs := if_pos (hs ▸ h2)
    rw [el] at h
    rw [if_pos h2, if_pos h2]
    refine wpAny_bind (wpAny_pure ?_)
    rw [StateT.run_pure]
    refine wpAny_bind (wpAny_pure ?_)
    dsimp only
    refine wpAny_bind (seqEpoch_at ho6 rfl ?_)
    have ez : ((vs.toArray.zip vs.toArray).map (·.2)) = vs.toArray := by
      apply Array.toList_inj.mp
      rw [Array.toList_map, Array.toList_zip, List.map_snd_zip (Nat.le_refl _)]
    show wpAny _ _ (Builtin.List.listUpdate _ (fun _ => (vs.toArray.zip vs.toArray).map (·.2)) >>= _) _ _ _
    rw [ez]
    refine wpAny_bind (listUpdate_at ho6 rfl ?_ (Nat.zero_le _) (by rw [hs, sizeLine_eq]; omega))
    simp only [bne_self_eq_false, Bool.false_eq_true, if_false]
    exact wpAny_pure h
  · rw [if_neg h2, if_neg h2]
    have h2' : 2 ≤ vs.length := by omega
    have el : sLay Value.none lt vs = (Zxn lt vs.length).map fun i => vs.getD i Value.none := if_neg (by omega)
    rw [el] at h
    refine wpAny_bind (hk h2' _ k6 _ ?_)
    have est : SortSt.mk' κ (vs.toArray.zip vs.toArray) #[] 7 none = kas_st κ (pairsOf vs) (List.toArray (List.range vs.length)) := by
      have e := kas_range (pairsOf vs)
      rw [pairsOf_size] at e
      show SortSt.mk' κ (pairsOf vs) #[] 7 none = SortSt.mk' κ ((List.toArray (List.range vs.length)).map (kas_item (pairsOf vs))) #[] 7 none
      rw [e]
    have run := kas_runs (prog := prog) (w := w) (A := A) (κ := κ) (it := pairsOf vs) (E := E) (s := { s with heap := ((s.heap.update a (Obj.mapSeq fun _ => (#[] : Array Value))).push (seqObj "tuple" vs.toArray 0)).push (seqObj "list" #[] 0) })
      (Q := fun _ st' s' => arrOf st' = (kEv lt (kas_sort vs.length)).map (kas_item (pairsOf vs)) ∧ failedOf st' = none ∧ s' = { s with heap := ((s.heap.update a (Obj.mapSeq fun _ => (#[] : Array Value))).push (seqObj "tuple" vs.toArray 0)).push (seqObj "list" #[] 0) })
      (G := fun p s' => p = kEv lt (kas_sort vs.length) ∧ s' = { s with heap := ((s.heap.update a (Obj.mapSeq fun _ => (#[] : Array Value))).push (seqObj "tuple" vs.toArray 0)).push (seqObj "list" #[] 0) })
      h2' h64 (fun p' st' s' _ a2 a3 a4 => ⟨a4.1 ▸ a2, a3, a4.2⟩) (by
        rw [← kas_ask_eq]
        exact (Zkp (n := vs.length) (by omega)).wp (hc h2' _ k6) ⟨rfl, rfl⟩)
    rw [← est] at run
    refine wpAny_bind (wpAny_mono run ?_ fun _ _ e => e)
    intro r s' z
    obtain ⟨har, hf, rfl⟩ := z
    have hout : (arrOf r.2).map (·.2) = List.toArray ((Zxn lt vs.length).map fun i => vs.getD i Value.none) := by
      apply Array.toList_inj.mp
      rw [har, Array.map_map, Array.toList_map]
      exact List.map_congr_left fun i _ => by show (kas_item (pairsOf vs) i).2 = _; rw [kas_item_eq]
    rw [hout]
    refine wpAny_bind (seqEpoch_at ho6 rfl ?_)
    refine wpAny_bind (listUpdate_at ho6 rfl ?_ (Nat.zero_le _) (by rw [List.size_toArray, List.length_map, (Zks (by omega)).length_eq, List.length_range, sizeLine_eq]; omega))
    rw [hf]
    simp only [bne_self_eq_false, Bool.false_eq_true, if_false]
    exact wpAny_pure h
theorem Zvq {κ : SortKind} {lt : Nat → Nat → Bool} {l : Addr} {vs : List Value} {Q : Value → Shared → Prop} (hl : s.heap.IsList l vs.toArray) (h64 : vs.length < 64)
    (hk : 2 ≤ vs.length → ∀ s' : Shared, (∀ b o, s.heap.get? b = some o → s'.heap.get? b = some o) → ∀ Q : SortKind → Shared → Prop, Q κ s' → wpAny (model prog w) A.in1.in1 (keyKind' vs.toArray) Q E s')
    (hc : 2 ≤ vs.length → ∀ s' : Shared, (∀ b o, s.heap.get? b = some o → s'.heap.get? b = some o) → ∀ i j C, i < vs.length → j < vs.length → C (lt i j) s' → kas_ask prog w A.in1.in1 κ vs i j C s')
    (h : Q (.ref (s.heap.objs.size + 1)) { s with heap := sortedAll s.heap vs (List.toArray (sLay Value.none lt vs)) }) : wpAny (model prog w) A (call (.builtin "sorted") [.ref l]) Q E s := by
  refine Calls.call_function_entry kind_sorted plain_sorted entry_sorted (args_sorted1 _) ?_
  unfold Builtin.«sorted»
  refine wpAny_bind (m := checkCount "sorted" 1 1 _) (wpAny_pure ?_)
  refine wpAny_bind (collect_list hl ?_ (by rw [sizeLine_eq]; omega))
  refine wpAny_bind (wpAny_newList ?_ (by rw [sizeLine_eq]; omega))
  have hsz : ((s.heap.push (seqObj "list" #[] 0)).update s.heap.objs.size (Obj.mapSeq (· ++ vs.toArray))).objs.size = s.heap.objs.size + 1 := by
    rw [Heap.size_update, size_push']
  have hoL : (((s.heap.push (seqObj "list" #[] 0)).update s.heap.objs.size (Obj.mapSeq (· ++ vs.toArray))).push (seqObj "list" vs.toArray 0)).get? (s.heap.objs.size + 1) = some (seqObj "list" vs.toArray 0) := by
    rw [← hsz]; exact Heap.get?_push_size _ rfl
  have keep : ∀ b o, s.heap.get? b = some o → (((s.heap.push (seqObj "list" #[] 0)).update s.heap.objs.size (Obj.mapSeq (· ++ vs.toArray))).push (seqObj "list" vs.toArray 0)).get? b = some o := fun b o q => by
    have hlt : b < s.heap.objs.size := Heap.lt_size q
    rw [Heap.get?_push_ne _ _ _ (by rw [hsz]; exact Nat.ne_of_lt (Nat.lt_succ_of_lt hlt)), Heap.get?_update_ne _ _ _ _ (Nat.ne_of_lt hlt), Heap.get?_push_ne _ _ _ (Nat.ne_of_lt hlt)]
    exact q
  show wpAny _ _ _ _ _ { s with heap := ((s.heap.push (seqObj "list" #[] 0)).update s.heap.objs.size (Obj.mapSeq (· ++ vs.toArray))).push (seqObj "list" vs.toArray 0) }
  rw [hsz]
  refine wpAny_bind (wpAny_holding (wpAny_call_entry slot_list_sort ⟨_, hoL, rfl⟩ entry_list_sort (Znd (h0 := s.heap) hoL keep (Heap.get?_none_of_le (Nat.le_succ _)) h64 hk hc ⟨_, rfl, ?_⟩) (args_list_sort _)))
  exact wpAny_pure ⟨_, rfl, h⟩
end
end L2
namespace L2
open PySem PySem.Spec PyProof.Rows PySem.W
variable {G : PySem.W.Frag}
structure Z6c {α : Type} (kd : PyData → Option α) (lt : α → α → Bool) : Prop where
  lay : ∀ d k, kd d = some k → d.canLay0 = true
  run : ∃ κ : SortKind, (∀ (prog : Program) (w : World) (A : Around) (E : Value → Shared → Prop) (s : Shared) (vs : List Value) (ds : List PyData) (as : List Addr) (Q : SortKind → Shared → Prop), 2 ≤ vs.length → ReadsAll s.heap vs ds as → (∀ d ∈ ds, ∃ k, kd d = some k) → Q κ s → wpAny (model prog w) A (keyKind' vs.toArray) Q E s) ∧
    ∀ (prog : Program) (w : World) (A : Around) (E : Value → Shared → Prop) (s : Shared) (u v : Value) (d e : PyData) (as bs : List Addr) (k m : α) (C : Bool → Shared → Prop), A.units + 32 < cLine → Reads s.heap u d as → Reads s.heap v e bs → kd d = some k → kd e = some m → C (lt k m) s → wpAny (model prog w) A (keyLt' κ u v) C E s
theorem readsAll_ints {h : Heap} (ns : List Int) {vs : List Value} {as : List Addr} (r : ReadsAll h vs (ns.map PyData.int) as) : IntsAre vs ns := by
  induction ns generalizing vs as with
  | nil => cases r; exact .nil
  | cons n ns ih =>
    cases r with
    | cons r q =>
      cases r
      exact .cons _ _ (ih q)
theorem Zfy {h : Heap} {ns : List Int} {u : Value} {as : List Addr} (r : Reads h u (.list (ns.map PyData.int)) as) : ∃ a items, u = .ref a ∧ h.IsList a items ∧ IntsAre items.toList ns := by
  cases r with
  | list e c d q => exact ⟨_, _, rfl, ⟨_, e, c, _, d⟩, readsAll_ints ns q⟩
theorem readsAll_get {h : Heap} {vs : List Value} {ds : List PyData} {as : List Addr} (r : ReadsAll h vs ds as) : vs.length = ds.length ∧ ∀ (i : Nat) d, ds[i]? = some d → ∃ v bs, vs[i]? = some v ∧ Reads h v d bs := by
  induction ds generalizing vs as with
  | nil => cases r; exact ⟨rfl, fun i d e => by rw [List.getElem?_nil] at e; cases e⟩
  | cons d ds ih =>
    cases r with
    | cons r q =>
      obtain ⟨z1, z2⟩ := ih q
      refine ⟨congrArg Nat.succ z1, fun i e he => ?_⟩
      cases i with
      | zero => cases he; exact ⟨_, _, rfl, r⟩
      | succ i => exact z2 i e he
theorem lay_ints (ns : List Int) : Sh 1 (.list (ns.map PyData.int)) := Zi9 fun d m => by
  obtain ⟨x, _, rfl⟩ := List.mem_map.mp m
  exact Zqr x
theorem Zqh (ns : List Int) : Sh 1 (.tuple (ns.map PyData.int)) := Zo9 fun d m => by
  obtain ⟨x, _, rfl⟩ := List.mem_map.mp m
  exact Zqr x
theorem Znj {M : Model} {h : Heap} {a : Addr} {items : Array Value} (e : h.IsList a items) : Looks M h (typeOf (.ref a)) (.type "list") := by
  obtain ⟨o, e, c, _⟩ := e
  have : Looks M h (typeOf (.ref a)) o.cls := (Looks.ld e).andThen .now
  rwa [c] at this
noncomputable def kdL : PyData → Option (List Int) := fun d => match d with | .list es => Zhv es | _ => none
theorem Zgo {d : PyData} {k : List Int} (h : kdL d = some k) : d = .list (k.map PyData.int) := by
  cases d with
  | list es => exact congrArg PyData.list (Zgn h)
  | _ => cases h
theorem Zpx {h : Heap} {vs : List Value} {ds : List PyData} {as : List Addr} (r : ReadsAll h vs ds as) {v : Value} (hv : v ∈ vs) : ∃ d ∈ ds, ∃ bs, Reads h v d bs := by
  obtain ⟨i, hi⟩ := List.getElem?_of_mem hv
  obtain ⟨z1, z2⟩ := readsAll_get r
  have c : i < ds.length := z1 ▸ (List.getElem?_eq_some_iff.mp hi).1
  obtain ⟨v', bs, e, q⟩ := z2 i _ (List.getElem?_eq_getElem c)
  rw [hi] at e
  cases e
  exact ⟨_, List.getElem_mem c, bs, q⟩
theorem Zzs : Z6c kdL ltI := by
  refine ⟨fun d k h => by rw [Zgo h]; exact (lay_ints k).1, oneType', fun prog w A E s vs ds as Q h2 r hk q => kas_kind (T := .type "list") h2 (fun v hv => ?_) rfl rfl q, fun prog w A E s u v d e as bs k m C hu r1 r2 h1 h2 h => ?_⟩
  · obtain ⟨d, hd, bs, z⟩ := Zpx r hv
    obtain ⟨k, hk⟩ := hk d hd
    rw [Zgo hk] at z
    obtain ⟨a, items, rfl, e, _⟩ := Zfy z
    exact Znj e
  · rw [Zgo h1] at r1
    rw [Zgo h2] at r2
    obtain ⟨a, i1, rfl, e1, z1⟩ := Zfy r1
    obtain ⟨b, i2, rfl, e2, z2⟩ := Zfy r2
    rw [keyLt'_oneType]
    exact Zm8 (by omega) e1 e2 z1 z2 h
end L2
namespace L2
open PySem PySem.Spec PyProof.Rows PySem.W
variable {G : PySem.W.Frag}
noncomputable def lk {α : Type} (kd : PyData → Option α) (lt : α → α → Bool) (es : List PyData) : Nat → Nat → Bool := fun i j => ((kd (es.getD i .none)).bind fun a => (kd (es.getD j .none)).map fun b => lt a b).getD false
noncomputable def keyed {α : Type} (kd : PyData → Option α) (es : List PyData) : Prop := ∀ d ∈ es, ∃ k, kd d = some k
theorem Zno {es : List PyData} (h : ∀ d ∈ es, d.canLay0 = true) : PyData.canLayAll0 es = true := by
  induction es with
  | nil => rw [PyData.canLayAll0]
  | cons d es ih => rw [PyData.canLayAll0, h d (.head _), ih fun d m => h d (.tail _ m)]; rfl
theorem Das.sLay {H : Hp} {L : Addr → Prop} {lt : Nat → Nat → Bool} {xs : List V} {ds : List PyData} (h : Das G H L xs ds) : Das G H L (L2.sLay .non lt xs) (L2.sLay .none lt ds) := by
  unfold L2.sLay
  rw [h.length]
  split
  · exact h
  · generalize Zxn lt _ = l
    induction l with
    | nil => exact .nil
    | cons i l ih =>
      refine .cons ?_ ih
      show Da G H L (xs.getD i .non) (ds.getD i .none)
      rw [List.getD_eq_getElem?_getD, List.getD_eq_getElem?_getD]
      cases e : xs[i]? with
      | some x =>
        obtain ⟨u, e', r⟩ := h.get' e
        rw [e']; exact r
      | none =>
        have : ds[i]? = none := List.getElem?_eq_none (by rw [← h.length]; exact List.getElem?_eq_none_iff.mp e)
        rw [this]; exact .non
noncomputable def Zui {α : Type} (kd : PyData → Option α) (lt : α → α → Bool) (K : PySem.W.Frag) : List V → Hp → VK → Prop := fun xs H Q => ∃ (a : Addr) (vs : List V) (L : Addr → Prop) (es : List PyData), xs = [.ref a] ∧ SqL K H a vs ∧ Das K H L vs es ∧ vs.length < 64 ∧ keyed kd es ∧ ∀ l, H l = none → Q (.ref l) (upd H l (.lst (sLay .non (lk kd lt es) vs)))
section
variable {X : Cx} {α : Type} {kd : PyData → Option α} {lt : α → α → Bool}
theorem Zny {K : PySem.W.Frag} (S : Z6c kd lt) (hK : X.K = K) (hu : X.A.units + 64 < cLine) : Zfq X (.builtin "sorted") (Zui kd lt K) := by
  subst hK
  intro pins s σ H xs us Q I r h
  obtain ⟨l, vs, L, es, rfl, hs, hd, h64, hk, q⟩ := h
  obtain ⟨u, rfl, ru⟩ := vals1 r
  cases (show u = Value.ref l from ru)
  obtain ⟨its, rv, pl, hz⟩ := I.list hs
  have hl := rv.length
  obtain ⟨as, ra⟩ := hd.reads rfl I rv (Zno fun d m => by obtain ⟨k, e⟩ := hk d m; exact S.lay d k e)
  obtain ⟨κ, S1, S2⟩ := S.run
  obtain ⟨z1, z2⟩ := readsAll_get ra
  refine Zvq (κ := κ) (lt := lk kd lt es) pl.isList (by omega) (fun h2 s' k Q q => S1 _ _ _ _ s' _ es as Q h2 (ReadsAll.keeps k ra) hk q) (fun h2 s' k i j C hi hj hc => ?_) ?_
  · rw [z1] at hi hj
    obtain ⟨v, b1, e1, r1⟩ := z2 i _ (List.getElem?_eq_getElem hi)
    obtain ⟨w, b2, e2, r2⟩ := z2 j _ (List.getElem?_eq_getElem hj)
    obtain ⟨k1, q1⟩ := hk _ (List.getElem_mem hi)
    obtain ⟨k2, q2⟩ := hk _ (List.getElem_mem hj)
    have ek : lk kd lt es i j = lt k1 k2 := by
      unfold lk
      rw [List.getD_eq_getElem?_getD, List.getD_eq_getElem?_getD, List.getElem?_eq_getElem hi, List.getElem?_eq_getElem hj]
      show ((kd es[i]).bind fun a => (kd es[j]).map fun b => lt a b).getD false = _
      rw [q1, q2]; rfl
    rw [ek] at hc
    unfold kas_ask
    rw [List.getD_eq_getElem?_getD, List.getD_eq_getElem?_getD, e1, e2]
    exact S2 _ _ _ _ s' v w _ _ _ _ k1 k2 C (show X.A.units + 1 + 1 + 32 < cLine by omega) (Reads.keeps k r1) (Reads.keeps k r2) q1 q2 hc
  · obtain ⟨e, he⟩ := sortedAll_at s.heap its (List.toArray (sLay Value.none (lk kd lt es) its))
    refine ⟨.ref (s.heap.objs.size + 1), _, I.laid (t' := s.toks) (o := .lst (sLay .non (lk kd lt es) vs)) (fun b ob q => sortedAll_old q) (by omega) ⟨?_, sLay Value.none (lk kd lt es) its, e, Zqc rv, he⟩, rfl, q _ (I.hok.fresh (by omega))⟩
    rw [(Zkh _ _ _).length_eq, sizeLine_eq]; omega
noncomputable def Ztq (kd : PyData → Option α) (lt : α → α → Bool) : List PyData → (OT → Prop) → Prop := fun ds k => n1 (fun d => ∃ es : List PyData, d = .list es ∧ es.length < 64 ∧ keyed kd es ∧ k (.nd ((sLay .none (lk kd lt es) es).map OT.fz))) ds
theorem Zs8 : PN G (Zui kd lt G) (Ztq kd lt) := fun H L xs ds k Q hx h kk => by
  obtain ⟨v, d, rfl, rfl, q, es, e, h64, hk, h⟩ := hx.one h
  have fin : ∀ (vs : List V) (p : Addr), Das G H L vs es → H p = none → Q (.ref p) (upd H p (.lst (sLay .non (lk kd lt es) vs))) := fun vs p hv hp => kk _ _ _ [p] (Wi hp _) (Own.list hp hv.sLay) (Zg4 p) (Zel hp) h
  subst e
  generalize ed : PyData.list es = d at q
  cases q with
  | lst l e r =>
    cases ed
    exact ⟨_, _, L, es, rfl, .inl e, r, by rw [r.length]; exact h64, hk, fun p hp => fin _ p r hp⟩
  | scr ks =>
    cases ed
    exact ⟨_, _, L, _, rfl, ks.sq, Das.ints _, by rw [(Das.ints (G := G) (H := H) (L := L) _).length]; exact h64, hk, fun p hp => fin _ p (Das.ints _) hp⟩
  | _ => cases ed
noncomputable def Zm3 (kd : PyData → Option α) (lt : α → α → Bool) : List PyData → Option OT := fun ds => match ds with | [.list es] => if (decide (es.length < 64) && es.all fun d => (kd d).isSome) = true then some (.nd ((sLay .none (lk kd lt es) es).map OT.fz)) else none | _ => none
theorem Zxk : ∀ ds r k, Zm3 kd lt ds = some r → k r → Ztq kd lt ds k := fun ds r k h hk => by
  unfold Zm3 at h
  split at h
  case h_2 => cases h
  split at h
  case isFalse => cases h
  rename_i h2
  rw [Bool.and_eq_true] at h2
  cases h
  exact ⟨_, rfl, of_decide_eq_true h2.1, fun d m => Option.isSome_iff_exists.mp (List.all_eq_true.mp h2.2 d m), hk⟩
end
end L2
namespace L2
open PySem PySem.Spec PyProof.Rows
variable {G : PySem.W.Frag}
noncomputable def Zra : List Int → Int
  | [] => 0
  | x :: xs => xs.foldl max x
theorem Zpr (xs : List Int) (x : Int) : xs.foldl max x ∈ x :: xs ∧ ∀ a ∈ x :: xs, a ≤ xs.foldl max x := by
  induction xs generalizing x with
  | nil => exact ⟨.head _, fun a h => by rw [List.mem_singleton.mp h]; exact Int.le_refl _⟩
  | cons y ys ih =>
    obtain ⟨h1, h2⟩ := ih (max x y)
    rw [List.foldl_cons]
    refine ⟨?_, fun a h => ?_⟩
    · rcases List.mem_cons.mp h1 with h | h
      · rw [h]
        rcases Int.le_total x y with z | z
        · rw [Int.max_eq_right z]; exact .tail _ (.head _)
        · rw [Int.max_eq_left z]; exact .head _
      · exact .tail _ (.tail _ h)
    · have h0 := h2 _ (.head _)
      rcases List.mem_cons.mp h with rfl | h
      · exact Int.le_trans (Int.le_max_left ..) h0
      · rcases List.mem_cons.mp h with rfl | h
        · exact Int.le_trans (Int.le_max_right ..) h0
        · exact h2 a (.tail _ h)
theorem Zjv {ns : List Int} (h : 0 < ns.length) : Zra ns ∈ ns ∧ ∀ a ∈ ns, a ≤ Zra ns := by
  cases ns with
  | nil => cases h
  | cons x xs => exact Zpr xs x
end L2
namespace L2
open PySem PySem.Spec PyProof.Rows
noncomputable def Itd (lo : Int) (n : Nat) : It := ⟨fun i _ => i < n, fun i H x H' => H' = H ∧ x = .int (lo - i), fun i _ => n ≤ i⟩
theorem Zo4 {P : Program} {w : World} {K : PySem.W.Frag} {tg : Expr} (it : Addr) (lo : Int) (n : Nat) : Turn P w K tg (Itd lo n) [it] it (fun i h => IsRangeIter h it (lo + (i : Nat) * (-1)) ((n : Int) - (i : Nat)) (-1)) where
  mem := by simp
  obj := fun i h st b hb => by
    have e : b = it := by simpa using hb
    subst e
    exact ⟨_, st, fun v z => by
      have z' : Data.fields _ = Data.cell v := z
      cases z'⟩
  keep := fun i h h' st k => k it (by simp) _ st
  item := by
    intro X hP hw hK hc i pins s σ H E I hf st hg
    subst hP hw hK
    obtain ⟨f0, f1, f2, f3, f4, f5⟩ := hf it (by simp)
    have W := Walks.range (prog := X.prog) (w := X.w) (I.ok.hd hc) it lo (-1) n
    refine W.item i s _ _ hg st fun v h' tk hv st' kk => ?_
    obtain ⟨t, rfl⟩ := hv
    have I1 : Inv X pins σ H { s with heap := h', toks := tk } := I.turned (fun b o hb e => kk b o (by simpa using hb) e) f0 f1 f3 f4 f5
    refine ⟨_, rfl, Zvb (s := { s with heap := h', toks := tk }) (n := "range_iterator") st' rfl rfl (by decide) ⟨.int (lo - i), H, I1, ⟨t, ?_⟩, ⟨rfl, rfl⟩, st', fun b hb => (hf b hb).1⟩⟩
    rw [Int.mul_neg, Int.mul_one]; rfl
  done := by
    intro X hP hw hK hc i pins s σ H E I hf st hg
    subst hP hw hK
    obtain ⟨f0, f1, f2, f3, f4, f5⟩ := hf it (by simp)
    exact wpAny_pyNext_range_end (I.ok.hd hc) st (by have : n ≤ i := hg; omega) fun h' eb => ⟨rfl, I.turned (t' := s.toks) (fun b o hb e => eb b o hb e) f0 f1 f3 f4 f5⟩
  self := fun _ _ _ _ _ st h => wpAny_pyIter_rangeiter st h
theorem rangeSize_down (a b : Int) : Builtin.Range.rangeSize a b (-1) = if b < a then a - b else 0 := by
  unfold Builtin.Range.rangeSize
  simp only [show ¬ ((-1 : Int) > 0) by decide, if_false, Int.neg_neg, Int.ediv_one]
  split <;> omega
theorem small_down {a b : Int} (ha : -(2 ^ 62) ≤ a) (ha' : a < 2 ^ 62) (hb : -(2 ^ 62) ≤ b) (hb' : b < 2 ^ 62) : Builtin.Range.small a b (-1) = true := by
  unfold Builtin.Range.small
  rw [rangeSize_down]
  simp only [Builtin.Range.rangeFitsLong, Bool.and_eq_true, Bool.or_eq_true, decide_eq_true_eq, beq_iff_eq, show ¬ ((-1 : Int) > 0) by decide, if_false]
  split <;> omega
section
variable {X : Cx} {tg : Expr} {io : List Nat} {p c : Bool} {a b d e : Expr} {mr : MAt} {ra : FA}
theorem Zo1 {pins : List (Addr × Obj)} {σ : St} {H : Hp} {s : Shared} {R : It → Hp → Prop} {E : Value → Shared → Prop} {lo hi : Int} {t u v : Tok} {tk : Nat} (I : Inv X pins σ H s) (h1 : -(2 ^ 62) ≤ lo) (h2 : lo < 2 ^ 62) (h3 : -(2 ^ 62) ≤ hi) (h4 : hi < 2 ^ 62)
    (q : R (Itd lo (lo - hi).toNat) H) : wpAny (model X.prog X.w) X.A (pyIter (.ref s.heap.objs.size)) (PIE X pins σ tg R) E { s with heap := s.heap.push { cls := .type "range", data := .fields #[.int lo t, .int hi u, .int (-1) v] }, toks := tk } := by
  refine wpAny_pyIter_range (IsRange.new ..) (small_down h1 h2 h3 h4) ?_
  have I1 : Inv X pins σ H { s with heap := s.heap.push { cls := .type "range", data := .fields #[.int lo t, .int hi u, .int (-1) v] }, toks := tk } := I.kept fun b o e => Heap.get?_push_of_some _ e
  refine ⟨(s.heap.push { cls := .type "range", data := .fields #[.int lo t, .int hi u, .int (-1) v] }).objs.size, [(s.heap.push { cls := .type "range", data := .fields #[.int lo t, .int hi u, .int (-1) v] }).objs.size], _, _, H, rfl,
    I1.kept (t' := tk) fun b o e => Heap.get?_push_of_some _ e, Zo4 _ lo (lo - hi).toNat, ?_, fun b hb => ?_, q⟩
  · have e1 : lo + ((0 : Nat) : Int) * (-1) = lo := by simp
    have e2 : (((lo - hi).toNat : Nat) : Int) - ((0 : Nat) : Int) = Builtin.Range.rangeSize lo hi (-1) := by rw [rangeSize_down]; split <;> omega
    show IsRangeIter _ _ (lo + ((0 : Nat) : Int) * (-1)) ((((lo - hi).toNat : Nat) : Int) - ((0 : Nat) : Int)) (-1)
    rw [e1, e2]
    exact Heap.get?_push_size _ rfl
  · have e : b = (s.heap.push { cls := .type "range", data := .fields #[.int lo t, .int hi u, .int (-1) v] }).objs.size := by simpa using hb
    subst e
    exact I1.fpOk (Nat.le_refl _) (I1.hok.fresh (Nat.le_refl _))
noncomputable def Z3y (ta : TA) : TI := fun σ H R => ta σ H fun vs H1 => ∃ i j : Int, vs = [.int i, .int j, .int (-1)] ∧ (-(2 ^ 62) ≤ i ∧ i < 2 ^ 62 ∧ -(2 ^ 62) ≤ j ∧ j < 2 ^ 62) ∧ R (Itd i (i - j).toNat) H1
theorem Zqi {ta : TA} {p pos : Pos} (hg : Gl X "range") (hm : X.mg "range" = none) (ha : PA X [a, b, d] ta) (hs : starEach [a, b, d] X.env = [(false, eval a X.env), (false, eval b X.env), (false, eval d X.env)] := by rfl) (hs2 : starEach [b, d] X.env = [(false, eval b X.env), (false, eval d X.env)] := by rfl) :
    PI X tg (.Call (.Name "range" p) [a, b, d] [] pos) (Z3y ta) := by
  intro pins s σ H R I h
  refine Call_ (Zgc I hg hm boot_range (PyProof.Rows.callWith_type1 (thn (ha pos pins s σ H _ I h) fun us s1 qz => ?_) (by rw [hs, hs2]) (by rw [hs2]; rfl)))
  obtain ⟨vs, H1, I1, r1, q1⟩ := qz
  obtain ⟨i, j, e, ⟨q1, q2, q3, q4⟩, q⟩ := q1
  subst e
  cases r1 with
  | cons r rr =>
    cases rr with
    | cons r' rr =>
      cases rr with
      | cons r'' rr =>
        cases rr
        obtain ⟨t, rfl⟩ := r
        obtain ⟨t', rfl⟩ := r'
        obtain ⟨t'', rfl⟩ := r''
        exact call_range_3 (by decide) (Zo1 I1 q1 q2 q3 q4 q) (.inl (PyProof.noPylong_small (by decide)))
noncomputable def Zpy (lo : Int) (n : Nat) : List PyData := (List.range n).map fun i => .int (lo - (i : Nat))
theorem Zmq {lo : Int} {n i : Nat} {d : PyData} (h : (Zpy lo n)[i]? = some d) : i < n ∧ d = .int (lo - (i : Nat)) := by
  have hi : i < n := by
    have := (List.getElem?_eq_some_iff.mp h).1
    simpa [Zpy] using this
  unfold Zpy at h
  rw [List.getElem?_map, List.getElem?_range hi] at h
  cases h
  exact ⟨hi, rfl⟩
theorem Zrw {G : PySem.W.Frag} {C : MC G} {fp : Fp} {ex : Addr → Prop} {H1 : Hp} {lo : Int} {n : Nat} : IterOk C fp ex H1 true (Itd lo n) (Zpy lo n) := fun H' _ i => by
  refine ⟨fun d hd => ?_, fun hd => ?_⟩
  · obtain ⟨hi, rfl⟩ := Zmq hd
    refine ⟨hi, fun x H'' hy => ?_⟩
    obtain ⟨rfl, rfl⟩ := hy
    exact ⟨Same.refl _, .int _⟩
  · have := List.getElem?_eq_none_iff.mp hd
    show n ≤ i
    simpa [Zpy] using this
noncomputable def iR3 (mr : MAt) : MIt := fun δ K => mr δ fun rs δ' => ∃ i j : Int, OT.datas rs = [.int i, .int j, .int (-1)] ∧ (-(2 ^ 62) ≤ i ∧ i < 2 ^ 62 ∧ -(2 ^ 62) ≤ j ∧ j < 2 ^ 62) ∧ K (Zpy i (i - j).toNat) δ'
theorem Zox {p' pos : Pos} (hg : Gl X "range") (hm : X.mg "range" = none) (ha : MA X io p c [a, b, d] mr) (hs : starEach [a, b, d] X.env = [(false, eval a X.env), (false, eval b X.env), (false, eval d X.env)] := by rfl) (hs2 : starEach [b, d] X.env = [(false, eval b X.env), (false, eval d X.env)] := by rfl) : MI X io p true tg (.Call (.Name "range" p') [a, b, d] [] pos) (iR3 mr) := by
  obtain ⟨_, A, s⟩ := ha
  exact ⟨_, Zqi hg hm A hs hs2, fun C H σ δ fp ex K' Q R h kk => s C H σ δ fp ex _ _ R h fun H1 vs rs δ1 fp1 new r1 h1 => by
    have q := r1.das R
    obtain ⟨i, j, e, h1, h2⟩ := h1
    rw [e] at q
    cases q with
    | cons q1 q2 =>
      cases q1
      cases q2 with
      | cons q2 q3 =>
        cases q2
        cases q3 with
        | cons q3 q4 =>
          cases q3
          cases q4
          exact ⟨_, _, rfl, h1, kk _ H1 _ δ1 fp1 r1.base r1.stp Zrw h2⟩⟩
noncomputable def dn3 (ds : List PyData) : Option (Int × Int) := match ds with | [.int i, .int j, .int k] => if k = -1 ∧ rOk i = true ∧ rOk j = true then some (i, j) else none | _ => none
noncomputable def iRc (a : FA) : FI := fun δ => (a δ).bind fun p => (dn3 (OT.datas p.1)).bind fun ij => some (Zpy ij.1 (ij.1 - ij.2).toNat, p.2)
theorem Zxx {ds : List PyData} {ij : Int × Int} (h : dn3 ds = some ij) : ds = [.int ij.1, .int ij.2, .int (-1)] ∧ rOk ij.1 = true ∧ rOk ij.2 = true := by
  unfold dn3 at h
  split at h
  case h_2 => cases h
  split at h
  · rename_i c; cases h; exact ⟨by rw [c.1], c.2.1, c.2.2⟩
  · cases h
theorem Z35 (h : MI X io p c tg e (iR3 (o2 ra))) : MI X io p c tg e (o2 (iRc ra)) := h.weak fun δ K h => by
  obtain ⟨r, δ', h, k⟩ := h
  obtain ⟨⟨x, δ1⟩, h1, h⟩ := bs h
  refine ⟨x, δ1, h1, ?_⟩
  obtain ⟨ij, h2, h3⟩ := bs h
  obtain ⟨e, a1, a2⟩ := Zxx h2
  cases h3
  have b1 := Zdz a1
  have b2 := Zdz a2
  exact ⟨ij.1, ij.2, e, ⟨b1.1, b1.2, b2.1, b2.2⟩, k⟩
end
end L2
namespace L2
open PySem PySem.Spec PyProof.Rows
section
variable {prog : Program} {w : World} {A : Around} {R : Result → Shared → Prop} {I : Addr} {fp wr : List Addr} {n : Nat} {P : Nat → Value → Prop} {St : Nat → Heap → Prop}
theorem Zir : (toString "max" ++ toString ".loop" : String) = "max.loop" := by decide
theorem Zgx {S : Addr} {dv : Value} {s : Shared} {its : Array Value} {c : Nat} (gS : s.heap.get? S = some ⟨.type "list", none, .seq its c, #[]⟩)
    (h : ∀ b : Builtin, b = Builtin.«max.loop» → wpAny (model prog w) A.in1 (b ⟨[.ref I, .none, .ref S], [("default", dv)]⟩) (fun fin s' => match fin with | .done f => R (.ok f) s' | .again c' => c'.quiet = true ∧ codeAny (model prog w) A c' R s') (fun e s' => R (.error e) s') s) :
    codeAny (model prog w) A (.builtin "max.loop" ⟨[.ref I, .none, .ref S], [("default", dv)]⟩) R s := by
  refine codeAny_builtin F.entry_max_loop ?_; rw [Around.under_plainId F.plain_max_loop _]
  exact h _ rfl
theorem Zoc (W : Walks prog w A.in1 I fp wr n P St) (bt : Nat → Nat → Bool) (cm : CmpOf prog w A.in1 .Gt P bt) (S : Addr) (sf : S ∉ fp) (dv : Value) :
    ∀ (k j : Nat) (s : Shared) (vb : Value) (c : Nat), n - (j + 1) = k → j + 1 ≤ n → St (j + 1) s.heap → P (argBest bt j) vb → s.heap.get? S = some ⟨.type "list", none, .seq #[vb, vb] c, #[]⟩ →
    (∀ v h' tk, P (argBest bt (n - 1)) v → (∀ b o, b ∉ wr → b ≠ S → s.heap.get? b = some o → h'.get? b = some o) → R (.ok (.ret v)) { s with heap := h', toks := tk }) →
    codeAny (model prog w) A (.builtin "max.loop" ⟨[.ref I, .none, .ref S], [("default", dv)]⟩) R s := by
  have sw : S ∉ wr := fun h => sf (W.sub _ h)
  intro k
  induction k with
  | zero =>
    intro j s vb c ek ej st pb gS r
    have en : j + 1 = n := by omega
    refine Zgx gS fun b eb => ?_
    subst eb
    show wpAny _ A.in1 (seqItems? (.ref S) >>= _) _ _ _
    refine wpAny_bind (wpAny_seqItems gS rfl ?_)
    show wpAny _ A.in1 (tryCatch (pyNext (.ref I)) _ >>= _) _ _ _
    refine wpAny_bind (wpAny_tryCatch (W.done s _ _ (en ▸ st) fun h' tk kp => ?_))
    have gS' := kp S _ sw gS
    show wpAny _ A.in1 (updateSeq S (fun _ => #[]) >>= _) _ _ { s with heap := h', toks := tk }
    refine wpAny_bind (wpAny_updateSeq gS' rfl (wpAny_bind (wpAny_letGo (wpAny_pure ?_))))
    exact r vb _ tk (by rw [← en]; exact pb) fun b o nb nS e => (Heap.get?_update_other _ _ (Ne.symm nS)).trans (kp b o nb e)
  | succ k ih =>
    intro j s vb c ek ej st pb gS r
    have lt : j + 1 < n := by omega
    refine Zgx gS fun b eb => ?_
    subst eb
    show wpAny _ A.in1 (seqItems? (.ref S) >>= _) _ _ _
    refine wpAny_bind (wpAny_seqItems gS rfl ?_)
    show wpAny _ A.in1 (tryCatch (pyNext (.ref I)) _ >>= _) _ _ _
    refine wpAny_bind (wpAny_tryCatch (W.item (j + 1) s _ _ lt st fun v h' tk pv st' kp => ?_))
    have gS' := kp S _ sw gS
    show wpAny _ A.in1 (tryCatch (holding [v, v] (richCompare .Gt v vb >>= _)) _ >>= _) _ _ { s with heap := h', toks := tk }
    refine wpAny_bind (wpAny_tryCatch (wpAny_holding (wpAny_bind (cm (j + 1) (argBest bt j) v vb _ _ _ pv pb (wpAny_bind (wpAny_holding (wpAny_truthy_bool (wpAny_bind (wpAny_letGo (wpAny_pure ?_))))))))))
    cases eb : bt (j + 1) (argBest bt j) with
    | true =>
      simp only [if_true]
      refine wpAny_bind (wpAny_updateSeq gS' rfl (wpAny_bind (wpAny_letGo ?_)))
      rw [Zir]
      refine wpAny_pure ⟨plainId_quiet F.plain_max_loop _, ih (j + 1) _ v _ (by omega) lt (W.frame _ _ _ st' fun b bf o e => (Heap.get?_update_other _ _ (fun h : S = b => sf (by rw [h]; exact bf))).trans e) (by simp only [argBest, eb, if_true]; exact pv) (Heap.get?_update_self _ gS' rfl) fun v' h2 tk2 pv' kp2 => ?_⟩
      exact r v' h2 tk2 pv' fun b o nb nS e => kp2 b o nb nS ((Heap.get?_update_other _ _ (Ne.symm nS)).trans (kp b o nb e))
    | false =>
      simp only [Bool.false_eq_true, if_false]
      refine wpAny_bind (wpAny_letGo ?_)
      rw [Zir]
      exact wpAny_pure ⟨plainId_quiet F.plain_max_loop _, ih (j + 1) _ vb c (by omega) lt st' (by simp only [argBest, eb, Bool.false_eq_true, if_false]; exact pb) gS' fun v' h2 tk2 pv' kp2 => r v' h2 tk2 pv' fun b o nb nS e => kp2 b o nb nS (kp b o nb e)⟩
theorem Zn1 (W : Walks prog w A.in1 I fp wr n P St) (bt : Nat → Nat → Bool) (cm : CmpOf prog w A.in1 .Gt P bt) (S : Addr) (sf : S ∉ fp) (dv : Value) {s : Shared} {c : Nat} (st : St 0 s.heap) (gS : s.heap.get? S = some ⟨.type "list", none, .seq #[] c, #[]⟩)
    (r0 : n = 0 → ∀ h' tk, (∀ b o, b ∉ wr → b ≠ S → s.heap.get? b = some o → h'.get? b = some o) → R (.ok (.ret dv)) { s with heap := h', toks := tk })
    (r : 0 < n → ∀ v h' tk, P (argBest bt (n - 1)) v → (∀ b o, b ∉ wr → b ≠ S → s.heap.get? b = some o → h'.get? b = some o) → R (.ok (.ret v)) { s with heap := h', toks := tk }) :
    codeAny (model prog w) A (.builtin "max.loop" ⟨[.ref I, .none, .ref S], [("default", dv)]⟩) R s := by
  have sw : S ∉ wr := fun h => sf (W.sub _ h)
  refine Zgx gS fun b eb => ?_
  subst eb
  show wpAny _ A.in1 (seqItems? (.ref S) >>= _) _ _ _
  refine wpAny_bind (wpAny_seqItems gS rfl ?_)
  show wpAny _ A.in1 (tryCatch (pyNext (.ref I)) _ >>= _) _ _ _
  rcases Nat.eq_zero_or_pos n with z | z
  · refine wpAny_bind (wpAny_tryCatch (W.done s _ _ (z ▸ st) fun h' tk kp => ?_))
    show wpAny _ A.in1 (rule _ >>= _) _ _ { s with heap := h', toks := tk }
    exact wpAny_bind (wpAny_rule (wpAny_pure (r0 z h' tk fun b o nb _ e => kp b o nb e)))
  · refine wpAny_bind (wpAny_tryCatch (W.item 0 s _ _ z st fun v h' tk pv st' kp => ?_))
    have gS' := kp S _ sw gS
    show wpAny _ A.in1 (updateSeq S (fun _ => #[v, v]) >>= _) _ _ { s with heap := h', toks := tk }
    refine wpAny_bind (wpAny_updateSeq gS' rfl ?_)
    rw [Zir]
    refine wpAny_pure ⟨plainId_quiet F.plain_max_loop _, Zoc W bt cm S sf dv _ 0 _ v _ rfl z (W.frame _ _ _ st' fun b bf o e => (Heap.get?_update_other _ _ (fun h : S = b => sf (by rw [h]; exact bf))).trans e) pv (Heap.get?_update_self _ gS' rfl) fun v' h2 tk2 pv' kp2 => ?_⟩
    exact r z v' h2 tk2 pv' fun b o nb nS e => kp2 b o nb nS ((Heap.get?_update_other _ _ (Ne.symm nS)).trans (kp b o nb e))
end
section
variable {prog : Program} {w : World} {A : Around} {E : Value → Shared → Prop} {s : Shared}
theorem Zpu (a d : Value) : argsOk "max" ⟨[a], [("default", d)]⟩ := by unfold argsOk; kernel_rfl
theorem Zon {x dv : Value} {Q : Value → Shared → Prop}
    (h : wpAny (model prog w) A.in1 (Builtin.«max» ⟨[x], [("default", dv)]⟩) (fun fin s' => match fin with | .done f => (match (Except.ok f : Result) with | .ok (.ret v) => Q v s' | .ok _ => False | .error e => E e s') | .again c' => c'.quiet = true ∧ codeAny (model prog w) A c' (fun r s' => match r with | .ok (.ret v) => Q v s' | .ok _ => False | .error e => E e s') s') E s) :
    wpAny (model prog w) A (call (.builtin "max") [x] [("default", dv)]) Q E s := by
  refine wpAny_call (codeAny_call_builtin F.plain_max F.entry_max ?_)
  simp only [checkBuiltinCall, F.kind_max]
  cases e : Manifest.signature? "max" with
  | none => exact wpAny_pure h
  | some g =>
    have a := Zpu x dv
    simp only [argsOk, e] at a
    have a2 : Bind.checkArgs "max" g ⟨[x], [("default", dv)]⟩ = pure () := a
    show wpAny _ A.in1 (Bind.checkArgs "max" g ⟨[x], [("default", dv)]⟩) _ _ _
    rw [a2]; exact wpAny_pure h
theorem Zpw {l : Addr} {xs : Array (Int × Tok)} {dv : Value} {Q : Value → Shared → Prop} (hh : A.handled = none) (hl : s.heap.IsList l (intItems xs))
    (h0 : xs.size = 0 → ∀ h' tk, (∀ b o, s.heap.get? b = some o → h'.get? b = some o) → Q dv { s with heap := h', toks := tk })
    (h : 0 < xs.size → ∀ v h' tk, (intItems xs)[argBest (fun i j => decide (numAt xs i > numAt xs j)) (xs.size - 1)]? = some v → (∀ b o, s.heap.get? b = some o → h'.get? b = some o) → Q v { s with heap := h', toks := tk }) :
    wpAny (model prog w) A (call (.builtin "max") [.ref l] [("default", dv)]) Q E s := by
  have hlt : l < s.heap.objs.size := by obtain ⟨_, e, _⟩ := hl; exact Heap.lt_size e
  have sz : (intItems xs).size = xs.size := by simp [intItems]
  refine Zon ?_
  show wpAny _ A.in1 (Builtin.Builtins.bindParams "max" ["key", "default"] 0 ⟨[], [("default", dv)]⟩ >>= _) _ _ _
  refine wpAny_bind (wpAny_of_eq (show Builtin.Builtins.bindParams "max" ["key", "default"] 0 ⟨[], [("default", dv)]⟩ = pure [none, some dv] from rfl) ?_); refine wpAny_bind (wpAny_pure ?_)
  refine wpAny_bind (wpAny_pyIter_list hl ?_)
  refine wpAny_bind (wpAny_newObj_type ?_)
  rw [Zir]
  have k0 : ∀ b o, s.heap.get? b = some o → b ≠ s.heap.objs.size ∧ b ≠ s.heap.objs.size + 1 := fun b o e => ⟨Nat.ne_of_lt (Heap.lt_size e), Nat.ne_of_lt (Nat.lt_succ_of_lt (Heap.lt_size e))⟩
  have hol : ∀ {o1 : Obj}, (s.heap.push o1).IsList l (intItems xs) := hl.push _
  refine wpAny_pure ⟨plainId_quiet F.plain_max_loop _, Zn1 (Walks.list (A := A.in1) hh s.heap.objs.size l (Nat.ne_of_lt hlt) (intItems xs)) (fun i j => decide (numAt xs i > numAt xs j)) (CmpOf.ints_gt (numAt xs) (fun _ _ => intItems_at)) (s.heap.push { cls := .type "list_iterator", data := .fields #[.ref l, .int 0 0] }).objs.size ?_ dv ⟨⟨_, Heap.get?_push_of_some _ (Heap.get?_push_size _ rfl), rfl, rfl⟩, hol.push _⟩ (Heap.get?_push_size _ rfl) (fun z h' tk kp => ?_) fun z v h' tk pv kp => ?_⟩
  · rw [Heap.size_push]
    intro m
    rcases List.mem_cons.mp m with e | m
    · exact Nat.succ_ne_self _ e
    · exact Nat.ne_of_gt (Nat.lt_succ_of_lt hlt) (List.mem_singleton.mp m)
  · refine h0 (by omega) h' tk fun b o e => kp b o (fun m => (k0 b o e).1 (List.mem_singleton.mp m)) (by rw [Heap.size_push]; exact (k0 b o e).2) (Heap.get?_push_of_some _ (Heap.get?_push_of_some _ e))
  · refine h (by omega) v h' tk (by rw [← sz]; exact pv) fun b o e => kp b o (fun m => (k0 b o e).1 (List.mem_singleton.mp m)) (by rw [Heap.size_push]; exact (k0 b o e).2) (Heap.get?_push_of_some _ (Heap.get?_push_of_some _ e))
end
section
variable {X : Cx} {p c : Bool} {io : List Nat} {e kw : Expr} {pp pos kp : Pos} {t : TA} {mr : MAt}
noncomputable def Zyw (K : PySem.W.Frag) : List V → Hp → VK → Prop := fun xs H Q => ∃ (a : Addr) (ns : List Int), xs = [.ref a] ∧ SqL K H a (ns.map V.int) ∧ Q (.int (Zra ns)) H
theorem Zw7 (hc : X.calm = true) (hg : Gl X "max") (hm : X.mg "max" = none) (hv : bootBuiltins "max" = some (.builtin "max")) (ha : PA X [e] t) (hk : PE X kw (tC (.int 0)))
    (he : starEach [e] X.env = (false, eval e X.env) :: starEach [] X.env := by rfl) (hpl : (backTo pos (starEach [e] X.env)).any (·.1) = false := by rfl) : PE X (.Call (.Name "max" pp) [e] [⟨some "default", kw, kp⟩] pos) (tCB (Zyw X.K) t) := by
  intro pins s σ H Q I h
  refine wpAny_Call_Name_kw (Zgc I hg hm hv ?_ (by decide) (by decide))
  refine PyProof.Rows.callWith_kw (thn (ha pos pins s σ H _ I h) fun us s1 qz => ?_) (by rw [he]; rfl) hpl
  obtain ⟨vs, H1, I1, r1, a, ns, rfl, hs, q⟩ := qz
  refine kws_cons (thn (hk pins s1 σ H1 (fun v H2 => v = .int 0 ∧ H2 = H1) I1 ⟨rfl, rfl⟩) fun v s2 qz => kws_nil ?_)
  obtain ⟨v0, H2, I2, rel, rfl, rfl⟩ := qz
  obtain ⟨tk0, rfl⟩ := (show ∃ t, v = Value.int 0 t from rel)
  obtain ⟨u, rfl, ru⟩ := vals1 r1
  cases (show u = Value.ref a from ru)
  obtain ⟨its, rv, pl, hz⟩ := I2.list hs
  obtain ⟨ps, rfl, e2⟩ := Zfz rv
  have hl : ps.length = ns.length := by rw [← e2, List.length_map]
  have sz : ps.toArray.size = ns.length := by rw [List.size_toArray, hl]
  refine Zpw (xs := ps.toArray) (I2.ok.hd hc) (by simpa [intItems] using pl.isList) (fun z h' tk kp => ?_) fun z v h' tk hv' kp => ?_
  · have : ns = [] := List.length_eq_zero_iff.mp (by omega)
    subst this
    exact ⟨.int 0, H2, I2.kept (t' := tk) kp, ⟨tk0, rfl⟩, q⟩
  · have hp : 0 < ns.length := by omega
    obtain ⟨t', rfl⟩ := intItems_at hv'
    obtain ⟨h1, h2⟩ := argBest_gt (numAt ps.toArray) (ps.toArray.size - 1)
    have hn : ∀ j, j < ps.length → numAt ps.toArray j = ns.getD j 0 := fun j hj => by rw [numAt_eq, ← e2]
    refine ⟨.int (Zra ns), _, I2.kept (t' := tk) kp, ⟨t', ?_⟩, q⟩
    rw [sz] at h1 h2 ⊢
    obtain ⟨m1, m2⟩ := Zjv hp
    congr 1
    generalize ej : argBest (fun i j => decide (numAt ps.toArray i > numAt ps.toArray j)) (ns.length - 1) = j at h1 h2 ⊢
    rw [hn j (by omega)]
    refine Int.le_antisymm (m2 _ ?_) ?_
    · rw [List.getD_eq_getElem?_getD, List.getElem?_eq_getElem (by omega)]
      exact List.getElem_mem _
    · obtain ⟨j', hj', e⟩ := List.getElem_of_mem m1
      have := h2 j' (by omega)
      rw [hn j (by omega), hn j' (by omega), List.getD_eq_getElem?_getD (i := j'), List.getElem?_eq_getElem hj', e] at this
      exact this
noncomputable def Zxh : List PyData → (PyData → Prop) → Prop := fun ds k => n1 (fun d => ∃ ns : List Int, d = .list (ns.map PyData.int) ∧ k (.int (Zra ns))) ds
theorem Zv1 {G : PySem.W.Frag} : PNs G (Zyw G) Zxh := fun H L xs ds k Q hx h kk => by
  obtain ⟨v, d, rfl, rfl, q, ns, e, h'⟩ := hx.one h
  subst e
  obtain ⟨a, rfl, hs⟩ := q.ints_sq
  exact ⟨a, ns, rfl, hs, kk _ _ (.int _) h'⟩
theorem Ztz (hc : X.calm = true) (hk : PE X kw (tC (.int 0))) (hg : Gl X "max") (hm : X.mg "max" = none) (hv : bootBuiltins "max" = some (.builtin "max")) (ha : MA X io p c [e] mr)
    (he : starEach [e] X.env = (false, eval e X.env) :: starEach [] X.env := by rfl) (hpl : (backTo pos (starEach [e] X.env)).any (·.1) = false := by rfl) : ME X io p true (.Call (.Name "max" pp) [e] [⟨some "default", kw, kp⟩] pos) (Z11 Zxh mr) := by
  obtain ⟨_, A, sa⟩ := ha
  exact ⟨_, Zw7 hc hg hm hv A hk he hpl, Z4s Zv1 sa⟩
noncomputable def Zte : List PyData → Option PyData := fun ds => match ds with | [.list es] => (Zhv es).bind fun ns => some (.int (Zra ns)) | _ => none
theorem Zud : ∀ ds r k, Zte ds = some r → k r → Zxh ds k := fun ds r k h hk => by
  unfold Zte at h
  split at h
  case h_2 => cases h
  obtain ⟨ns, h1, h⟩ := bs h
  cases h
  exact ⟨ns, congrArg PyData.list (Zgn h1), hk⟩
end
end L2
namespace L2
open PySem PySem.Spec PyProof.Rows
noncomputable def Z6b (o : Option (Option OT)) (δ : Zn) : Option (OT × Zn) := match o with | some (some (.fz d)) => some (.fz d, δ) | _ => none
theorem Zw4 (d : PyData) (δ : Zn) : Z6b (some (some (.fz d))) δ = some (.fz d, δ) := rfl
noncomputable def Z08 (o : Option (Option OT)) (δ : Zn) : Option (OT × Zn) := match o with | some (some t) => some (.fz t.data, δ) | _ => none
theorem Zxi (t : OT) (δ : Zn) : Z08 (some (some t)) δ = some (.fz t.data, δ) := rfl
theorem Zvp (i : Nat) (δ : Zn) : Zh i δ = Z6b δ[i]? δ := rfl
theorem Zwm (i : Nat) (δ : Zn) : Zrk i δ = Z08 δ[i]? δ := rfl
theorem Z4g (d : PyData) (δ : Zn) : fC d δ = some (.fz d, δ) := rfl
theorem Zrx (g : PyData → PyData → Option PyData) (a b : FE) (δ : Zn) : Zm g a b δ = (a δ).bind fun p => (b p.2).bind fun q => (g p.1.data q.1.data).bind fun d => some (.fz d, q.2) := rfl
theorem Zvc (g : PyData → PyData → Option OT) (a b : FE) (δ : Zn) : We g a b δ = (a δ).bind fun p => (b p.2).bind fun q => (g p.1.data q.1.data).bind fun d => some (d, q.2) := rfl
theorem Zyf (g : PyData → Option PyData) (a : FE) (δ : Zn) : fUn g a δ = (a δ).bind fun p => (g p.1.data).bind fun d => some (.fz d, p.2) := rfl
noncomputable def onB {α : Type} (d : PyData) (x y : Option α) : Option α := match d with | .bool true => x | .bool false => y | _ => none
theorem Z2e {α : Type} (x y : Option α) : onB (.bool true) x y = x := rfl
theorem Z7x {α : Type} (x y : Option α) : onB (.bool false) x y = y := rfl
theorem Zuv (a b : FE) (δ : Zn) : Zxc a b δ = (a δ).bind fun p => onB p.1.data (b p.2) (some (.fz (.bool false), p.2)) := by
  unfold Zxc onB
  cases a δ with
  | none => rfl
  | some p => first | rfl | (simp only [Option.bind_some]; done) | (simp only [Option.bind_some]; generalize p.1.data = d; cases d <;> first | rfl | (rename_i b; cases b <;> rfl))
theorem Z41 (a b : FE) (δ : Zn) : fOr a b δ = (a δ).bind fun p => onB p.1.data (some (.fz (.bool true), p.2)) (b p.2) := by
  unfold fOr onB
  cases a δ with
  | none => rfl
  | some p => first | rfl | (simp only [Option.bind_some]; done) | (simp only [Option.bind_some]; generalize p.1.data = d; cases d <;> first | rfl | (rename_i b; cases b <;> rfl))
theorem Z5h (t : FT) (a b : FE) (δ : Zn) : fIf t a b δ = (t δ).bind fun p => if p.1 = true then a p.2 else b p.2 := rfl
noncomputable def Z2j (t : OT) (δ : Zn) : Option (Bool × Zn) := match t with | .fz (.bool b) => some (b, δ) | _ => none
theorem Zya (b : Bool) (δ : Zn) : Z2j (.fz (.bool b)) δ = some (b, δ) := rfl
theorem Z3n (e : FE) (δ : Zn) : tV e δ = (e δ).bind fun p => Z2j p.1 p.2 := by
  unfold tV Z2j
  cases e δ with
  | none => rfl
  | some p => rfl
theorem Zx4 (t : FT) (δ : Zn) : tNo t δ = (t δ).bind fun p => some (!p.1, p.2) := rfl
theorem Zt1 (t u : FT) (δ : Zn) : tAn t u δ = (t δ).bind fun p => if p.1 = true then u p.2 else some (false, p.2) := rfl
theorem Z3k (t u : FT) (δ : Zn) : tO t u δ = (t δ).bind fun p => if p.1 = true then some (true, p.2) else u p.2 := rfl
theorem Z4j (e : FE) (δ : Zn) : tD e δ = (e δ).bind fun p => (Zr2 p.1.data).bind fun b => some (b, p.2) := rfl
theorem Z3x (δ : Zn) : Ze6 δ = some (true, δ) := rfl
theorem Z2o (δ : Zn) : Z5 δ = some ([], δ) := rfl
theorem Zrm (e : FE) (a : FA) (δ : Zn) : Ze e a δ = (e δ).bind fun p => (a p.2).bind fun q => some (p.1 :: q.1, q.2) := rfl
theorem Zlm (a : FA) (δ : Zn) : Zfl a δ = (a δ).bind fun p => if p.1.length ≤ sizeLine then some (.fz (.tuple (OT.datas p.1)), p.2) else none := rfl
theorem Zom (a : FA) (δ : Zn) : Zjm a δ = (a δ).bind fun p => if p.1.length ≤ sizeLine then some (.nd p.1, p.2) else none := rfl
theorem Z15 (a : FA) (δ : Zn) : Z2u a δ = (a δ).bind fun p => if p.1.length ≤ sizeLine then some (.tp p.1, p.2) else none := rfl
theorem Zr5 (e : FE) (δ : Zn) : Zrd e δ = (e δ).bind fun p => if Zdb p.1.data = true then some (.fz p.1.data, p.2) else none := rfl
theorem Zyr (e : FE) (δ : Zn) : Z1g e δ = (e δ).bind fun p => if Zwz p.1 = true then some (p.1, p.2) else none := rfl
noncomputable def okO (x : RF) (δ : Zn) : Option (OT × Zn) := match x with | .ok r => some (r, δ) | _ => none
theorem Z0x (r : OT) (δ : Zn) : okO (.ok r) δ = some (r, δ) := rfl
theorem Zmb (F : FD) (a : FA) (δ : Zn) : Z7 F a δ = (a δ).bind fun p => okO (F (OT.datas p.1)) p.2 := by
  unfold Z7 okO
  cases a δ with
  | none => rfl
  | some p => rfl
noncomputable def atO {α : Type} (o : Option (Option OT)) (k : OT → Option α) : Option α := match o with | some (some t) => k t | _ => none
theorem Z7q {α : Type} (t : OT) (k : OT → Option α) : atO (some (some t)) k = k t := rfl
theorem Zx5 (i : Nat) (F : FIO) (a : FA) (δ : Zn) : Zth i F a δ = atO δ[i]? fun _ => (a δ).bind fun p => atO p.2[i]? fun t => (F t (OT.datas p.1)).bind fun q => some (q.1, p.2.set i (some q.2)) := by
  unfold Zth
  generalize δ[i]? = o
  rcases o with _ | _ | t
  · rfl
  · rfl
  · show (a δ).bind _ = (a δ).bind _
    cases a δ with
    | none => rfl
    | some p =>
      show (fun o : Option (Option OT) => (match o with | some (some t) => (F t (OT.datas p.1)).bind fun q => some (q.1, p.2.set i (some q.2)) | _ => none)) p.2[i]? = atO p.2[i]? _
      generalize p.2[i]? = o
      rcases o with _ | _ | t <;> rfl
theorem Zv2 (g : List PyData → Option PyData) (a : FA) (δ : Zn) : Zij g a δ = (a δ).bind fun p => (g (OT.datas p.1)).bind fun d => some (.fz d, p.2) := rfl
theorem Zyv (g : List PyData → Option OT) (a : FA) (δ : Zn) : fBl g a δ = (a δ).bind fun p => (g (OT.datas p.1)).bind fun d => some (d, p.2) := rfl
theorem Zv3 (T : String) (e : FE) (δ : Zn) : Zr6 T e δ = (e δ).bind fun p => if Zje p.1.data = true then none else some (.fz (.bool (Zn7 T p.1.data)), p.2) := rfl
theorem Z67 (δ : Zn) : oN δ = some (none, δ) := rfl
noncomputable def asInt {α : Type} (d : PyData) (k : Int → Option α) : Option α := match d with | .int i => k i | _ => none
theorem Zqb {α : Type} (i : Int) (k : Int → Option α) : asInt (.int i) k = k i := rfl
noncomputable def Zpl {α : Type} (d : PyData) (k : List PyData → Option α) : Option α := match d with | .list i => k i | _ => none
theorem Zqv {α : Type} (i : List PyData) (k : List PyData → Option α) : Zpl (.list i) k = k i := rfl
noncomputable def Zvm {α : Type} (d : PyData) (k : List PyData → Option α) : Option α := match d with | .tuple i => k i | _ => none
theorem Z4h {α : Type} (i : List PyData) (k : List PyData → Option α) : Zvm (.tuple i) k = k i := rfl
theorem Z3o (e : FE) (δ : Zn) : oI e δ = (e δ).bind fun p => asInt p.1.data fun i => some (some i, p.2) := by
  unfold oI asInt
  cases e δ with
  | none => rfl
  | some p => rfl
theorem Zzg (e : FE) (lo hi : FO) (δ : Zn) : fSl e lo hi δ = (e δ).bind fun p => (lo p.2).bind fun q => (hi q.2).bind fun r => Zpl p.1.data fun ds => some (.nd ((cutD ds q.1 r.1).map OT.fz), r.2) := by
  unfold fSl Zpl; rfl
theorem Zv6 (e : FE) (δ : Zn) : Zf7 e δ = (e δ).bind fun p => Zpl p.1.data fun ds => some (ds, p.2) := by
  unfold Zf7 Zpl; rfl
theorem Z6a (e : FE) (δ : Zn) : iTp e δ = (e δ).bind fun p => Zvm p.1.data fun ds => some (ds, p.2) := by
  unfold iTp Zvm; rfl
noncomputable def as1 {α : Type} (ds : List PyData) (k : Int → Option α) : Option α := match ds with | [.int i] => k i | _ => none
theorem Z2d {α : Type} (i : Int) (k : Int → Option α) : as1 [.int i] k = k i := rfl
noncomputable def as2 {α : Type} (ds : List PyData) (k : Int → Int → Option α) : Option α := match ds with | [.int i, .int j] => k i j | _ => none
theorem Z4e {α : Type} (i j : Int) (k : Int → Int → Option α) : as2 [.int i, .int j] k = k i j := rfl
theorem Z0l (a : FA) (δ : Zn) : iRa a δ = (a δ).bind fun p => as1 (OT.datas p.1) fun j => if rOk j = true then some (Zjh 0 j.toNat, p.2) else none := by
  unfold iRa as1; rfl
theorem Zy6 (a : FA) (δ : Zn) : iRb a δ = (a δ).bind fun p => as2 (OT.datas p.1) fun i j => if (rOk i && rOk j) = true then some (Zjh i (j - i).toNat, p.2) else none := by
  unfold iRb as2; rfl
theorem Z4m (a : FA) (δ : Zn) : Z51 a δ = (a δ).bind fun p => as1 (OT.datas p.1) fun j => if rOk j = true ∧ j.toNat ≤ sizeLine then some (.nd ((Zjh 0 j.toNat).map OT.fz), p.2) else none := by
  unfold Z51 as1; rfl
theorem Zk7 (a b : FE) (δ : Zn) : Zw1 a b δ = (a δ).bind fun p => (b p.2).bind fun q => asInt q.1.data fun k => if rOk k = true ∧ k.toNat ≤ sizeLine then some (.nd (List.replicate k.toNat (.fz p.1.data)), p.2) else none := by
  unfold Zw1 asInt; rfl
noncomputable def Z4d {α : Type} (ds : List PyData) (k : List PyData → List PyData → Option α) : Option α := match ds with | [.list i, .list j] => k i j | _ => none
theorem Z5d {α : Type} (i j : List PyData) (k : List PyData → List PyData → Option α) : Z4d [.list i, .list j] k = k i j := rfl
theorem Z1t (a : FA) (δ : Zn) : Zzu a δ = (a δ).bind fun p => Z4d (OT.datas p.1) fun as bs => some (Zj2 as bs, p.2) := by
  unfold Zzu Z4d; rfl
theorem Z5w (i : Nat) (d : PyData) (δ : Zn) : gNm i d δ = some (δ.set i (some (.fz d))) := rfl
theorem Z3l (i : Nat) (d : PyData) (δ : Zn) : Z6r i d δ = if Zdb d = true then some (δ.set i (some (.fz d))) else none := rfl
theorem Z5j (δ : Zn) : gNl [] δ = some δ := rfl
theorem Z49 (g : FG) (gs : FGs) (d : PyData) (r : List PyData) (δ : Zn) : gCn g gs (d :: r) δ = (g d δ).bind (gs r) := rfl
theorem Z55 (n : Nat) (gs : FGs) (ds : List PyData) (δ : Zn) : gTp n gs (.tuple ds) δ = if ds.length = n then gs ds δ else none := rfl
theorem Z6e (n : Nat) (gs : FGs) (ds : List PyData) (δ : Zn) : gLs n gs (.list ds) δ = if ds.length = n then gs ds δ else none := rfl
noncomputable def RS.thn (r : RS) (g : FS) : RS := match r with | .nx δ => g δ | r => r
theorem Zyl (δ : Zn) (g : FS) : (RS.nx δ).thn g = g δ := rfl
theorem Zzq (r : OT) (δ : Zn) (g : FS) : (RS.rt r δ).thn g = .rt r δ := rfl
theorem Z56 (δ : Zn) (g : FS) : (RS.bk δ).thn g = .bk δ := rfl
theorem Z5u (δ : Zn) (g : FS) : (RS.ct δ).thn g = .ct δ := rfl
theorem Z4r (c : Str) (δ : Zn) (g : FS) : (RS.ex c δ).thn g = .ex c δ := rfl
theorem Zos (f g : FS) (δ : Zn) : Yu f g δ = (f δ).thn g := rfl
theorem Z5b (δ : Zn) : fNx δ = .nx δ := rfl
theorem Z18 (δ : Zn) : Z6y δ = .bk δ := rfl
theorem Z3s (δ : Zn) : Z7t δ = .ct δ := rfl
theorem Zza (c : Str) (δ : Zn) : Zl7 c δ = .ex c δ := rfl
theorem Z1p (δ : Zn) : Z38 δ = .rt (.fz .none) δ := rfl
noncomputable def onO {α : Type} (o : Option (α × Zn)) (k : α → Zn → RS) : RS := match o with | some (r, δ') => k r δ' | none => .bad
theorem Jd {α : Type} (r : α) (δ : Zn) (k : α → Zn → RS) : onO (some (r, δ)) k = k r δ := rfl
theorem Zgm (e : FE) (k : OT → Zn → RS) (δ : Zn) : wE e k δ = onO (e δ) k := by
  unfold wE onO
  cases e δ <;> rfl
noncomputable def onF (x : RF) (δ : Zn) (k : OT → Zn → RS) : RS := match x with | .ok r => k r δ | .exn c => .ex c δ | .bad => .bad
theorem Ztj (r : OT) (δ : Zn) (k : OT → Zn → RS) : onF (.ok r) δ k = k r δ := rfl
theorem Z5s (c : Str) (δ : Zn) (k : OT → Zn → RS) : onF (.exn c) δ k = .ex c δ := rfl
theorem Z1f (F : FD) (a : FA) (k : OT → Zn → RS) (δ : Zn) : wX F a k δ = onO (a δ) fun rs δ1 => onF (F (OT.datas rs)) δ1 k := by
  unfold wX onO onF
  cases a δ with
  | none => rfl
  | some p => rfl
theorem Zpm (t : FT) (u w : FS) (δ : Zn) : Zem t u w δ = onO (t δ) fun b δ' => if b = true then u δ' else w δ' := by
  unfold Zem onO
  cases t δ <;> rfl
theorem Zvt (it : FI) (g : FG) (u : FS) (δ : Zn) : Zf0 it g u δ = onO (it δ) fun ds δ1 => forLoop g u ds δ1 := by
  unfold Zf0 onO
  cases it δ <;> rfl
theorem Z1m (r : OT) (δ : Zn) : Z2v r δ = .nx δ := rfl
theorem Zp5 (r : OT) (δ : Zn) : Zbg r δ = .rt r δ := rfl
theorem Z1o (r : OT) (δ : Zn) : Z3w r δ = if Zdb r.data = true then .rt (.fz r.data) δ else .bad := rfl
theorem Zqy (i : Nat) (r : OT) (δ : Zn) : Ju i r δ = .nx (δ.set i (some (.fz r.data))) := rfl
theorem Z1r (i : Nat) (r : OT) (δ : Zn) : Z31 i r δ = if Zdb r.data = true then .nx (δ.set i (some (.fz r.data))) else .bad := rfl
theorem Zrg (i : Nat) (r : OT) (δ : Zn) : Zeu i r δ = .nx (δ.set i (some r)) := rfl
noncomputable def onD (o : Option Zn) : RS := match o with | some δ => .nx δ | none => .bad
theorem Z1y (δ : Zn) : onD (some δ) = .nx δ := rfl
theorem Z3p (g : FG) (r : OT) (δ : Zn) : Z7z g r δ = onD (g r.data δ) := rfl
noncomputable def onT (o : Option (Option OT)) (k : OT → RS) : RS := match o with | some (some t) => k t | _ => .bad
theorem Zy4 (t : OT) (k : OT → RS) : onT (some (some t)) k = k t := rfl
theorem Zrz (i : Nat) (δ : Zn) : Ze3 i δ = onT δ[i]? fun t => .rt t (δ.set i none) := rfl
theorem Zm6 (i : Nat) (u : FS) (δ : Zn) : Zhh i u δ = onT δ[i]? fun t => u (δ.set i (some (.fz t.data))) := rfl
noncomputable def onN (o : Option (Option OT)) (k : List OT → RS) : RS := match o with | some (some (.nd ts)) => k ts | _ => .bad
theorem Z06 (t : List OT) (k : List OT → RS) : onN (some (some (.nd t))) k = k t := rfl
theorem Zm7 (i : Nat) (e : FE) (δ : Zn) : Jx i e δ = onN δ[i]? fun _ => onO (e δ) fun r δ1 => onN δ1[i]? fun ts => if ts.length < sizeLine then .nx (δ1.set i (some (.nd (ts ++ [.fz r.data])))) else .bad := by
  unfold Jx
  generalize δ[i]? = o
  rcases o with _ | _ | (_ | _ | _)
  · rfl
  · rfl
  · rfl
  · show wE e _ δ = onO (e δ) _
    rw [Zgm]
    congr 1
  · rfl
theorem Zuo (i : Nat) (e : FE) (δ : Zn) : Zmc i e δ = onN δ[i]? fun _ => onO (e δ) fun r δ1 => onN δ1[i]? fun ts => if ts.length < sizeLine then .nx (δ1.set i (some (.nd (ts ++ [r])))) else .bad := by
  unfold Zmc
  generalize δ[i]? = o
  rcases o with _ | _ | (_ | _ | _)
  · rfl
  · rfl
  · rfl
  · show wE e _ δ = onO (e δ) _
    rw [Zgm]
    congr 1
  · rfl
noncomputable def onI (d : PyData) (k : Int → RS) : RS := match d with | .int i => k i | _ => .bad
theorem Z7s (i : Int) (k : Int → RS) : onI (.int i) k = k i := rfl
noncomputable def onX (o : Option Nat) (k : Nat → RS) : RS := match o with | some i => k i | _ => .bad
theorem Z7k (i : Nat) (k : Nat → RS) : onX (some i) k = k i := rfl
theorem Zwp (i : Nat) (e j : FE) (δ : Zn) : Zxo i e j δ = onO (e δ) fun r δ1 => onN δ1[i]? fun ts => onO (j δ1) fun n _ => onI n.data fun k => onX (ixN ts.length k) fun j => .nx (δ1.set i (some (.nd (ts.set j (.fz r.data))))) := by
  unfold Zxo
  rw [Zgm]
  congr 1
  funext r δ1
  generalize δ1[i]? = o
  rcases o with _ | _ | (_ | _ | _)
  · rfl
  · rfl
  · rfl
  · show wE j _ δ1 = onO (j δ1) _
    rw [Zgm]
    congr 1
    funext n δ2
    generalize n.data = d
    cases d <;> try rfl
    show (match ixN _ _ with | some j => _ | none => _) = onX (ixN _ _) _
    generalize ixN _ _ = x
    cases x <;> rfl
  · rfl
noncomputable def onU (o : Option OT) (k : List OT → RS) : RS := match o with | some (.nd ts) => k ts | _ => .bad
theorem Z68 (t : List OT) (k : List OT → RS) : onU (some (.nd t)) k = k t := rfl
noncomputable def onP (o : Option (Option OT)) (k : List OT → RS) : RS := match o with | some (some (.tp ts)) => k ts | _ => .bad
theorem Z7b (t : List OT) (k : List OT → RS) : onP (some (some (.tp t))) k = k t := rfl
theorem Z0h (i c : Nat) (e : FE) (δ : Zn) : Zty i c e δ = onP δ[i]? fun ts => onU ts[c]? fun us => onO (e δ) fun r _ => if us.length < sizeLine then .nx (δ.set i (some (.tp (ts.set c (.nd (us ++ [.fz r.data])))))) else .bad := by
  unfold Zty
  generalize δ[i]? = o
  rcases o with _ | _ | (_ | _ | ts)
  · rfl
  · rfl
  · rfl
  · rfl
  · show (match ts[c]? with | some (.nd us) => wE e _ δ | _ => _) = onU ts[c]? _
    generalize ts[c]? = o
    rcases o with _ | (_ | _ | _)
    · rfl
    · rfl
    · show wE e _ δ = onO (e δ) _
      rw [Zgm]
    · rfl
noncomputable def on2 (ds : List PyData) (k : PyData → PyData → RS) : RS := match ds with | [d, e] => k d e | _ => .bad
theorem Z6n (d e : PyData) (k : PyData → PyData → RS) : on2 [d, e] k = k d e := rfl
theorem Z2f (i j : Nat) (a : FA) (δ : Zn) : Zrb i j a δ = onO (a δ) fun rs δ1 => on2 (OT.datas rs) fun d e => .nx ((δ1.set i (some (.fz d))).set j (some (.fz e))) := by
  unfold Zrb onO on2
  cases a δ <;> rfl
theorem Zjb {np n : Nat} {S : FS} {ds : List PyData} (h : ds.length = np) : Zbe np n S ds = (S (Zkx n ds)).told := by
  unfold Zbe; rw [if_pos h]
theorem Z4l (δ : Zn) : (RS.nx δ).told = .ok (.fz .none) := rfl
theorem Zvs (r : OT) (δ : Zn) : (RS.rt r δ).told = .ok r := rfl
theorem Z2r (c : Str) (δ : Zn) : (RS.ex c δ).told = .exn c := rfl
theorem Z5p (i j : Int) : Zhs (.int i) (.int j) = some (.int (i + j)) := rfl
theorem Z7w (i j : Int) : gSb (.int i) (.int j) = some (.int (i - j)) := rfl
theorem Z6o (i j : Int) : gLt (.int i) (.int j) = some (.bool (decide (i < j))) := rfl
theorem Z70 (i j : Int) : gLe (.int i) (.int j) = some (.bool (decide (i ≤ j))) := rfl
theorem Z26 (i j : Int) : gGt (.int i) (.int j) = some (.bool (decide (j < i))) := rfl
theorem Z39 (i j : Int) : gGe (.int i) (.int j) = some (.bool (decide (j ≤ i))) := rfl
theorem Zby {i j : Int} (h : Zu6 i j = true) : Ze1 (.int i) (.int j) = some (.int (i * j)) := by
  unfold Ze1 i2c; dsimp only; rw [if_pos h]
theorem Zhl {i j : Int} (h : Z1j i j = true) : Zad (.int i) (.int j) = some (.int (i.fdiv j)) := by
  unfold Zad i2c; dsimp only; rw [if_pos h]
theorem Zyg {i j : Int} (h : j ≠ 0) : Zdc (.int i) (.int j) = some (.int (i.fmod j)) := by
  unfold Zdc i2c Z59; dsimp only; rw [if_pos (decide_eq_true h)]
theorem Z0o {i j : Int} (h : Z2s i j = true) : Zk2 (.int i) (.int j) = some (.int (i ^ j.toNat)) := by
  unfold Zk2 i2c; dsimp only; rw [if_pos h]
theorem Zas {m n : Nat} {x y : Int} (h : Bt m x) (k : Bt n y) (hmn : m + n ≤ 100000000 := by decide) : Zu6 x y = true := Zgt.mpr (h.mulOk k hmn)
theorem Zx2 {x y : Int} (h : x.natAbs < 2 ^ 64) : Zu6 x y = true := Zgt.mpr (.of_left (intBits_le_64 (by omega) (by omega)))
theorem Zzx {x y : Int} (h : y.natAbs < 2 ^ 64) : Zu6 x y = true := Zgt.mpr (.of_right (intBits_le_64 (by omega) (by omega)))
theorem Zhp {n : Nat} {i j : Int} (h0 : j ≠ 0) (h : Bt n j) (hn : n ≤ 9000 := by decide) : Z1j i j = true := by
  obtain ⟨h1, h2⟩ := DivOk.of (i := i) h0 h hn
  unfold Z1j
  rw [decide_eq_true h1, decide_eq_true h2]; rfl
theorem Z2p (i j : Int) : gEq (.int i) (.int j) = some (.bool (decide (i = j))) := by
  show some (PyData.bool (i == j)) = _
  rw [show (i == j) = decide (i = j) from rfl]
theorem Z2b (i j : Int) : gNe (.int i) (.int j) = some (.bool (!decide (i = j))) := by
  show some (PyData.bool (!(i == j))) = _
  rw [show (i == j) = decide (i = j) from rfl]
theorem Z6z (d : PyData) : gIs d .none = some (.bool (Ziz d)) := rfl
theorem Z1w (d : PyData) : Z0g d .none = some (.bool (!Ziz d)) := rfl
theorem Zrf (ds : List PyData) (i : Int) : gIx (.list ds) (.int i) = (atI ds i).bind fun x => some (.fz x) := rfl
theorem Z63 (ds : List PyData) (i : Int) : gIx (.tuple ds) (.int i) = (atI ds i).bind fun x => some (.fz x) := rfl
theorem Zz6 (ds : List PyData) : Zn3 [.list ds] = some (.int ds.length) := rfl
theorem Z1c (ds : List PyData) : Zn3 [.tuple ds] = some (.int ds.length) := rfl
theorem Zmh (i : Int) : Zwb [.int i] = some (.int (i.natAbs : Int)) := by
  show some (PyData.int (if i < 0 then -i else i)) = _
  congr 2; split <;> omega
theorem Z5x (i j : Int) : Z62 [.int i, .int j] = some (.int (if j > i then j else i)) := rfl
theorem Z48 (i j : Int) : Z6x [.int i, .int j] = some (.int (if j < i then j else i)) := rfl
theorem Z40 (i : Int) : Z58 [.int i] = some (.int i) := rfl
theorem Z44 (b : Bool) : Z58 [.bool b] = some (.int (if b then 1 else 0)) := rfl
theorem Zp4 (ds : List PyData) : Zj1 [.list ds] = some (.nd (ds.map OT.fz)) := rfl
theorem Z32 (ds : List PyData) : Zj1 [.tuple ds] = some (.nd (ds.map OT.fz)) := rfl
theorem Zzj {ds es : List PyData} (h : ds.length + es.length ≤ sizeLine) : Zn8 (.list ds) (.list es) = some (.nd ((ds ++ es).map OT.fz)) := by
  unfold Zn8; dsimp only; rw [if_pos h]
theorem Zy7 (i : Int) : Zz5 (.int i) = some (.int (-i)) := rfl
theorem Z5r (b : Bool) : Z1q (.bool b) = some (.bool (!b)) := rfl
theorem Z6d (b : Bool) : Zr2 (.bool b) = some b := rfl
theorem Z6h (i : Int) : Zr2 (.int i) = some (i != 0) := rfl
theorem Z52 : Zr2 .none = some false := rfl
theorem Z5q (ds : List PyData) : Zr2 (.list ds) = some (!ds.isEmpty) := rfl
theorem Zmy {n : Nat} {d : PyData} (h : Sh n d) (hp : Wf d = true) (hn : n ≤ 60) : gNe d d = some (.bool false) := by
  have s : SeqAt.shaped d = true := (h.shp (by omega)).ok
  unfold gNe
  rw [if_pos (by rw [s]; rfl), Zsl hp]; rfl
theorem Zl8 {gg : FG} {u : FS} {ds : List PyData} {δ : Zn} (I : Nat → Zn → Prop) (h0 : I 0 δ)
    (turn : ∀ (i : Nat) (d : PyData) (δ : Zn), ds[i]? = some d → I i δ → ∃ δ1 δ2, gg d δ = some δ1 ∧ (u δ1 = .nx δ2 ∨ u δ1 = .ct δ2) ∧ I (i + 1) δ2) : ∃ δ', forLoop gg u ds δ = .nx δ' ∧ I ds.length δ' := by
  induction ds generalizing δ I with
  | nil => exact ⟨δ, rfl, h0⟩
  | cons d ds ih =>
    obtain ⟨δ1, δ2, e1, e2, h1⟩ := turn 0 d δ rfl h0
    obtain ⟨δ', e3, h3⟩ := ih (δ := δ2) (fun i δ => I (i + 1) δ) h1 fun i d' δ hd hi => turn (i + 1) d' δ (by simpa using hd) hi
    refine ⟨δ', ?_, h3⟩
    rw [Zgb, e1]
    dsimp only
    rcases e2 with e2 | e2 <;> rw [e2] <;> exact e3
noncomputable def Goes (r : RS) (Q : Zn → Prop) : Prop := ∃ δ, (r = .nx δ ∨ r = .ct δ) ∧ Q δ
theorem Goes.nx {δ : Zn} {Q : Zn → Prop} (h : Q δ) : Goes (.nx δ) Q := ⟨δ, .inl rfl, h⟩
theorem Goes.ct {δ : Zn} {Q : Zn → Prop} (h : Q δ) : Goes (.ct δ) Q := ⟨δ, .inr rfl, h⟩
theorem Zpc {α : Type} {me : FE} {cs : Zn} (mk : α → PyData) (f : α → OT) : ∀ (xs : List α) (z : Option OT), (∀ x ∈ xs, me (some (.fz (mk x)) :: cs) = some (f x, some (.fz (mk x)) :: cs)) →
    ∃ z', compLoop (gNm 0) Ze6 me (xs.map mk) (z :: cs) = some (xs.map f, z' :: cs)
  | [], z, _ => ⟨z, rfl⟩
  | x :: xs, z, h => by
    obtain ⟨z', e⟩ := Zpc mk f xs (some (.fz (mk x))) fun y hy => h y (.tail _ hy)
    refine ⟨z', ?_⟩
    rw [List.map_cons, compLoop]
    show (some (some (OT.fz (mk x)) :: cs)).bind _ = _
    rw [Option.bind_some]
    show (some (true, some (OT.fz (mk x)) :: cs)).bind _ = _
    rw [Option.bind_some, if_pos rfl, h x (.head _), Option.bind_some, e]; rfl
theorem Zgr {α : Type} {caps : List Nat} {it : FI} {me : FE} {cs δ δ1 : Zn} (xs : List α) (mk : α → PyData) (f : α → OT) (hi : it δ = some (xs.map mk, δ1)) (hz : xs.length ≤ sizeLine) (hb : blk 1 caps δ1 = none :: cs)
    (h : ∀ x ∈ xs, me (some (.fz (mk x)) :: cs) = some (f x, some (.fz (mk x)) :: cs)) : Ja 1 caps it (gNm 0) Ze6 me δ = some (.nd (xs.map f), δ1) := by
  unfold Ja
  rw [hi, Option.bind_some]
  dsimp only
  rw [if_pos (by rw [List.length_map]; exact hz), hb]
  obtain ⟨z', e⟩ := Zpc (me := me) (cs := cs) mk f xs none h
  rw [e]; rfl
theorem Z7g : (2 ≤ sizeLine) = True := by simp [sizeLine_eq]
theorem Z7p : (1 ≤ sizeLine) = True := by simp [sizeLine_eq]
theorem Z6q : (0 ≤ sizeLine) = True := by simp
theorem Z24 : (3 ≤ sizeLine) = True := by simp [sizeLine_eq]
theorem Znt {α : Type} (f : α → PyData) (xs : List α) : (xs.map fun x => OT.fz (f x)).map OT.data = xs.map f := by
  rw [List.map_map]; exact List.map_congr_left fun x _ => OT.data_fz _
theorem Zu4 {α : Type} {j : Int} {x : α} (h0 : 0 ≤ j) (h1 : j ≤ 1000000) : (if rOk j = true then some x else none) = some x := if_pos (Zh4 (by omega) h1)
theorem Zum {α : Type} {i j : Int} {x : α} (h0 : 0 ≤ i) (h1 : i ≤ 1000000) (h2 : 0 ≤ j) (h3 : j ≤ 1000000) : (if (rOk i && rOk j) = true then some x else none) = some x := if_pos (by rw [Zh4 (by omega) h1, Zh4 (by omega) h3]; rfl)
theorem Zz7 {r : RS} {k : Nat} (h : k ≤ 1000000) : (if k < sizeLine then r else .bad) = r := if_pos (by rw [sizeLine_eq]; omega)
end L2
namespace L2
open PySem PySem.Spec PyProof.Rows
noncomputable def EvV (e : FE) (δ : Zn) (d : PyData) : Prop := ∃ t, e δ = some (t, δ) ∧ t.data = d
noncomputable def EvA (a : FA) (δ : Zn) (ds : List PyData) : Prop := ∃ ts, a δ = some (ts, δ) ∧ OT.datas ts = ds
noncomputable def EvT (t : FT) (δ : Zn) (b : Bool) : Prop := t δ = some (b, δ)
noncomputable def Told (F : FD) (ds : List PyData) (d : PyData) : Prop := ∃ t, F ds = .ok t ∧ t.data = d
section
variable {e a b : FE} {as : FA} {δ δ' : Zn} {x y d : PyData} {xs ds : List PyData} {i j : Nat} {p q : Bool} {t u : FT} {S S' : FS} {r : RS}
theorem EvV.cast {e : FE} {δ : Zn} {x y : PyData} (h : EvV e δ x) (k : x = y) : EvV e δ y := k ▸ h
theorem Zc (h : δ[i]? = some (some (.fz d)) := by rfl) : EvV (Zh i) δ d := ⟨_, by rw [Zvp, h, Zw4], OT.data_fz _⟩
theorem Zyn {t : OT} (h : δ[i]? = some (some t)) (hd : t.data = d) : EvV (Zrk i) δ d := ⟨_, by rw [Zwm, h, Zxi], by rw [OT.data_fz, hd]⟩
theorem Yt : EvV (fC d) δ d := ⟨_, rfl, OT.data_fz _⟩
theorem Zz {g : PyData → PyData → Option PyData} (ha : EvV a δ x) (hb : EvV b δ y) (h : g x y = some d) : EvV (Zm g a b) δ d := by
  obtain ⟨_, e1, d1⟩ := ha
  obtain ⟨_, e2, d2⟩ := hb
  exact ⟨_, by rw [Zrx, e1, Option.bind_some, e2, Option.bind_some, d1, d2, h, Option.bind_some], OT.data_fz _⟩
theorem Zts {g : PyData → PyData → Option OT} {o : OT} (ha : EvV a δ x) (hb : EvV b δ y) (h : g x y = some o) (hd : o.data = d) : EvV (We g a b) δ d := by
  obtain ⟨_, e1, d1⟩ := ha
  obtain ⟨_, e2, d2⟩ := hb
  exact ⟨_, by rw [Zvc, e1, Option.bind_some, e2, Option.bind_some, d1, d2, h, Option.bind_some], hd⟩
theorem Zek (ha : EvV a δ x) (hb : EvV b δ y) (h : gIx x y = some (.fz d)) : EvV (We gIx a b) δ d := Zts ha hb h (OT.data_fz _)
theorem Zc4 {i j : Int} (ha : EvV a δ (.int i)) (hb : EvV b δ (.int j)) : EvV (Zm Zhs a b) δ (.int (i + j)) := Zz ha hb rfl
theorem Zif {i j : Int} (ha : EvV a δ (.int i)) (hb : EvV b δ (.int j)) : EvV (Zm gSb a b) δ (.int (i - j)) := Zz ha hb rfl
theorem Z30 {g : PyData → Option PyData} (ha : EvV a δ x) (h : g x = some d) : EvV (fUn g a) δ d := by
  obtain ⟨_, e1, d1⟩ := ha
  exact ⟨_, by rw [Zyf, e1, Option.bind_some, d1, h, Option.bind_some], OT.data_fz _⟩
theorem Zru (ha : EvV a δ (.bool true)) (hb : EvV b δ d) : EvV (Zxc a b) δ d := by
  obtain ⟨_, e1, d1⟩ := ha
  obtain ⟨_, e2, d2⟩ := hb
  exact ⟨_, by rw [Zuv, e1, Option.bind_some, d1, Z2e, e2], d2⟩
theorem Zy9 {T : String} (ha : EvV a δ x) (hf : Zje x = false := by rfl) : EvV (Zr6 T a) δ (.bool (Zn7 T x)) := by
  obtain ⟨_, e1, d1⟩ := ha
  exact ⟨_, by rw [Zv3, e1, Option.bind_some, d1, if_neg (by rw [hf]; decide)], OT.data_fz _⟩
theorem Zq : EvA Z5 δ [] := ⟨_, rfl, Zg5⟩
theorem Zd (h : EvV e δ d) (k : EvA as δ ds) : EvA (Ze e as) δ (d :: ds) := by
  obtain ⟨_, e1, d1⟩ := h
  obtain ⟨_, e2, d2⟩ := k
  exact ⟨_, by rw [Zrm, e1, Option.bind_some, e2, Option.bind_some], by rw [Zf2, d1, d2]⟩
theorem Zv {F : FD} (h : EvA as δ ds) (k : Told F ds d) : EvV (Z7 F as) δ d := by
  obtain ⟨_, e1, d1⟩ := h
  obtain ⟨_, e2, d2⟩ := k
  exact ⟨_, by rw [Zmb, e1, Option.bind_some, d1, e2, Z0x], d2⟩
theorem Zgf {g : List PyData → Option PyData} (h : EvA as δ ds) (k : g ds = some d) : EvV (Zij g as) δ d := by
  obtain ⟨_, e1, d1⟩ := h
  exact ⟨_, by rw [Zv2, e1, Option.bind_some, d1, k, Option.bind_some], OT.data_fz _⟩
theorem Zvr {g : List PyData → Option OT} {o : OT} (h : EvA as δ ds) (k : g ds = some o) (hd : o.data = d) : EvV (fBl g as) δ d := by
  obtain ⟨_, e1, d1⟩ := h
  exact ⟨_, by rw [Zyv, e1, Option.bind_some, d1, k, Option.bind_some], hd⟩
theorem Zg6 : ∀ ts : List OT, (OT.datas ts).length = ts.length
  | [] => by rw [Zg5]; rfl
  | t :: ts => by rw [Zf2, List.length_cons, List.length_cons, Zg6 ts]
theorem datas_map : ∀ ts : List OT, OT.datas ts = ts.map OT.data
  | [] => Zg5
  | t :: ts => by rw [Zf2, List.map_cons, datas_map ts]
theorem Zei (h : EvA as δ ds) (hl : ds.length ≤ 1000) : EvV (Zfl as) δ (.tuple ds) := by
  obtain ⟨ts, e1, d1⟩ := h
  have := Zg6 ts
  rw [d1] at this
  exact ⟨_, by rw [Zlm, e1, Option.bind_some, if_pos (by rw [sizeLine_eq]; show ts.length ≤ _; omega)], by rw [OT.data_fz]; exact congrArg _ d1⟩
theorem Zjj (h : EvA as δ ds) (hl : ds.length ≤ 1000) : EvV (Zjm as) δ (.list ds) := by
  obtain ⟨ts, e1, d1⟩ := h
  have := Zg6 ts
  rw [d1] at this
  exact ⟨_, by rw [Zom, e1, Option.bind_some, if_pos (by rw [sizeLine_eq]; show ts.length ≤ _; omega)], by rw [OT.data_nd, ← datas_map, d1]⟩
theorem Zjs {o : OT} {b : Bool} (h : o.data = .bool b) : o = .fz (.bool b) := by
  cases o with
  | fz d => rw [OT.data_fz] at h; rw [h]
  | nd ts => rw [OT.data_nd] at h; cases h
  | tp ts => rw [OT.data_tp] at h; cases h
theorem Zej (h : EvV e δ (.bool p)) : EvT (tV e) δ p := by
  obtain ⟨_, e1, d1⟩ := h
  unfold EvT
  rw [Z3n, e1, Option.bind_some, Zjs d1, Zya]
theorem Z7u (h : EvV e δ d) (k : Zr2 d = some p) : EvT (tD e) δ p := by
  obtain ⟨_, e1, d1⟩ := h
  unfold EvT
  rw [Z4j, e1, Option.bind_some, d1, k, Option.bind_some]
theorem Znk (h : EvV e δ (.bool p)) : EvT (tD e) δ p := Z7u h rfl
theorem Zqg (h : EvT t δ p) : EvT (tNo t) δ (!p) := by
  unfold EvT at h ⊢
  rw [Zx4, h, Option.bind_some]
theorem Z20 (h : EvT t δ true) (k : EvT u δ p) : EvT (tAn t u) δ p := by
  unfold EvT at h k ⊢
  rw [Zt1, h, Option.bind_some, if_pos rfl, k]
theorem Zv7 (h : EvT t δ false) : EvT (tAn t u) δ false := by
  unfold EvT at h ⊢
  rw [Zt1, h, Option.bind_some, if_neg Bool.false_ne_true]
theorem Zto (h : EvT t δ false) (k : EvT u δ p) : EvT (tO t u) δ p := by
  unfold EvT at h k ⊢
  rw [Z3k, h, Option.bind_some, if_neg Bool.false_ne_true, k]
theorem Yx (h : S δ = .nx δ') (k : S' δ' = r) : Yu S S' δ = r := by rw [Zos, h, Zyl, k]
theorem Zq1 {o : OT} (h : S δ = .rt o δ') : Yu S S' δ = .rt o δ' := by rw [Zos, h, Zzq]
theorem Z9 (h : EvV e δ d) : wE e (Ju i) δ = .nx (δ.set i (some (.fz d))) := by
  obtain ⟨_, e1, d1⟩ := h
  rw [Zgm, e1, Jd, Zqy, d1]
theorem Zx0 (h : EvV e δ d) : ∃ o, wE e Zbg δ = .rt o δ ∧ o.data = d := by
  obtain ⟨_, e1, d1⟩ := h
  exact ⟨_, by rw [Zgm, e1, Jd, Zp5], d1⟩
theorem Zdd (h : EvT t δ true) (k : S δ = r) : Zem t S S' δ = r := by
  unfold EvT at h
  rw [Zpm, h, Jd, if_pos rfl, k]
theorem Jy (h : EvT t δ false) (k : S' δ = r) : Zem t S S' δ = r := by
  unfold EvT at h
  rw [Zpm, h, Jd, if_neg (by decide), k]
theorem Z6s {F : FD} {k : OT → Zn → RS} (h : EvA as δ ds) (hF : Told F ds d) (hk : ∀ o, o.data = d → k o δ = r) : wX F as k δ = r := by
  obtain ⟨_, e1, d1⟩ := h
  obtain ⟨o, e2, d2⟩ := hF
  rw [Z1f, e1, Jd, d1, e2, Ztj, hk o d2]
noncomputable def Zmr (S : FS) (δ : Zn) (d : PyData) : Prop := ∃ o δ', S δ = .rt o δ' ∧ o.data = d
theorem Y9 (h : S δ = .nx δ') (k : Zmr S' δ' d) : Zmr (Yu S S') δ d := by
  obtain ⟨o, δ2, e, hd⟩ := k
  exact ⟨o, δ2, Yx h e, hd⟩
theorem Zl5 (k : Zmr S δ d) : Zmr (Yu S S') δ d := by
  obtain ⟨o, δ2, e, hd⟩ := k
  exact ⟨o, δ2, Zq1 e, hd⟩
theorem Jz (h : EvV e δ d) : Zmr (wE e Zbg) δ d := by
  obtain ⟨o, e1, hd⟩ := Zx0 h
  exact ⟨o, δ, e1, hd⟩
theorem Zpz (h : EvT t δ true) (k : Zmr S δ d) : Zmr (Zem t S S') δ d := by
  obtain ⟨o, δ2, e, hd⟩ := k
  exact ⟨o, δ2, Zdd h e, hd⟩
theorem Yv {np n : Nat} (hl : xs.length = np) (k : Zmr S (Zkx n xs) d) : Told (Zbe np n S) xs d := by
  obtain ⟨o, δ2, e, hd⟩ := k
  exact ⟨o, by rw [Zjb hl, e, Zvs], hd⟩
noncomputable def EvO (o : FO) (δ : Zn) (l : Option Int) : Prop := o δ = some (l, δ)
theorem Z5m : EvO oN δ none := rfl
theorem Z1u {i : Int} (h : EvV e δ (.int i)) : EvO (oI e) δ (some i) := by
  obtain ⟨_, e1, d1⟩ := h
  unfold EvO
  rw [Z3o, e1, Option.bind_some, d1, Zqb]
theorem Z19 {lo hi : FO} {l h : Option Int} (he : EvV e δ (.list ds)) (hl : EvO lo δ l) (hh : EvO hi δ h) : EvV (fSl e lo hi) δ (.list (cutD ds l h)) := by
  obtain ⟨_, e1, d1⟩ := he
  unfold EvO at hl hh
  exact ⟨_, by rw [Zzg, e1, Option.bind_some, hl, Option.bind_some, hh, Option.bind_some, d1, Zqv], by rw [OT.data_nd, OT.map_fz]⟩
theorem Zpp {es : List PyData} (ha : EvV a δ (.list ds)) (hb : EvV b δ (.list es)) (h : ds.length + es.length ≤ 1000000) : EvV (We Zn8 a b) δ (.list (ds ++ es)) :=
  Zts ha hb (Zzj (by rw [sizeLine_eq]; omega)) (by rw [OT.data_nd, OT.map_fz])
noncomputable def EvI (it : FI) (δ : Zn) (ds : List PyData) : Prop := it δ = some (ds, δ)
theorem Zch (h : EvV e δ (.list ds)) : EvI (Zf7 e) δ ds := by
  obtain ⟨_, e1, d1⟩ := h
  unfold EvI
  rw [Zv6, e1, Option.bind_some, d1, Zqv]
theorem Znz {n : Nat} (h : EvA as δ [.int n]) (hn : n ≤ 1000000) : EvI (iRa as) δ (Zjh 0 n) := by
  obtain ⟨_, e1, d1⟩ := h
  unfold EvI
  rw [Z0l, e1, Option.bind_some, d1, Z2d, Zu4 (by omega) (by omega), Int.toNat_natCast]
theorem Zl0 {it : FI} {g : FG} (h : EvI it δ ds) (k : forLoop g S ds δ = r) : Zf0 it g S δ = r := by
  unfold EvI at h
  rw [Zvt, h, Jd, k]
theorem Zcu {α : Type} {caps : List Nat} {it : FI} {me : FE} {cs : Zn} (xs : List α) (mk f : α → PyData) (hi : EvI it δ (xs.map mk)) (hz : xs.length ≤ 1000000) (hb : blk 1 caps δ = none :: cs) (h : ∀ x ∈ xs, EvV me (some (.fz (mk x)) :: cs) (f x)) : EvV (Ja 1 caps it (gNm 0) Ze6 me) δ (.list (xs.map f)) := by
  have g : ∀ x, ∃ o : OT, x ∈ xs → me (some (.fz (mk x)) :: cs) = some (o, some (.fz (mk x)) :: cs) ∧ o.data = f x := fun x => by
    by_cases c : x ∈ xs
    · obtain ⟨o, h1, h2⟩ := h x c
      exact ⟨o, fun _ => ⟨h1, h2⟩⟩
    · exact ⟨.fz .none, fun z => absurd z c⟩
  obtain ⟨o, ho⟩ := Classical.axiomOfChoice g
  unfold EvI at hi
  refine ⟨_, Zgr (cs := cs) xs mk o hi (by rw [sizeLine_eq]; omega) hb (fun x hx => (ho x hx).1), ?_⟩
  rw [OT.data_nd, List.map_map]
  exact congrArg _ (List.map_congr_left fun x hx => (ho x hx).2)
theorem Zkn {ts : List OT} (h : EvV e δ d) (hi : δ[i]? = some (some (.nd ts))) (hl : ts.length ≤ 1000000) : Jx i e δ = .nx (δ.set i (some (.nd (ts ++ [.fz d])))) := by
  obtain ⟨_, e1, d1⟩ := h
  rw [Zm7, hi, Z06, e1, Jd, hi, Z06, Zz7 hl, d1]
theorem Zjd {o : OT} (h : e δ = some (o, δ)) : wE e (Zeu i) δ = .nx (δ.set i (some o)) := by rw [Zgm, h, Jd, Zrg]
theorem Z3b {o : OT} (h : δ[i]? = some (some o)) (hd : o.data = d) : Zmr (Ze3 i) δ d := ⟨o, _, by rw [Zrz, h, Zy4], hd⟩
theorem Zou {o : OT} (h : δ[i]? = some (some o)) (k : S (δ.set i (some (.fz o.data))) = r) : Zhh i S δ = r := by rw [Zm6, h, Zy4, k]
theorem Told.ok {F : FD} {b : Bool} (h : Told F ds (.bool b)) : F ds = .ok (.fz (.bool b)) := by
  obtain ⟨o, e1, d1⟩ := h
  rw [e1, Zjs d1]
theorem Zrj {o : OT} {i : Int} (h : o.data = .int i) : o = .fz (.int i) := by
  cases o with
  | fz d => rw [OT.data_fz] at h; rw [h]
  | nd ts => rw [OT.data_nd] at h; cases h
  | tp ts => rw [OT.data_tp] at h; cases h
theorem Told.int {F : FD} {i : Int} (h : Told F ds (.int i)) : F ds = .ok (.fz (.int i)) := by
  obtain ⟨o, e1, d1⟩ := h
  rw [e1, Zrj d1]
theorem Zqk {o : OT} (h : o.data = .none) : o = .fz .none := by
  cases o with
  | fz d => rw [OT.data_fz] at h; rw [h]
  | nd ts => rw [OT.data_nd] at h; cases h
  | tp ts => rw [OT.data_tp] at h; cases h
theorem Told.of {F : FD} {o : OT} (h : F ds = .ok o) (hd : o.data = d) : Told F ds d := ⟨o, h, hd⟩
end
end L2
namespace L2
open PySem PySem.Spec PyProof.Rows
section
variable {e a b : FE} {as : FA} {δ δ' : Zn} {x y d : PyData} {xs ds : List PyData} {i j : Int} {k : Nat} {p q : Bool} {t u : FT} {S S' : FS} {r : RS} {Q : PyData → Prop}
theorem Jf (ha : EvV a δ (.int i)) (hb : EvV b δ (.int j)) (h : j ≠ 0) : EvV (Zm Zdc a b) δ (.int (i.fmod j)) := Zz ha hb (Zyg h)
theorem Zyo {i j : Int} (h : (decide (0 < j) && decide (j < 18446744073709551616)) = true) : Zad (.int i) (.int j) = some (.int (i.fdiv j)) := by
  rw [Bool.and_eq_true, decide_eq_true_eq, decide_eq_true_eq] at h
  exact Zhl (Zhp (n := 64) (by omega) (Bt.of_lt (by omega) (by omega)))
theorem Za9 (ha : EvV a δ (.int i)) (hb : EvV b δ (.int j)) (h : (decide (0 < j) && decide (j < 18446744073709551616)) = true := by decide) : EvV (Zm Zad a b) δ (.int (i.fdiv j)) := Zz ha hb (Zyo h)
theorem Zfu (ha : EvV a δ (.int i)) (hb : EvV b δ (.int j)) (h : i.natAbs < 2 ^ 64 := by decide) : EvV (Zm Ze1 a b) δ (.int (i * j)) := Zz ha hb (Zby (Zx2 h))
theorem Zlj (ha : EvV a δ (.int i)) (hb : EvV b δ (.int j)) (h : j.natAbs < 2 ^ 64 := by decide) : EvV (Zm Ze1 a b) δ (.int (i * j)) := Zz ha hb (Zby (Zzx h))
theorem Zg2 (ha : EvV a δ (.int i)) (hb : EvV b δ (.int j)) (h : decide (i < j) = p) : EvV (Zm gLt a b) δ (.bool p) := h ▸ Zz ha hb rfl
theorem Zsr (ha : EvV a δ (.int i)) (hb : EvV b δ (.int j)) (h : decide (j < i) = p) : EvV (Zm gGt a b) δ (.bool p) := h ▸ Zz ha hb (Z26 _ _)
theorem Zvx (ha : EvV a δ (.int i)) (hb : EvV b δ (.int j)) (h : decide (j ≤ i) = p) : EvV (Zm gGe a b) δ (.bool p) := h ▸ Zz ha hb (Z39 _ _)
theorem Znb (ha : EvV a δ (.int i)) (hb : EvV b δ (.int j)) (h : decide (i = j) = p) : EvV (Zm gEq a b) δ (.bool p) := h ▸ Zz ha hb (Z2p _ _)
theorem Zr4 (ha : EvV a δ (.int i)) (hb : EvV b δ (.int j)) (h : (!decide (i = j)) = p) : EvV (Zm gNe a b) δ (.bool p) := h ▸ Zz ha hb (Z2b _ _)
theorem Zt9 (ha : EvV a δ (.int i)) : EvV (fUn Zz5 a) δ (.int (-i)) := Z30 ha (Zy7 _)
theorem Zpk {ds : List PyData} (h : EvV e δ (.list ds)) : EvV (Zij Zn3 (Ze e Z5)) δ (.int ds.length) := Zgf (Zd h Zq) (Zz6 ds)
theorem Zt8 (ha : EvV a δ (.list ds)) (hb : EvV b δ (.int i)) (h : atI ds i = some d) : EvV (We gIx a b) δ d := Zek ha hb (by rw [Zrf, h]; rfl)
noncomputable def Zqo (S : FS) (δ : Zn) (Q : PyData → Prop) : Prop := ∃ d, Zmr S δ d ∧ Q d
theorem Za6 (h : S δ = .nx δ') (k : Zqo S' δ' Q) : Zqo (Yu S S') δ Q := k.imp fun _ k => ⟨Y9 h k.1, k.2⟩
theorem Zgu (k : Zqo S δ Q) : Zqo (Yu S S') δ Q := k.imp fun _ k => ⟨Zl5 k.1, k.2⟩
theorem Zg8 (h : EvV e δ d) (k : Q d) : Zqo (wE e Zbg) δ Q := ⟨d, Jz h, k⟩
theorem Zio (h : EvT t δ true) (k : Zqo S δ Q) : Zqo (Zem t S S') δ Q := k.imp fun _ k => ⟨Zpz h k.1, k.2⟩
theorem Z10 {o : OT} (h : δ[k]? = some (some o)) (hd : Q o.data) : Zqo (Ze3 k) δ Q := ⟨_, Z3b h rfl, hd⟩
theorem Znf {np n : Nat} (hl : xs.length = np) (h : Zqo S (Zkx n xs) Q) : ∃ d, Told (Zbe np n S) xs d ∧ Q d := h.imp fun _ k => ⟨Yv hl k.1, k.2⟩
theorem Zmx {it : FI} {g : FG} (I : Nat → Zn → Prop) (hi : EvI it δ ds) (h0 : I 0 δ) (turn : ∀ (i : Nat) (d : PyData) (δ : Zn), ds[i]? = some d → I i δ → ∃ δ1 δ2, g d δ = some δ1 ∧ (S δ1 = .nx δ2 ∨ S δ1 = .ct δ2) ∧ I (i + 1) δ2) (k : ∀ δ', I ds.length δ' → Zqo S' δ' Q) : Zqo (Yu (Zf0 it g S) S') δ Q := by
  obtain ⟨δ', e, h⟩ := Zl8 I h0 turn
  exact Za6 (Zl0 hi e) (k δ' h)
theorem Zqq {it : FI} {g : FG} (I : Nat → Zn → Prop) (hi : EvI it δ ds) (h0 : I 0 δ) (turn : ∀ (i : Nat) (d : PyData) (δ : Zn), ds[i]? = some d → I i δ → ∃ δ1 δ2, g d δ = some δ1 ∧ (S δ1 = .nx δ2 ∨ S δ1 = .ct δ2) ∧ I (i + 1) δ2) (k : ∀ δ', I ds.length δ' → Zmr S' δ' d) : Zmr (Yu (Zf0 it g S) S') δ d := by
  obtain ⟨δ', e, h⟩ := Zl8 I h0 turn
  exact Y9 (Zl0 hi e) (k δ' h)
theorem Zi6 {it : FI} {g : FG} (I : Nat → Zn → Prop) (hi : EvI it δ ds) (h0 : I 0 δ) (turn : ∀ (i : Nat) (d : PyData) (δ : Zn), ds[i]? = some d → I i δ → ∃ δ1 δ2, g d δ = some δ1 ∧ (S δ1 = .nx δ2 ∨ S δ1 = .ct δ2) ∧ I (i + 1) δ2) : ∃ δ', Zf0 it g S δ = .nx δ' ∧ I ds.length δ' := by
  obtain ⟨δ', e, h⟩ := Zl8 I h0 turn
  exact ⟨δ', Zl0 hi e, h⟩
theorem Z37 {m n : Nat} (h : EvA as δ [.int m, .int n]) (hm : m ≤ 1000000) (hn : n ≤ 1000000) : EvI (iRb as) δ (Zjh m (n - m)) := by
  obtain ⟨_, e1, d1⟩ := h
  unfold EvI
  rw [Zy6, e1, Option.bind_some, d1, Z4e, Zum (by omega) (by omega) (by omega) (by omega), show ((n : Int) - (m : Int)).toNat = n - m by omega]
theorem Z27 {m n : Nat} (h : EvA as δ [.int m, .int n, .int (-1)]) (hm : m ≤ 1000000) (hn : n ≤ 1000000) : EvI (iRc as) δ (Zpy m (m - n)) := by
  obtain ⟨_, e1, d1⟩ := h
  unfold EvI iRc
  rw [e1, Option.bind_some, d1]
  show (if (-1 : Int) = -1 ∧ rOk m = true ∧ rOk n = true then some ((m : Int), (n : Int)) else none).bind _ = _
  rw [if_pos ⟨rfl, Zh4 (by omega) (by omega), Zh4 (by omega) (by omega)⟩, Option.bind_some, show ((m : Int) - (n : Int)).toNat = m - n by omega]
theorem Zjz : wE (Zjm Z5) (Zeu k) δ = .nx (δ.set k (some (.nd []))) := Zjd (by rw [Zom]; rfl)
theorem Za8 {i : Int} (h : 0 < j) : 0 ≤ i.fmod j := by rw [Zfi h]; exact Int.emod_nonneg _ (by omega)
theorem Zbz {i : Int} (h : 0 < j) : i.fmod j < j := by rw [Zfi h]; exact Int.emod_lt_of_pos _ h
theorem Zwg {es : List PyData} (h : EvA as δ ds) (hz : Zzi ds = some es) : EvI (Zfa as) δ es := by
  obtain ⟨_, e1, d1⟩ := h
  unfold EvI Zfa
  rw [e1, Option.bind_some, d1, hz, Option.bind_some]
theorem Zzm {n : Nat} (hn : n ≤ 1000000) {v : Option OT} : (Zw1 (fC d) (Zh 1)) [v, some (.fz (.int n))] = some (.nd (List.replicate n (.fz d)), [v, some (.fz (.int n))]) := by
  obtain ⟨_, e1, d1⟩ := Zc (δ := [v, some (.fz (.int n))]) (i := 1) (d := .int n)
  rw [Zk7, Z4g, Option.bind_some, e1, Option.bind_some, d1, Zqb, if_pos ⟨Zh4 (by omega) (by omega), by rw [sizeLine_eq]; omega⟩, Int.toNat_natCast, OT.data_fz]
theorem Zrr {it : FI} {g gg : FG} {δ1 : Zn} (I : Nat → Zn → Prop) {J : Zn → Prop} (hg : gg d δ = some δ1) (hi : EvI it δ1 ds) (h0 : I 0 δ1) (turn : ∀ (i : Nat) (d : PyData) (δ : Zn), ds[i]? = some d → I i δ → ∃ δ1 δ2, g d δ = some δ1 ∧ (S δ1 = .nx δ2 ∨ S δ1 = .ct δ2) ∧ I (i + 1) δ2) (hJ : ∀ δ', I ds.length δ' → J δ') : ∃ δ1 δ2, gg d δ = some δ1 ∧ (Zf0 it g S δ1 = .nx δ2 ∨ Zf0 it g S δ1 = .ct δ2) ∧ J δ2 := by
  obtain ⟨δ', e, h⟩ := Zl8 I h0 turn
  exact ⟨δ1, δ', hg, .inl (Zl0 hi e), hJ δ' h⟩
theorem Zzh {T : String} (ha : EvV a δ x) (h : Zn7 T x = p) (hf : Zje x = false := by rfl) : EvV (Zr6 T a) δ (.bool p) := (Zy9 ha hf).cast (by rw [h])
theorem Z4w {F : FD} (h : EvA as δ ds) (hF : Told F ds d) : Zmr (wX F as Zbg) δ d := by
  obtain ⟨_, e1, d1⟩ := h
  obtain ⟨o, e2, d2⟩ := hF
  exact ⟨o, δ, by rw [Z1f, e1, Jd, d1, e2, Ztj, Zp5], d2⟩
theorem Zft {a b : FE} {bs es : List PyData} {as : List PyData} (ha : EvV a δ (.list as)) (hb : EvV b δ (.list bs)) (hz : Zj2 as bs = es) : EvI (Zfa (Ze a (Ze b Z5))) δ es := Zwg (Zd ha (Zd hb Zq)) (congrArg some hz)
theorem Told.none {F : FD} (h : Told F ds .none) : F ds = .ok (.fz .none) := by
  obtain ⟨o, e1, d1⟩ := h
  rw [e1, Zqk d1]
end
end L2
namespace My
open PySem L2 PySem.Spec
noncomputable def Zae : FS :=
  (Yu (wE (Zij Zwb (Ze (Zh 0) Z5)) (Ju 0))
    (Yu (wE (Zij Zwb (Ze (Zh 1) Z5)) (Ju 1))
    (Yu (Zia (tV (Zm gNe (Zh 1) (fC (.int 0)))) (Yu (wE (Zm Zdc (Zh 0) (Zh 1)) (Ju 2))
    (Yu (wE (Zh 1) (Ju 0))
    (wE (Zh 2) (Ju 1)))))
    (wE (Zh 0) Zbg))))
noncomputable def Yn : FD := Zbe 2 3 Zae
theorem Zi2 {f1 f2 : Int → Int → Option OT → Zn} {t : FT} {u : FS} (ht : ∀ x y z, t (f1 x y z) = some (!decide (y = 0), f1 x y z)) (hu : ∀ x y z, y ≠ 0 → ∃ z', u (f1 x y z) = .nx (f1 y (x.fmod y) z')) :
    ∀ (n : Nat) (x y : Int) (z : Option OT), 0 ≤ x → 0 ≤ y → y.toNat < n → ∃ z', whileLoop t u n (f1 x y z) = .nx (f1 (Int.gcd x y : Int) 0 z')
  | 0, _, _, _, _, _, h => absurd h (Nat.not_lt_zero _)
  | n + 1, x, y, z, hx, hy, h => by
    unfold whileLoop
    rw [ht]
    dsimp only
    by_cases c : y = 0
    · subst c
      refine ⟨z, ?_⟩
      simp only [decide_true, Bool.not_true, Bool.false_eq_true, if_false]
      rw [Int.gcd_zero_right]
      congr 2
      omega
    · simp only [c, decide_false, Bool.not_false, if_true]
      obtain ⟨z1, e1⟩ := hu x y z c
      rw [e1]
      dsimp only
      have hm : x.fmod y = x % y := Zfi (by omega)
      have h1 : 0 ≤ x % y := Int.emod_nonneg x c
      have h2 : x % y < y := Int.emod_lt_of_pos x (by omega)
      obtain ⟨z2, e2⟩ := Zi2 (f1 := f1) (f2 := f2) ht hu n y (x.fmod y) z1 hy (by omega) (by omega)
      exact ⟨z2, by rw [e2, Zsj hx (by omega)]⟩
theorem Zb1 (a b : Int) : Yn [.int a, .int b] = .ok (.fz (.int (Int.gcd a b : Int))) := by
  obtain ⟨z', e⟩ := Zi2 (f1 := fun x y z => [some (.fz (.int x)), some (.fz (.int y)), z]) (f2 := fun x y z => []) (t := tV (Zm gNe (Zh 1) (fC (.int 0)))) (u := Yu (wE (Zm Zdc (Zh 0) (Zh 1)) (Ju 2)) (Yu (wE (Zh 1) (Ju 0)) (wE (Zh 2) (Ju 1)))) (fun x y z => Zej (Zr4 Zc Yt rfl)) (fun x y z hy => ⟨_, Yx (Z9 (Jf Zc Zc hy)) (Yx (Z9 Zc) (Z9 Zc))⟩) ((b.natAbs : Int).toNat + 1) (a.natAbs : Int) (b.natAbs : Int) none (by omega) (by omega) (by omega)
  rw [Int.gcd_eq_natAbs_gcd_natAbs, Int.natAbs_natCast, Int.natAbs_natCast] at e
  exact Told.int <| Yv rfl <| Y9 (Z9 (Zgf (Zd Zc Zq) (Zmh a))) <| Y9 (Z9 (Zgf (Zd Zc Zq) (Zmh b))) <| Y9 (Zkf _ e (by intro z; cases z)) (Jz Zc)
noncomputable def Zd0 : FS :=
  (Yu (wE (Z7 Yn (Ze (Zh 0) (Ze (Zh 1) Z5))) (Ju 2))
    (Yu (Zem (tV (Zm gLt (Zh 1) (fC (.int 0))))
    (wE (fUn Zz5 (Zh 2)) (Ju 2))
    fNx)
    (wE (Zfl (Ze (Zm Zad (Zh 0) (Zh 2)) (Ze (Zm Zad (Zh 1) (Zh 2)) Z5))) Zbg)))
noncomputable def Zag : FD := Zbe 2 3 Zd0
theorem Z0u {n : Nat} {t b : Int} (hb : b ≠ 0) (hB : Bt n b) (hn : n ≤ 9000) (s : Int) (e : s = shr t b) : Zad (.int t) (.int s) = some (.int (Rat.divInt t b).num) ∧ Zad (.int b) (.int s) = some (.int ((Rat.divInt t b).den : Int)) := by
  subst e
  rw [Zhl (Zhp (Zub hb) (Zt7 hb hB) hn), Zhl (Zhp (Zub hb) (Zt7 hb hB) hn), Zur hb, Zwa hb]
  exact ⟨rfl, rfl⟩
theorem Zhf {n : Nat} {t b : Int} (hb : b ≠ 0) (hB : Bt n b) (hn : n ≤ 9000 := by decide) : Told Zag [.int t, .int b] (frD (Rat.divInt t b)) := by
  have fin : ∀ {δ : Zn} {s : Int}, s = shr t b → δ[0]? = some (some (.fz (.int t))) → δ[1]? = some (some (.fz (.int b))) → δ[2]? = some (some (.fz (.int s))) → Zmr (wE (Zfl (Ze (Zm Zad (Zh 0) (Zh 2)) (Ze (Zm Zad (Zh 1) (Zh 2)) Z5))) Zbg) δ (frD (Rat.divInt t b)) := fun e h0 h1 h2 => by
    obtain ⟨e1, e2⟩ := Z0u hb hB hn _ e
    exact Jz (Zei (Zd (Zz (Zc h0) (Zc h2) e1) (Zd (Zz (Zc h1) (Zc h2) e2) Zq)) (show 2 ≤ 1000 by decide))
  have g : Told Yn [.int t, .int b] _ := .of (Zb1 t b) (OT.data_fz _)
  by_cases c : b < 0
  · exact Yv rfl <| Y9 (Z9 (Zv (Zd Zc (Zd Zc Zq)) g)) <| Y9 (Zdd (Zej (Zg2 Zc Yt (decide_eq_true c))) (Z9 (Zt9 Zc))) (fin (by unfold shr; rw [if_pos c]) rfl rfl rfl)
  · exact Yv rfl <| Y9 (Z9 (Zv (Zd Zc (Zd Zc Zq)) g)) <| Y9 (Jy (Zej (Zg2 Zc Yt (decide_eq_false c))) rfl) (fin (by unfold shr; rw [if_neg c]) rfl rfl rfl)
noncomputable def Zd2 : FS :=
  (wE (Zxc (Zr6 "int" (Zh 0)) (fUn Z1q (Zr6 "bool" (Zh 0)))) Zbg)
noncomputable def Jm : FD := Zbe 1 1 Zd2
theorem Zj9 (i : Int) : Jm [.int i] = .ok (.fz (.bool true)) := rfl
noncomputable def Zbs : FS :=
  (Yu (Zem (tO (tNo (tD (Z7 Jm (Ze (Zh 0) Z5)))) (tO (tNo (tD (Z7 Jm (Ze (Zh 1) Z5)))) (tV (Zm gEq (Zh 1) (fC (.int 0))))))
    (Zl7 "NoNumber")
    fNx)
    (wE (Z7 Zag (Ze (Zh 0) (Ze (Zh 1) Z5))) Zbg))
noncomputable def Wb : FD := Zbe 2 2 Zbs
theorem Zg0 {n : Nat} {t b : Int} (hb : b ≠ 0) (hB : Bt n b) (hn : n ≤ 9000 := by decide) : Told Wb [.int t, .int b] (frD (Rat.divInt t b)) := by
  have w : ∀ {i : Int}, Told Jm [.int i] (.bool true) := fun {i} => .of (Zj9 i) (OT.data_fz _)
  exact Yv rfl <| Y9 (Jy (Zto (Zqg (p := true) (Znk (Zv (Zd Zc Zq) w))) (Zto (Zqg (p := true) (Znk (Zv (Zd Zc Zq) w))) (Zej (Znb Zc Yt (decide_eq_false hb))))) rfl) (Jz (Zv (Zd Zc (Zd Zc Zq)) (Zhf hb hB hn)))
noncomputable def Zbf : FS :=
  (Yu (wE (fC (.int 1)) (Ju 1))
    (Yu (Zf0 (Zf7 (Zh 0)) (gNm 2)
    (wE (Zm Ze1 (Zm Zad (Zh 1) (Z7 Yn (Ze (Zh 1) (Ze (We gIx (Zh 2) (fC (.int 1))) Z5)))) (We gIx (Zh 2) (fC (.int 1)))) (Ju 1)))
    (wE (Zh 1) Zbg)))
noncomputable def Yo : FD := Zbe 1 3 Zbf
noncomputable def prD (p : Int × Int) : PyData := .tuple [.int p.1, .int p.2]
theorem Zsm {a b B : Int} (ha : 0 < a) (hb : 0 < b) (h1 : a ∣ B) (h2 : b ∣ B) (hB : 0 < B) : 0 < a.fdiv (Int.gcd a b) * b ∧ a ∣ a.fdiv (Int.gcd a b) * b ∧ b ∣ a.fdiv (Int.gcd a b) * b ∧ a.fdiv (Int.gcd a b) * b ∣ B := by
  have hg : 0 < (Int.gcd a b : Int) := Zff (by omega)
  have d1 : (Int.gcd a b : Int) ∣ a := Int.gcd_dvd_left ..
  have d2 : (Int.gcd a b : Int) ∣ b := Int.gcd_dvd_right ..
  rw [Wl hg]
  have e : a / (Int.gcd a b : Int) * b = (Int.lcm a b : Int) := by
    have q := Int.gcd_mul_lcm a b
    have h3 : (Int.gcd a b : Int) * (Int.lcm a b : Int) = a * b := by
      rw [← Int.natCast_mul, q, Int.natCast_mul, Int.natAbs_of_nonneg (by omega), Int.natAbs_of_nonneg (by omega)]
    obtain ⟨k, hk⟩ := d1
    have e1 : a / (Int.gcd a b : Int) = k := Int.ediv_eq_of_eq_mul_right (by omega) hk
    rw [e1]
    apply Int.eq_of_mul_eq_mul_left (a := (Int.gcd a b : Int)) (by omega)
    rw [h3, ← Int.mul_assoc, ← hk]
  rw [e]
  refine ⟨?_, Int.dvd_lcm_left .., Int.dvd_lcm_right .., Int.coe_lcm_dvd h1 h2⟩
  have : Int.lcm a b ≠ 0 := by
    rw [Ne, Int.lcm_eq_zero_iff]
    omega
  omega
theorem Zh9 {n : Nat} {a B : Int} (hB : 0 < B) (h : a ∣ B) (b : Bt n B) : Bt n a := by
  refine Bt.of_le b ?_
  have := Int.natAbs_dvd_natAbs.mpr h
  exact Nat.le_of_dvd (by omega) this
theorem Zc2 {n : Nat} {B : Int} (hB : 0 < B) (bB : Bt n B) (hn : n ≤ 9000 := by decide) (ps : List (Int × Int)) (h : ∀ p ∈ ps, 0 < p.2 ∧ p.2 ∣ B) :
    ∃ m, Told Yo [.list (ps.map prD)] (.int m) ∧ 0 < m ∧ (∀ p ∈ ps, p.2 ∣ m) ∧ m ∣ B := by
  have key : ∃ d, Told Yo [.list (ps.map prD)] d ∧ ∃ m, d = .int m ∧ 0 < m ∧ (∀ p ∈ ps, p.2 ∣ m) ∧ m ∣ B := by
    refine Znf rfl <| Za6 (Z9 Yt) <| Zmx (ds := ps.map prD) (fun i δ => ∃ m z, δ = [some (.fz (.list (ps.map prD))), some (.fz (.int m)), z] ∧ 0 < m ∧ (∀ j p, j < i → ps[j]? = some p → p.2 ∣ m) ∧ m ∣ B) (Zch Zc) ⟨1, none, rfl, by decide, fun j p hj => absurd hj (Nat.not_lt_zero j), Int.one_dvd _⟩ (fun i d δ hd hi => ?_) fun δ' hi => ?_
    · obtain ⟨m, z, hδ, h1, h2, h3⟩ := hi
      subst hδ
      rw [List.getElem?_map] at hd
      cases e : ps[i]? with
      | none => rw [e] at hd; cases hd
      | some p =>
        rw [e] at hd
        cases hd
        obtain ⟨q1, q2⟩ := h p (List.mem_of_getElem? e)
        obtain ⟨s1, s2, s3, s4⟩ := Zsm h1 q1 h3 q2 hB
        have g0 : 0 < (Int.gcd m p.2 : Int) := Zff (by omega)
        have bg : Bt n (Int.gcd m p.2 : Int) := Zh9 hB (Int.dvd_trans (Int.gcd_dvd_right ..) q2) bB
        have bm : Bt n (m.fdiv (Int.gcd m p.2)) := by
          rw [Wl g0]
          exact Bt.of_le (Zh9 hB h3 bB) (Int.natAbs_ediv_le_natAbs _ _)
        have at1 : ∀ {δ : Zn}, δ[2]? = some (some (.fz (prD p))) → EvV (We gIx (Zh 2) (fC (.int 1))) δ (.int p.2) := fun h => Zek (Zc h) Yt rfl
        refine ⟨_, _, rfl, .inl (Z9 (Zz (Zz Zc (Zv (Zd Zc (Zd (at1 rfl) Zq)) (.of (Zb1 m p.2) (OT.data_fz _))) (Zhl (Zhp (by omega) bg hn))) (at1 rfl) (Zby (Zas bm (Zh9 hB q2 bB) (by omega))))), _, _, rfl, s1, fun j p' hj hp => ?_, s4⟩
        by_cases z : j = i
        · subst z
          rw [e] at hp; cases hp
          exact s3
        · exact Int.dvd_trans (h2 j p' (by omega) hp) s2
    · obtain ⟨m, z, rfl, h1, h2, h3⟩ := hi
      refine Zg8 Zc ⟨m, rfl, h1, fun p hp => ?_, h3⟩
      obtain ⟨j, hj⟩ := List.getElem?_of_mem hp
      exact h2 j p (by have := (List.getElem?_eq_some_iff.mp hj).1; rwa [List.length_map]) hj
  obtain ⟨d, h, m, rfl, hm⟩ := key
  exact ⟨m, h, hm⟩
noncomputable def Zet : FS :=
  (Yu (wE (fC (.int 1)) (Ju 1))
    (Yu (Zf0 (Zf7 (Zh 0)) (gNm 2)
    (wE (Z7 Yo (Ze (We Zn8 (Zjm (Ze (Zfl (Ze (fC (.int 1)) (Ze (Zh 1) Z5))) Z5)) (Zh 2)) Z5)) (Ju 1)))
    (wE (Zh 1) Zbg)))
noncomputable def Zll : FD := Zbe 1 3 Zet
theorem Zuy (r : List Rat) : r.map frD = (r.map fun q => (q.num, (q.den : Int))).map prD := by rw [List.map_map]; rfl
noncomputable def scI (m : Int) (q : Rat) : Int := q.num * (m / (q.den : Int))
theorem Zmi {m : Int} {q : Rat} (h : (q.den : Int) ∣ m) : (scI m q : Rat) = q * (m : Rat) := by
  obtain ⟨k, rfl⟩ := h
  unfold scI
  rw [Int.mul_ediv_cancel_left _ (Zot q)]
  rw [Rat.intCast_mul, Rat.intCast_mul, Z7n, Rat.mul_assoc]
noncomputable def Zc1 : FS :=
  (wE (Ja 1 [0] (Zf7 (Zh 1)) (gNm 0) Ze6 (Zm Ze1 (We gIx (Zh 0) (fC (.int 0))) (Zm Zad (Zh 1) (We gIx (Zh 0) (fC (.int 1)))))) Zbg)
noncomputable def Wz : FD := Zbe 2 2 Zc1
theorem Zf9 {n : Nat} {m : Int} (hm : 0 < m) (bm : Bt n m) (r : List Rat) (hz : r.length ≤ 1000) (h : ∀ q ∈ r, (q.den : Int) ∣ m ∧ Bt n q.num) (hn : n ≤ 9000 := by decide) :
    Told Wz [.int m, Zcc r] (.list (r.map fun q => .int (scI m q))) :=
  Yv rfl <| Jz <| Zcu (cs := [some (.fz (.int m))]) r frD (fun q => .int (scI m q)) (Zch Zc) (by omega) rfl fun q hq => by
    obtain ⟨h1, h2⟩ := h q hq
    refine (Zz (Zek (d := .int q.num) Zc Yt rfl) (Zz Zc (Zek (d := .int (q.den : Int)) Zc Yt rfl) (Zhl (Zhp (Zot q) (Zh9 hm h1 bm) hn))) (Zby ?_)).cast ?_
    · rw [Wl (Zce q)]
      exact Zas h2 (Bt.of_le bm (Int.natAbs_ediv_le_natAbs _ _)) (by omega)
    · rw [Wl (Zce q)]; rfl
noncomputable def Zfw : FS :=
  (wE (Ja 1 [0] (Zf7 (Zh 1)) (gNm 0) Ze6 (Z7 Wz (Ze (Zh 1) (Ze (Zh 0) Z5)))) Zbg)
noncomputable def Zn5 : FD := Zbe 2 2 Zfw
noncomputable def Zdt : FS :=
  (Yu (wE (Zjm Z5) (Zeu 1))
    (Yu (Zf0 (iRa (Ze (Zh 0) Z5)) (gNm 2)
    (Zf0 (iRb (Ze (Zm Zhs (Zh 2) (fC (.int 1))) (Ze (Zh 0) Z5))) (gNm 3)
    (Jx 1 (Zfl (Ze (Zh 2) (Ze (Zh 3) Z5))))))
    (Ze3 1)))
noncomputable def Wc : FD := Zbe 1 4 Zdt
noncomputable def Zy (n : Nat) : List (Nat × Nat) := (List.range n).flatMap fun i => (List.range (n - (i + 1))).map fun j => (i, i + 1 + j)
noncomputable def ptD (p : Nat × Nat) : PyData := .tuple [.int p.1, .int p.2]
theorem J7 {n : Nat} {p : Nat × Nat} (h : p ∈ Zy n) : p.1 < p.2 ∧ p.2 < n := by
  unfold Zy at h
  obtain ⟨i, hi, hp⟩ := List.mem_flatMap.mp h
  obtain ⟨j, hj, rfl⟩ := List.mem_map.mp hp
  have := List.mem_range.mp hi
  have := List.mem_range.mp hj
  dsimp only
  omega
theorem Zcm {n i j : Nat} (h : i < j) (hj : j < n) : (i, j) ∈ Zy n := by
  unfold Zy
  exact List.mem_flatMap.mpr ⟨i, List.mem_range.mpr (by omega), List.mem_map.mpr ⟨j - (i + 1), List.mem_range.mpr (by omega), by congr 1; omega⟩⟩
noncomputable def Zh1 (n i : Nat) : List (Nat × Nat) := (List.range i).flatMap fun i => (List.range (n - (i + 1))).map fun j => (i, i + 1 + j)
theorem Ze5 (n : Nat) : ∀ i, (Zh1 n i).length ≤ i * n
  | 0 => by simp [Zh1]
  | i + 1 => by
    have := Ze5 n i
    unfold Zh1 at this ⊢
    rw [List.range_succ, List.flatMap_append, List.length_append]
    simp only [List.flatMap_cons, List.flatMap_nil, List.append_nil, List.length_map, List.length_range]
    have e : (i + 1) * n = i * n + n := by rw [Nat.succ_mul]
    omega
theorem Zm5 (n i : Nat) : Zh1 n (i + 1) = Zh1 n i ++ (List.range (n - (i + 1))).map fun j => (i, i + 1 + j) := by
  unfold Zh1; rw [List.range_succ, List.flatMap_append]; simp
theorem Zcx (n : Nat) (hn : n ≤ 1000) : Told Wc [.int n] (.list ((Zy n).map ptD)) := by
  refine Yv rfl <| Y9 Zjz <| Zqq (ds := Zjh 0 n) (fun i δ => ∃ z1 z2, δ = [some (.fz (.int n)), some (.nd (((Zh1 n i).map ptD).map OT.fz)), z1, z2]) (Znz (Zd Zc Zq) (by omega)) ⟨_, _, rfl⟩ (fun i d δ hd h => ?_) fun δ' h => ?_
  · obtain ⟨z1, z2, rfl⟩ := h
    obtain ⟨hi, rfl⟩ := Zgq hd
    rw [Int.zero_add]
    have ln := Ze5 n i
    have l2 : i * n ≤ 999 * 1000 := Nat.mul_le_mul (by omega) hn
    refine Zrr (ds := Zjh ((i + 1 : Nat) : Int) (n - (i + 1))) (fun j δ => ∃ z, δ = [some (.fz (.int n)), some (.nd (((Zh1 n i ++ (List.range j).map fun j => (i, i + 1 + j)).map ptD).map OT.fz)), some (.fz (.int i)), z]) rfl (Z37 (m := i + 1) (Zd (EvV.cast (Zc4 Zc Yt) rfl) (Zd Zc Zq)) (by omega) (by omega)) ⟨z2, by rw [List.range_zero, List.map_nil, List.append_nil]; rfl⟩ (fun j d δ hd h => ?_) fun δ' h => ?_
    · obtain ⟨z, rfl⟩ := h
      obtain ⟨hj, rfl⟩ := Zgq hd
      refine ⟨_, _, rfl, .inl (Zkn (Zei (Zd Zc (Zd Zc Zq)) (show 2 ≤ 1000 by decide)) rfl (by rw [List.length_map, List.length_map, List.length_append, List.length_map, List.length_range]; omega)), some (.fz (.int (((i + 1 : Nat) : Int) + j))), ?_⟩
      rw [List.range_succ]
      simp only [List.map_append, List.append_assoc]
      rfl
    · obtain ⟨z, rfl⟩ := h
      rw [Ze0, ← Zm5]
      exact ⟨_, _, rfl⟩
  · obtain ⟨z1, z2, rfl⟩ := h
    rw [Ze0]
    exact Z3b rfl (by rw [OT.data_nd, OT.map_fz]; rfl)
end My
namespace My
open PySem L2 PySem.Spec
noncomputable def Zcf : FS :=
  (Yu (Zem (tV (Zm gLt (Zh 1) (Zij Zn3 (Ze (Zh 0) Z5))))
    (wE (We gIx (Zh 0) (Zh 1)) Zbg)
    fNx)
    (wE (fC (.int 0)) Zbg))
noncomputable def Yi : FD := Zbe 2 2 Zcf
noncomputable def Zhk : FS :=
  (Yu (Zem (tV (Zm gEq (Zm Zdc (Zm Zad (Zh 0) (fC (.int 7))) (fC (.int 8))) (fC (.int 3))))
    (wE (Zm Zhs (Zm Zhs (Zh 2) (fC (.int 1))) (Zm Zdc (Zm Zad (Zh 0) (fC (.int 56))) (Zm gSb (Zh 3) (Zh 2)))) Zbg)
    fNx)
    (wE (Zm Zhs (Zh 1) (Zm Zdc (Zh 0) (Zm gSb (Zm Zhs (Zh 2) (fC (.int 1))) (Zh 1)))) Zbg))
noncomputable def Zpe : FD := Zbe 4 4 Zhk
noncomputable def Zhd : FS :=
  (Yu (wE (Zm Zdc (Zm Ze1 (Zm Zhs (Zm Zhs (Zm Zdc (Zh 0) (fC (.int 2147483629))) (Zm Ze1 (fC (.int 9973)) (Zh 1))) (fC (.int 5))) (fC (.int 48271))) (fC (.int 2147483647))) (Ju 2))
    (Yu (wE (Zm Zdc (Zm Ze1 (Zh 2) (Zh 2)) (fC (.int 2147483587))) (Ju 2))
    (wE (Zm Zad (Zm Zdc (Zm Ze1 (Zm Zhs (Zh 2) (Zm Ze1 (fC (.int 7919)) (Zh 1))) (fC (.int 16807))) (fC (.int 2147483563))) (fC (.int 8))) Zbg)))
noncomputable def Zhb : FD := Zbe 2 3 Zhd
noncomputable def Zfm : FS :=
  (Yu (wE (Zjm Z5) (Zeu 2))
    (Yu (wE (Zh 0) (Ju 3))
    (Yu (Zf0 (iRa (Ze (Zh 1) Z5)) (gNm 4)
    (Yu (wE (Z7 Zhb (Ze (Zh 0) (Ze (Zh 4) Z5))) (Ju 5))
    (Yu (Zem (tV (Zm gGe (Zh 0) (Zm Zk2 (fC (.int 10)) (fC (.int 18)))))
    (wE (Zm Zdc (Zh 3) (fC (.int 720720))) (Ju 5))
    fNx)
    (Yu (wE (Zm Zad (Zh 3) (fC (.int 720720))) (Ju 3))
    (Jx 2 (Zh 5))))))
    (Ze3 2))))
noncomputable def Zma : FD := Zbe 2 6 Zfm
noncomputable def Yc (p : List Int) : PyData := .list (p.map PyData.int)
theorem Zsx {p : List Int} {i : Int} (h0 : 0 ≤ i) (h1 : i < p.length) : atI (p.map PyData.int) i = some (.int (p.getD i.toNat 0)) := by
  rw [Zj7 h0, List.getElem?_map, List.getElem?_eq_getElem (by omega)]
  simp [List.getD_eq_getElem?_getD, List.getElem?_eq_getElem (show i.toNat < p.length by omega)]
theorem Ze7 {a b : FE} {δ : Zn} {p : List Int} {i : Int} (ha : EvV a δ (Yc p)) (hb : EvV b δ (.int i)) (h0 : 0 ≤ i) (h1 : i < p.length) : EvV (We gIx a b) δ (.int (p.getD i.toNat 0)) := Zt8 ha hb (Zsx h0 h1)
theorem Zfx {a : FE} {δ : Zn} {p : List Int} (ha : EvV a δ (Yc p)) : EvV (Zij Zn3 (Ze a Z5)) δ (.int p.length) := by
  have := Zpk (ds := p.map PyData.int) ha
  rwa [List.length_map] at this
theorem Z53 : Zk2 (.int 10) (.int 18) = some (.int 1000000000000000000) := rfl
theorem Zd7 (ns : List Int) {k : Int} (h0 : 0 ≤ k) : ∃ c, Yi [Yc ns, .int k] = .ok (.fz (.int c)) := by
  by_cases c : k < ns.length
  · exact ⟨_, Told.int <| Yv rfl <| Zl5 (Zpz (Zej (Zg2 Zc (Zfx Zc) (decide_eq_true c))) (Jz (Ze7 Zc Zc h0 c)))⟩
  · exact ⟨_, Told.int <| Yv rfl <| Y9 (Jy (Zej (Zg2 Zc (Zfx Zc) (decide_eq_false c))) rfl) (Jz Yt)⟩
theorem Zmm {i : Nat} {e : FE} {δ : Zn} {vs : List Int} {v : Int} (h : EvV e δ (.int v)) (hi : δ[i]? = some (some (.nd (vs.map fun v => .fz (.int v))))) (hl : vs.length ≤ 1000000) : Jx i e δ = .nx (δ.set i (some (.nd ((vs ++ [v]).map fun v => .fz (.int v))))) := by
  rw [Zkn h hi (by rw [List.length_map]; exact hl), List.map_append]; rfl
theorem Zrt (vs : List Int) : (OT.nd (vs.map fun v => OT.fz (.int v))).data = Yc vs := by rw [OT.data_nd, Znt]; rfl
end My
namespace My
open PySem L2 PySem.Spec
noncomputable def Zct : FS :=
  (wE (We gIx (Zjm (Ze (fC (.int 1)) (Ze (fC (.int 2)) (Ze (fC (.int 12)) (Ze (fC (.int 60)) (Ze (Zm Zhs (fC (.int 1)) (Zm Zdc (Zm Zad (Zh 0) (fC (.int 6))) (fC (.int 1000)))) (Ze (Zm Zhs (fC (.int 1)) (Zm Zdc (Zm Zad (Zh 0) (fC (.int 6))) (Zm Zk2 (fC (.int 10)) (fC (.int 9))))) Z5))))))) (Zm Zdc (Zh 0) (fC (.int 6)))) Zbg)
noncomputable def Zav : FD := Zbe 1 1 Zct
noncomputable def Zcn : FS :=
  (Yu (wE (Zjm Z5) (Zeu 3))
    (Yu (wE (Zh 0) (Ju 4))
    (Yu (Zf0 (iRa (Ze (Zh 1) Z5)) (gNm 5)
    (Yu (wE (Zm Zdc (Zm Ze1 (Zm Zhs (Zm Zhs (Zh 0) (Zm Ze1 (fC (.int 977)) (Zh 5))) (fC (.int 1))) (fC (.int 48271))) (fC (.int 2147483647))) (Ju 6))
    (Yu (wE (Zm Zdc (Zm Ze1 (Zh 6) (Zh 6)) (fC (.int 2147483629))) (Ju 6))
    (Yu (wE (Zm Zad (Zm Zdc (Zm Ze1 (Zm Zhs (Zh 6) (Zm Ze1 (fC (.int 40692)) (Zm Zhs (Zh 5) (fC (.int 3))))) (fC (.int 69621))) (fC (.int 2147483423))) (fC (.int 8))) (Ju 6))
    (Yu (Zem (tV (Zm gGe (Zh 0) (Zm Zk2 (fC (.int 10)) (fC (.int 18)))))
    (wE (Zh 4) (Ju 6))
    fNx)
    (Yu (Jx 3 (Zm Zdc (Zh 6) (Zh 2)))
    (wE (Zm Zad (Zh 4) (Zh 2)) (Ju 4))))))))
    (Ze3 3))))
noncomputable def Wr : FD := Zbe 3 7 Zcn
noncomputable def Zcq : FS :=
  (Yu (Zia (tV (Zm gNe (Zh 1) (fC (.int 0)))) (Zrb 0 1 (Ze (Zh 1) (Ze (Zm Zdc (Zh 0) (Zh 1)) Z5))))
    (wE (Zij Zwb (Ze (Zh 0) Z5)) Zbg))
noncomputable def Jr : FD := Zbe 2 2 Zcq
noncomputable def Zb7 : FS :=
  (Yu (wE (Z7 Jr (Ze (Zh 0) (Ze (Zh 1) Z5))) (Ju 2))
    (wE (Zfl (Ze (Zm Zad (Zh 0) (Zh 2)) (Ze (Zm Zad (Zh 1) (Zh 2)) Z5))) Zbg))
noncomputable def Ys : FD := Zbe 2 3 Zb7
noncomputable def Zbu : FS :=
  (Yu (wE (Zm Zdc (Zh 0) (fC (.int 8))) (Ju 2))
    (Yu (wE (Zm Zad (Zh 0) (fC (.int 8))) (Ju 0))
    (Yu (Zem (tV (Zm gEq (Zh 2) (fC (.int 0))))
    (wE (Zfl (Ze (fC (.int 0)) (Ze (fC (.int 1)) Z5))) Zbg)
    fNx)
    (Yu (Zem (tV (Zm gLt (Zh 2) (fC (.int 5))))
    (wE (Zfl (Ze (Zm Zdc (Zh 0) (fC (.int 13))) (Ze (fC (.int 1)) Z5))) Zbg)
    fNx)
    (Yu (Zem (tV (Zm gLt (Zh 2) (fC (.int 7))))
    (wE (Z7 Ys (Ze (Zm Zdc (Zh 0) (fC (.int 1000))) (Ze (Zh 1) Z5))) Zbg)
    fNx)
    (wE (Z7 Ys (Ze (Zm Zdc (Zm Zk2 (Zh 0) (fC (.int 4))) (Zm Zk2 (fC (.int 10)) (fC (.int 30)))) (Ze (Zh 1) Z5))) Zbg))))))
noncomputable def Z4 : FD := Zbe 2 3 Zbu
noncomputable def Zdm : FS :=
  (Yu (wE (Zjm Z5) (Ju 1))
    (Yu (Zf0 (iRc (Ze (Zm gSb (Zh 0) (fC (.int 1))) (Ze (fC (.int 0)) (Ze (fUn Zz5 (fC (.int 1))) Z5)))) (gNm 2)
    (wE (We Zn8 (We Zn8 (Zjm (Ze (Zjm (Ze (Zh 2) Z5)) Z5)) (Ja 1 [2] (Zf7 (Zh 1)) (gNm 0) Ze6 (We Zn8 (Zjm (Ze (Zh 1) Z5)) (Zh 0)))) (Zh 1)) (Ju 1)))
    (wE (fBl (Zm3 kdL ltI) (Ze (Zh 1) Z5)) Zbg)))
noncomputable def Zb0 : FD := Zbe 1 3 Zdm
noncomputable def Zc7 : FS :=
  (Yu (wE (Zjm Z5) (Zeu 4))
    (Yu (Zf0 (Zfa (Ze (Z7 Zb0 (Ze (Zh 0) Z5)) (Ze (Zh 1) Z5))) (gTp 2 (gCn (gNm 5) (gCn (gNm 6) gNl)))
    (Yu (wE (Z7 Z4 (Ze (Zm Zad (Zh 6) (fC (.int 3))) (Ze (Zh 3) Z5))) (Ju 7))
    (Zem (tAn (tV (Zm gGe (Zm Zdc (Zh 6) (fC (.int 3))) (Zh 2))) (tV (Zm gGt (We gIx (Zh 7) (fC (.int 0))) (fC (.int 0)))))
    (Jx 4 (Zfl (Ze (Zh 5) (Ze (Zh 7) Z5))))
    fNx)))
    (Ze3 4)))
noncomputable def W2 : FD := Zbe 4 8 Zc7
noncomputable def Zcj : FS :=
  (Yu (wE (Ja 1 [] (Zf7 (fSl (Zh 0) (oI (Zh 1)) (oI (Zm Zhs (Zh 1) (Zh 2))))) (gNm 0) Ze6 (Zm Zdc (Zh 0) (Zm Zk2 (fC (.int 10)) (fC (.int 12))))) (Ju 3))
    (wE (We Zn8 (Zh 3) (Z7 Wr (Ze (Z7 Yi (Ze (Zh 0) (Ze (fC (.int 1)) Z5))) (Ze (Zm gSb (Zh 2) (Zij Zn3 (Ze (Zh 3) Z5))) (Ze (Zm Zk2 (fC (.int 10)) (fC (.int 12))) Z5))))) Zbg))
noncomputable def Zal : FD := Zbe 3 4 Zcj
noncomputable def Zdq : FS :=
  (wE (Z7 Ys (Ze (Zm Zhs (Zm Ze1 (We gIx (Zh 0) (fC (.int 0))) (We gIx (Zh 1) (fC (.int 1)))) (Zm Ze1 (We gIx (Zh 1) (fC (.int 0))) (We gIx (Zh 0) (fC (.int 1))))) (Ze (Zm Ze1 (We gIx (Zh 0) (fC (.int 1))) (We gIx (Zh 1) (fC (.int 1)))) Z5))) Zbg)
noncomputable def Yz : FD := Zbe 2 2 Zdq
noncomputable def Zc8 : FS :=
  (Yu (wE (Zjm Z5) (Zeu 1))
    (Yu (Zf0 (iRa (Ze (Zh 0) Z5)) (gNm 2)
    (Zf0 (iRb (Ze (Zm Zhs (Zh 2) (fC (.int 1))) (Ze (Zh 0) Z5))) (gNm 3)
    (Jx 1 (Zfl (Ze (Zh 2) (Ze (Zh 3) Z5))))))
    (Ze3 1)))
noncomputable def W3 : FD := Zbe 1 4 Zc8
noncomputable def Zah : FS :=
  (Yu (wE (Zjm Z5) (Zeu 2))
    (Yu (Zf0 (Zf7 (Z7 W3 (Ze (Zh 0) Z5))) (gTp 2 (gCn (gNm 3) (gCn (gNm 4) gNl)))
    (Yu (wE (Zfl (Ze (fC (.int 0)) (Ze (fC (.int 1)) Z5))) (Ju 5))
    (Yu (Zf0 (Zf7 (Zh 1)) (gTp 2 (gCn (gNm 6) (gCn (gNm 7) gNl)))
    (Zem (tV (Zm gNe (Zm (Znx false) (Zh 3) (Zh 6)) (Zm (Znx false) (Zh 4) (Zh 6))))
    (wE (Z7 Yz (Ze (Zh 5) (Ze (Zh 7) Z5))) (Ju 5))
    fNx))
    (Jx 2 (Zh 5)))))
    (Ze3 2)))
noncomputable def Wd : FD := Zbe 2 8 Zah
noncomputable def Zbc : FS :=
  (Yu (wE (Z7 Zal (Ze (Zh 0) (Ze (fC (.int 3)) (Ze (fC (.int 32)) Z5)))) (Ju 3))
    (Yu (wE (Zm Zad (Z7 Yi (Ze (Zh 0) (Ze (fC (.int 0)) Z5))) (fC (.int 6))) (Ju 4))
    (Yu (Zem (tV (Zm gEq (Zm Zdc (Zh 4) (fC (.int 2))) (fC (.int 0))))
    (wE (Ja 1 [2] (Zf7 (fSl (Zh 3) oN (oI (Zm Zad (Zm Ze1 (Zh 1) (Zm gSb (Zh 1) (fC (.int 1)))) (fC (.int 2)))))) (gNm 0) Ze6 (Z7 Z4 (Ze (Zh 0) (Ze (Zh 1) Z5)))) Zbg)
    fNx)
    (Yu (wE (Z7 Wd (Ze (Zh 1) (Ze (Z7 W2 (Ze (Zh 1) (Ze (Zh 3) (Ze (fC (.int 1)) (Ze (Zh 2) Z5))))) Z5))) (Zeu 5))
    (Yu (Zem (tV (Zm gGt (Zh 1) (fC (.int 1))))
    (Yu (wE (Zm Zdc (Zm Zad (Zh 4) (fC (.int 2))) (Zij Zn3 (Ze (Zrk 5) Z5))) (Ju 6))
    (Zxo 5 (Zrd (Z7 Yz (Ze (We gIx (Zrk 5) (Zh 6)) (Ze (Z7 Z4 (Ze (We gIx (Zh 3) (fC (.int 31))) (Ze (Zh 2) Z5))) Z5)))) (Zh 6)))
    fNx)
    (Ze3 5))))))
noncomputable def Wm : FD := Zbe 3 7 Zbc
noncomputable def Zc9 : FS :=
  (wE (Zm gLt (Zm Ze1 (We gIx (Zh 0) (fC (.int 0))) (We gIx (Zh 1) (fC (.int 1)))) (Zm Ze1 (We gIx (Zh 1) (fC (.int 0))) (We gIx (Zh 0) (fC (.int 1))))) Zbg)
noncomputable def J1 : FD := Zbe 2 2 Zc9
noncomputable def Zc5 : FS :=
  (wE (Z7 Ys (Ze (Zm gSb (Zm Ze1 (We gIx (Zh 0) (fC (.int 0))) (We gIx (Zh 1) (fC (.int 1)))) (Zm Ze1 (We gIx (Zh 1) (fC (.int 0))) (We gIx (Zh 0) (fC (.int 1))))) (Ze (Zm Ze1 (We gIx (Zh 0) (fC (.int 1))) (We gIx (Zh 1) (fC (.int 1)))) Z5))) Zbg)
noncomputable def J3 : FD := Zbe 2 2 Zc5
noncomputable def Zc3 : FS :=
  (Yu (wE (Zfl (Ze (fC (.int 0)) (Ze (fC (.int 1)) Z5))) (Ju 2))
    (Yu (Zf0 (Zfa (Ze (Zh 0) (Ze (Zh 1) Z5))) (gTp 2 (gCn (gNm 3) (gCn (gNm 4) gNl)))
    (Yu (wE (Z7 J3 (Ze (Zh 3) (Ze (Zh 4) Z5))) (Ju 5))
    (Yu (Zem (tV (Zm gLt (We gIx (Zh 5) (fC (.int 0))) (fC (.int 0))))
    (wE (Zfl (Ze (Zm gSb (fC (.int 0)) (We gIx (Zh 5) (fC (.int 0)))) (Ze (We gIx (Zh 5) (fC (.int 1))) Z5))) (Ju 5))
    fNx)
    (Zem (tD (Z7 J1 (Ze (Zh 2) (Ze (Zh 5) Z5))))
    (wE (Zh 5) (Ju 2))
    fNx))))
    (wE (Zh 2) Zbg)))
noncomputable def J2 : FD := Zbe 2 6 Zc3
noncomputable def Zc6 : FS :=
  (wE (Zxc (Zr6 "int" (Zh 0)) (fUn Z1q (Zr6 "bool" (Zh 0)))) Zbg)
noncomputable def W4 : FD := Zbe 1 1 Zc6
noncomputable def Zam : FS :=
  (Yu (Zem (tO (tNo (tD (Zr6 "tuple" (Zh 0)))) (tO (tV (Zm gNe (Zij Zn3 (Ze (Zh 0) Z5)) (fC (.int 2)))) (tO (tNo (tD (Z7 W4 (Ze (We gIx (Zh 0) (fC (.int 0))) Z5)))) (tNo (tD (Z7 W4 (Ze (We gIx (Zh 0) (fC (.int 1))) Z5)))))))
    (wE (fC (.bool false)) Zbg)
    fNx)
    (wE (Zxc (Zm gGt (We gIx (Zh 0) (fC (.int 1))) (fC (.int 0))) (Zm gEq (Z7 Jr (Ze (We gIx (Zh 0) (fC (.int 0))) (Ze (We gIx (Zh 0) (fC (.int 1))) Z5))) (fC (.int 1)))) Zbg))
noncomputable def W9 : FD := Zbe 1 1 Zam
noncomputable def Zde : FS :=
  (Yu (wE (Ja 1 [0] (iRa (Ze (Zh 0) Z5)) (gNm 0) Ze6 (Ja 1 [] (iRa (Ze (Zh 1) Z5)) (gNm 0) Ze6 (Zfl (Ze (fC (.int 0)) (Ze (fC (.int 1)) Z5))))) (Zeu 2))
    (Yu (Zf0 (Zfa (Ze (Zh 1) (Ze (Z7 W3 (Ze (Zh 0) Z5)) Z5))) (gTp 2 (gCn (gNm 3) (gCn (gTp 2 (gCn (gNm 4) (gCn (gNm 5) gNl))) gNl)))
    (Yu (Zi8 2 (Zh 3) (Zh 4) (Zh 5))
    (Zi8 2 (Zh 3) (Zh 5) (Zh 4))))
    (Ze3 2)))
noncomputable def Zak : FD := Zbe 2 6 Zde
noncomputable def Zbx : FS :=
  (wE (Ja 2 [0] (Zf7 (Z7 Wc (Ze (Zij Zn3 (Ze (Zh 0) Z5)) Z5))) (gTp 2 (gCn (gNm 0) (gCn (gNm 1) gNl))) Ze6 (We gIx (We gIx (Zh 2) (Zh 0)) (Zh 1))) Zbg)
noncomputable def Yp : FD := Zbe 1 1 Zbx
noncomputable def Zaf : FS :=
  (Yu (wE (Z7 Yo (Ze (Zh 0) Z5)) (Ju 1))
    (wX Wb (Ze (Zij Zte (Ze (Z7 Wz (Ze (Zh 1) (Ze (Zh 0) Z5))) Z5)) (Ze (Zh 1) Z5)) Zbg))
noncomputable def Jc : FD := Zbe 1 2 Zaf
noncomputable def Zga : FS :=
  (wE (Z7 Zag (Ze (Zm gSb (Zm Ze1 (We gIx (Zh 0) (fC (.int 0))) (We gIx (Zh 1) (fC (.int 1)))) (Zm Ze1 (We gIx (Zh 1) (fC (.int 0))) (We gIx (Zh 0) (fC (.int 1))))) (Ze (Zm Ze1 (We gIx (Zh 0) (fC (.int 1))) (We gIx (Zh 1) (fC (.int 1)))) Z5))) Zbg)
noncomputable def Zdk : FD := Zbe 2 2 Zga
noncomputable def Zdn : FS :=
  (wE (Ja 1 [1] (iRa (Ze (Zh 0) Z5)) (gNm 0) Ze6 (fIf (tV (Zm (Znx false) (Zh 0) (Zh 1))) (fC (.int 1)) (fC (.int 0)))) Zbg)
noncomputable def Zb6 : FD := Zbe 2 2 Zdn
noncomputable def Zda : FS :=
  (wE (Ja 1 [0] (Zf7 (Zh 1)) (gNm 0) Ze6 (Z7 Zb6 (Ze (Zh 1) (Ze (We gIx (Zh 0) (fC (.int 0))) Z5)))) Zbg)
noncomputable def Za7 : FD := Zbe 2 2 Zda
noncomputable def Wj : FS :=
  (Yu (wE (Ja 1 [0] (iRa (Ze (Zh 0) Z5)) (gNm 0) Ze6 (Zw1 (Zfl (Ze (fC (.int 0)) (Ze (fC (.int 1)) Z5))) (Zh 1))) (Zeu 2))
    (Yu (Zf0 (Zfa (Ze (Z7 Wc (Ze (Zh 0) Z5)) (Ze (Zh 1) Z5))) (gTp 2 (gCn (gNm 3) (gCn (gNm 4) gNl)))
    (Yu (Zi8 2 (Zh 4) (We gIx (Zh 3) (fC (.int 0))) (We gIx (Zh 3) (fC (.int 1))))
    (Zi8 2 (Zh 4) (We gIx (Zh 3) (fC (.int 1))) (We gIx (Zh 3) (fC (.int 0))))))
    (Ze3 2)))
noncomputable def Wk : FD := Zbe 2 5 Wj
noncomputable def Zaj : FS :=
  (Yu (wE (Ja 1 [] (Zf7 (Zh 1)) (gNm 0) Ze6 (We gIx (Zh 0) (fC (.int 1)))) (Ju 2))
    (Yu (wE (Z7 Yo (Ze (Zh 2) Z5)) (Ju 3))
    (Yu (wE (Z7 Wz (Ze (Zh 3) (Ze (Zh 2) Z5))) (Ju 4))
    (Yu (wE (Z7 Za7 (Ze (Zh 0) (Ze (Zh 1) Z5))) (Ju 5))
    (Yu (wE (Zjm Z5) (Zeu 6))
    (Yu (Zf0 (Zf7 (Z7 Wc (Ze (Zh 0) Z5))) (gTp 2 (gCn (gNm 7) (gCn (gNm 8) gNl)))
    (Yu (wE (Ja 2 [7, 8] (Zfa (Ze (Zh 5) (Ze (Zh 4) Z5))) (gTp 2 (gCn (gNm 0) (gCn (gNm 1) gNl))) (tV (Zm gNe (We gIx (Zh 0) (Zh 2)) (We gIx (Zh 0) (Zh 3)))) (Zh 1)) (Ju 9))
    (Jx 6 (Z7 Wb (Ze (Zij Z0s (Ze (Zh 9) Z5)) (Ze (Zh 3) Z5))))))
    (Zhh 6 (wE (Z7 Wk (Ze (Zh 0) (Ze (Zh 6) Z5))) Zbg))))))))
noncomputable def Zac : FD := Zbe 2 10 Zaj
noncomputable def Zcb : FS :=
  (Yu (wE (Z7 Zac (Ze (Zij Zn3 (Ze (Zh 0) Z5)) (Ze (Zh 1) Z5))) (Ju 2))
    (Yu (wE (Ja 2 [] (Zfa (Ze (Z7 Yp (Ze (Zh 0) Z5)) (Ze (Z7 Yp (Ze (Zh 2) Z5)) Z5))) (gTp 2 (gCn (gNm 0) (gCn (gNm 1) gNl))) Ze6 (Z7 Zdk (Ze (Zh 0) (Ze (Zh 1) Z5)))) (Ju 3))
    (wX Jc (Ze (Ja 1 [] (Zf7 (Zh 3)) (gNm 0) Ze6 (Zfl (Ze (Zij Zwb (Ze (We gIx (Zh 0) (fC (.int 0))) Z5)) (Ze (We gIx (Zh 0) (fC (.int 1))) Z5)))) Z5) Zbg)))
noncomputable def Wn : FD := Zbe 2 4 Zcb
noncomputable def Zic : FS :=
  (Yu (wE (Zm Zhs (fC (.int 1)) (Zm Zdc (Z7 Yi (Ze (Zh 0) (Ze (fC (.int 0)) Z5))) (fC (.int 6)))) (Ju 1))
    (Yu (wE (Z7 Wr (Ze (Z7 Yi (Ze (Zh 0) (Ze (fC (.int 2)) Z5))) (Ze (fC (.int 33)) (Ze (Zm Zk2 (fC (.int 10)) (fC (.int 12))) Z5)))) (Ju 2))
    (Yu (wE (Z7 Zav (Ze (We gIx (Zh 2) (fC (.int 0))) Z5)) (Ju 3))
    (Yu (wE (Z7 Wm (Ze (Zh 0) (Ze (Zh 1) (Ze (Zh 3) Z5)))) (Ju 4))
    (Yu (wE (Z7 W2 (Ze (Zh 1) (Ze (fSl (Zh 2) (oI (fC (.int 2))) oN) (Ze (Zm Zdc (We gIx (Zh 2) (fC (.int 1))) (fC (.int 3))) (Ze (Zh 3) Z5))))) (Ju 5))
    (Yu (wE (Z7 Zak (Ze (Zh 1) (Ze (Zh 4) Z5))) (Ju 6))
    (Yu (wE (Ja 1 [] (Zf7 (Zh 6)) (gNm 0) Ze6 (fBl Zj1 (Ze (Zh 0) Z5))) (Ju 7))
    (Yu (wE (Ja 2 [] (Zf7 (Zh 5)) (gTp 2 (gCn (gNm 0) (gCn (gNm 1) gNl))) Ze6 (Zfl (Ze (fBl Zj1 (Ze (Zh 0) Z5)) (Ze (Zh 1) Z5)))) (Ju 8))
    (Yu (wX Wn (Ze (Zh 7) (Ze (Zh 8) Z5)) (Ju 9))
    (Yu (Zem (tO (tNo (tD (Z7 W9 (Ze (Zh 9) Z5)))) (tV (Zm gNe (Zh 9) (Z7 J2 (Ze (Zh 4) (Ze (Z7 Wd (Ze (Zh 1) (Ze (Zh 5) Z5))) Z5))))))
    (wE (fC (.bool false)) Zbg)
    fNx)
    (Yu (Zem (tO (tV (Zm gNe (Zh 7) (Zh 6))) (tO (tV (Zm gNe (Zh 8) (Zh 5))) (tV (Zm gNe (Z7 Wn (Ze (Zh 7) (Ze (Zh 8) Z5))) (Zh 9)))))
    (wE (fC (.bool false)) Zbg)
    fNx)
    (wE (Zm gEq (Z7 Wn (Ze (Z7 Zak (Ze (Zh 1) (Ze (Z7 Wd (Ze (Zh 1) (Ze (Zh 5) Z5))) Z5))) (Ze (Zh 8) Z5))) (Zfl (Ze (fC (.int 0)) (Ze (fC (.int 1)) Z5)))) Zbg))))))))))))
noncomputable def Zfs : FD := Zbe 1 10 Zic
end My
namespace L2
open PySem PySem.Spec
noncomputable def EvP (e : FE) (δ : Zn) (Q : PyData → Zn → Prop) : Prop := ∃ t δ', e δ = some (t, δ') ∧ Q t.data δ'
noncomputable def EpT (t : FT) (δ : Zn) (Q : Bool → Zn → Prop) : Prop := ∃ b δ', t δ = some (b, δ') ∧ Q b δ'
section
variable {e a b : FE} {as : FA} {δ : Zn} {Q : PyData → Zn → Prop} {QA : List PyData → Zn → Prop} {T : Bool → Zn → Prop} {t u : FT} {S S' : FS} {N : Zn → Prop} {R : PyData → Zn → Prop} {i : Nat} {d : PyData}
theorem Zi1 (h : EvV e δ d) (q : Q d δ) : EvP e δ Q := by
  obtain ⟨t, e1, e2⟩ := h
  exact ⟨t, δ, e1, e2 ▸ q⟩
theorem Zgv {p : Bool} (h : EvT t δ p) (q : T p δ) : EpT t δ T := ⟨p, δ, h, q⟩
theorem Zsv {g : FG} (I : Nat → List PyData → Zn → Prop) (ds : List PyData) (m : Nat) (acc : List PyData) (h0 : I m acc δ) (turn : ∀ (k : Nat) (d : PyData) (acc : List PyData) (δ : Zn), ds[k]? = some d → I (m + k) acc δ → ∃ δ1, g d δ = some δ1 ∧ EpT t δ1 fun p δ2 => (p = true → EvP e δ2 fun d δ3 => I (m + k + 1) (acc ++ [d]) δ3) ∧ (p = false → I (m + k + 1) acc δ2)) :
    ∃ ts δ', compLoop g t e ds δ = some (ts, δ') ∧ I (m + ds.length) (acc ++ ts.map OT.data) δ' := by
  induction ds generalizing m acc δ with
  | nil => exact ⟨[], δ, rfl, by rw [List.map_nil, List.append_nil]; exact h0⟩
  | cons d ds ih =>
    obtain ⟨δ1, e1, p, δ2, e2, q1, q2⟩ := turn 0 d acc δ rfl h0
    have next : ∀ (k : Nat) (d : PyData) (acc : List PyData) (δ : Zn), ds[k]? = some d → I (m + 1 + k) acc δ → ∃ δ1, g d δ = some δ1 ∧ EpT t δ1 fun p δ2 => (p = true → EvP e δ2 fun d δ3 => I (m + 1 + k + 1) (acc ++ [d]) δ3) ∧ (p = false → I (m + 1 + k + 1) acc δ2) := fun k d acc δ hk hI => by
      have := turn (k + 1) d acc δ hk (by rw [show m + (k + 1) = m + 1 + k by omega]; exact hI)
      rwa [show m + (k + 1) + 1 = m + 1 + k + 1 by omega] at this
    have el : m + 1 + ds.length = m + (ds.length + 1) := by omega
    cases p with
    | true =>
      obtain ⟨o, δ3, e3, hI⟩ := q1 rfl
      obtain ⟨ts, δ', e4, hf⟩ := ih (m + 1) (acc ++ [o.data]) hI next
      refine ⟨o :: ts, δ', ?_, ?_⟩
      · rw [compLoop, e1]; show (t δ1).bind _ = _; rw [e2]; show (e δ2).bind _ = _; rw [e3]; show (compLoop g t e ds δ3).bind _ = _; rw [e4]; rfl
      · rw [List.length_cons, ← el, List.map_cons]; rw [List.append_assoc] at hf; exact hf
    | false =>
      obtain ⟨ts, δ', e4, hf⟩ := ih (m + 1) acc (q2 rfl) next
      refine ⟨ts, δ', ?_, by rw [List.length_cons, ← el]; exact hf⟩
      rw [compLoop, e1]; show (t δ1).bind _ = _; rw [e2]; exact e4
end
end L2
namespace My
open PySem L2 PySem.Spec
noncomputable def Qb (n : Nat) (q : Rat) : Prop := Bt n q.num ∧ Bt n (q.den : Int)
theorem btc {n : Nat} {m : Int} (h1 : decide (-(2 ^ n) < m) = true) (h2 : decide (m < 2 ^ n) = true) : Bt n m := Bt.of_lt (of_decide_eq_true h1) (of_decide_eq_true h2)
theorem Z0w {δ : Zn} {i j : Nat} {as : FA} {x y : PyData} (h : EvA as δ [x, y]) : Zrb i j as δ = .nx ((δ.set i (some (.fz x))).set j (some (.fz y))) := by
  obtain ⟨ts, e1, e2⟩ := h
  unfold Zrb
  rw [e1]
  show (match OT.datas ts with | [d, e] => RS.nx ((δ.set i (some (.fz d))).set j (some (.fz e))) | _ => .bad) = _
  rw [e2]
theorem Zww {t b : Int} (hb : 0 < b) : Int.gcd b (t.fmod b) = Int.gcd t b := by
  rw [Zfi hb, Int.gcd_comm b, Int.emod_def, Int.gcd_sub_mul_left_left]
theorem Zkv {t b : Int} (hb : 0 < b) : Told Jr [.int t, .int b] (.int (Int.gcd t b : Int)) := by
  have ht : ∀ x y : Int, EvT (tV (Zm gNe (Zh 1) (fC (.int 0)))) [some (.fz (.int x)), some (.fz (.int y))] (!decide (y = 0)) := fun x y => Zej (Zr4 Zc Yt rfl)
  have hu : ∀ x y : Int, y ≠ 0 → Zrb 0 1 (Ze (Zh 1) (Ze (Zm Zdc (Zh 0) (Zh 1)) Z5)) [some (.fz (.int x)), some (.fz (.int y))] = .nx [some (.fz (.int y)), some (.fz (.int (x.fmod y)))] := fun x y hy => Z0w (Zd Zc (Zd (Jf Zc Zc hy) Zq))
  obtain ⟨z', e⟩ := Zi2 (f1 := fun x y z => [some (.fz (.int x)), some (.fz (.int y))]) (f2 := fun x y z => []) (t := tV (Zm gNe (Zh 1) (fC (.int 0)))) (u := Zrb 0 1 (Ze (Zh 1) (Ze (Zm Zdc (Zh 0) (Zh 1)) Z5))) (fun x y z => ht x y) (fun x y z hy => ⟨none, hu x y hy⟩) ((t.fmod b).toNat + 1) b (t.fmod b) none (by omega) (Za8 hb) (by omega)
  have e' : whileLoop (tV (Zm gNe (Zh 1) (fC (.int 0)))) (Zrb 0 1 (Ze (Zh 1) (Ze (Zm Zdc (Zh 0) (Zh 1)) Z5))) ((t.fmod b).toNat + 1 + 1) [some (.fz (.int t)), some (.fz (.int b))] = .nx [some (.fz (.int (Int.gcd t b : Int))), some (.fz (.int 0))] := by
    rw [whileLoop]
    have h1 := ht t b
    unfold EvT at h1
    rw [h1]
    dsimp only
    rw [if_pos (by rw [decide_eq_false (by omega)]; rfl), hu t b (by omega)]
    dsimp only
    rw [e, Zww hb]
  exact Yv rfl <| Y9 (Zkf _ e' (by intro z; cases z)) (Jz (EvV.cast (Zgf (Zd Zc Zq) (Zmh _)) (by rw [Int.natAbs_natCast])))
theorem Zai {n : Nat} {t b : Int} (hb : 0 < b) (hB : Bt n b) (hn : n ≤ 9000 := by decide) : Told Ys [.int t, .int b] (frD (Rat.divInt t b)) := by
  have eg : (Int.gcd t b : Int) = shr t b := by unfold shr; rw [if_neg (by omega)]
  obtain ⟨e1, e2⟩ := Z0u (t := t) (b := b) (by omega) hB hn _ eg
  exact Yv rfl <| Y9 (Z9 (Zv (Zd Zc (Zd Zc Zq)) (Zkv hb))) (Jz (Zei (Zd (Zz Zc Zc e1) (Zd (Zz Zc Zc e2) Zq)) (show 2 ≤ 1000 by decide)))
theorem Z29 {n : Nat} {t b : Int} (hb : b ≠ 0) (ht : Bt n t) (hB : Bt n b) : Qb n (Rat.divInt t b) := ⟨Z03 hb ht, Z07 hb hB⟩
theorem at0 {δ : Zn} {i : Nat} {q : Rat} (h : δ[i]? = some (some (.fz (frD q)))) : EvV (We gIx (Zh i) (fC (.int 0))) δ (.int q.num) := Zek (Zc h) Yt rfl
theorem at1 {δ : Zn} {i : Nat} {q : Rat} (h : δ[i]? = some (some (.fz (frD q)))) : EvV (We gIx (Zh i) (fC (.int 1))) δ (.int (q.den : Int)) := Zek (Zc h) Yt rfl
theorem Zip (q r : Rat) : 0 < (q.den : Int) * (r.den : Int) := Int.mul_pos (Zce q) (Zce r)
theorem Zhc {m n : Nat} {q r : Rat} (h : Qb m q) (k : Qb n r) (hmn : m + n ≤ 9000) : Told Yz [frD q, frD r] (frD (q + r)) := by
  rw [← Zsy]
  exact Yv rfl <| Jz <| Zv (Zd (Zc4 (Zz (at0 rfl) (at1 rfl) (Zby (Zas h.1 k.2 (by omega)))) (Zz (at0 rfl) (at1 rfl) (Zby (Zas k.1 h.2 (by omega))))) (Zd (Zz (at1 rfl) (at1 rfl) (Zby (Zas h.2 k.2 (by omega)))) Zq)) (Zai (Zip q r) (h.2.mul k.2) hmn)
theorem Zkr {m n : Nat} {q r : Rat} (h : Qb m q) (k : Qb n r) (hmn : m + n ≤ 9000) : Told J1 [frD q, frD r] (.bool (decide (q < r))) :=
  Yv rfl <| Jz <| Zg2 (Zz (at0 rfl) (at1 rfl) (Zby (Zas h.1 k.2 (by omega)))) (Zz (at0 rfl) (at1 rfl) (Zby (Zas k.1 h.2 (by omega)))) (decide_eq_decide.mpr (Zqp q r))
theorem Zk1 {m n : Nat} {q r : Rat} (h : Qb m q) (k : Qb n r) (hmn : m + n ≤ 9000) : Told J3 [frD q, frD r] (frD (q - r)) := by
  rw [← Zj3]
  exact Yv rfl <| Jz <| Zv (Zd (Zif (Zz (at0 rfl) (at1 rfl) (Zby (Zas h.1 k.2 (by omega)))) (Zz (at0 rfl) (at1 rfl) (Zby (Zas k.1 h.2 (by omega))))) (Zd (Zz (at1 rfl) (at1 rfl) (Zby (Zas h.2 k.2 (by omega)))) Zq)) (Zai (Zip q r) (h.2.mul k.2) hmn)
theorem Zr1 {m n : Nat} {q r : Rat} (h : Qb m q) (k : Qb n r) (hmn : m + n ≤ 9000) : Told Zdk [frD q, frD r] (frD (q - r)) := by
  rw [← Zj3]
  exact Yv rfl <| Jz <| Zv (Zd (Zif (Zz (at0 rfl) (at1 rfl) (Zby (Zas h.1 k.2 (by omega)))) (Zz (at0 rfl) (at1 rfl) (Zby (Zas k.1 h.2 (by omega))))) (Zd (Zz (at1 rfl) (at1 rfl) (Zby (Zas h.2 k.2 (by omega)))) Zq)) (Zhf (Int.ne_of_gt (Zip q r)) (h.2.mul k.2) hmn)
noncomputable def Qv (b : Int) (n : Nat) (q : Rat) : Prop := ∃ x, q = Rat.divInt x b ∧ Bt n x
theorem Qv.up {b : Int} {m n : Nat} {q : Rat} (h : Qv b m q) (k : m ≤ n) : Qv b n q := by
  obtain ⟨x, e, bx⟩ := h
  exact ⟨x, e, bx.mono k⟩
theorem Zw5 {x y b : Int} : Rat.divInt x b + Rat.divInt y b = Rat.divInt (x + y) b := by
  rw [Rat.divInt_eq_div, Rat.divInt_eq_div, Rat.divInt_eq_div, Rat.div_def, Rat.div_def, Rat.div_def, Rat.intCast_add, Rat.add_mul]
theorem Zwu {x y b : Int} : Rat.divInt x b - Rat.divInt y b = Rat.divInt (x - y) b := by
  rw [Rat.divInt_eq_div, Rat.divInt_eq_div, Rat.divInt_eq_div, Rat.div_def, Rat.div_def, Rat.div_def, Rat.intCast_sub, Rat.sub_eq_add_neg, Rat.sub_eq_add_neg, Rat.add_mul, Rat.neg_mul]
theorem Qv.add {b : Int} {n : Nat} {q r : Rat} (h : Qv b n q) (k : Qv b n r) : Qv b (n + 1) (q + r) := by
  obtain ⟨x, rfl, bx⟩ := h
  obtain ⟨y, rfl, b2⟩ := k
  exact ⟨x + y, Zw5, bx.add' b2⟩
theorem Qv.sub {b : Int} {n : Nat} {q r : Rat} (h : Qv b n q) (k : Qv b n r) : Qv b (n + 1) (q - r) := by
  obtain ⟨x, rfl, bx⟩ := h
  obtain ⟨y, rfl, b2⟩ := k
  exact ⟨x - y, Zwu, bx.sub' b2⟩
theorem Qv.zero (b : Int) (n : Nat) : Qv b (n + 1) 0 := ⟨0, (Rat.zero_divInt b).symm, (btc (n := 1) (by decide) (by decide)).mono (by omega)⟩
theorem Zwl {t b : Int} (hb : b ≠ 0) : ((Rat.divInt t b).den : Int) ∣ b := by
  rw [Rat.den_divInt, if_neg hb]
  have : (b.natAbs / b.gcd t : Nat) ∣ b.natAbs := Nat.div_dvd_of_dvd (by rw [Int.gcd_eq_natAbs_gcd_natAbs]; exact Nat.gcd_dvd_left ..)
  exact Int.ofNat_dvd_left.mpr this
structure Bot (b : Int) : Prop where
  lo : 1 ≤ b
  hi : b ≤ 1000000000
theorem Bot.bt {b : Int} (h : Bot b) : Bt 30 b := Bt.of_lt (by have := h.lo; omega) (by have := h.hi; omega)
theorem Bot.pos {b : Int} (h : Bot b) : 0 < b := by have := h.lo; omega
theorem Qv.dvd {b : Int} {n : Nat} {q : Rat} (h : Qv b n q) (hb : Bot b) : (q.den : Int) ∣ b := by
  obtain ⟨x, rfl, bx⟩ := h
  exact Zwl (Int.ne_of_gt hb.pos)
theorem Qv.qb {b : Int} {n : Nat} {q : Rat} (h : Qv b n q) (hb : Bot b) (hn : 30 ≤ n) : Qb n q := by
  obtain ⟨x, rfl, bx⟩ := h
  exact Z29 (Int.ne_of_gt hb.pos) bx (hb.bt.mono hn)
theorem Z3v : Zk2 (.int 10) (.int 12) = some (.int 1000000000000) := rfl
theorem gP9 : Zk2 (.int 10) (.int 9) = some (.int 1000000000) := rfl
theorem Z6p : Zk2 (.int 10) (.int 30) = some (.int 1000000000000000000000000000000) := rfl
theorem Zj4 (c : Int) (m : Nat) (hm : m ≤ 1000) {top : Int} (h0 : 0 < top) (h1 : top < 18446744073709551616) : ∃ vs : List Int, Told Wr [.int c, .int m, .int top] (Yc vs) ∧ vs.length = m ∧ ∀ v ∈ vs, 0 ≤ v ∧ v < top := by
  have big : (decide (0 < top) && decide (top < 18446744073709551616)) = true := by rw [decide_eq_true h0, decide_eq_true h1]; rfl
  have key : ∃ d, Told Wr [.int c, .int m, .int top] d ∧ ∃ vs, d = Yc vs ∧ vs.length = m ∧ ∀ v ∈ vs, 0 ≤ v ∧ v < top := by
    refine Znf rfl <| Za6 Zjz <| Za6 (Z9 Zc) <| Zmx (ds := Zjh 0 m) (fun i δ => ∃ (vs : List Int) (x : Int) (z1 z2 : Option OT), δ = [some (.fz (.int c)), some (.fz (.int m)), some (.fz (.int top)), some (.nd (vs.map fun v => .fz (.int v))), some (.fz (.int x)), z1, z2] ∧ vs.length = i ∧ ∀ v ∈ vs, 0 ≤ v ∧ v < top)
      (Znz (Zd Zc Zq) (by omega)) ⟨[], c, none, none, rfl, rfl, fun _ m => nomatch m⟩ (fun i d δ hd q => ?_) fun δ' q => ?_
    · obtain ⟨vs, x, z1, z2, rfl, hl, hv⟩ := q
      obtain ⟨hi, rfl⟩ := Zgq hd
      have snoc : ∀ w : Int, ∀ v ∈ vs ++ [w.fmod top], 0 ≤ v ∧ v < top := fun w v hv' => by
        rcases List.mem_append.mp hv' with h | h
        · exact hv v h
        · rw [List.mem_singleton.mp h]; exact ⟨Za8 h0, Zbz h0⟩
      have s0 := Za8 (i := (c + 977 * (0 + (i : Int)) + 1) * 48271) (j := 2147483647) (by decide)
      have s1 := Zbz (i := (c + 977 * (0 + (i : Int)) + 1) * 48271) (j := 2147483647) (by decide)
      have st1 := Z9 (i := 6) (δ := [some (.fz (.int c)), some (.fz (.int m)), some (.fz (.int top)), some (.nd (vs.map fun v => .fz (.int v))), some (.fz (.int x)), some (.fz (.int (0 + (i : Int)))), z2]) (Jf (Zlj (Zc4 (Zc4 (Zc (i := 0) (d := .int c)) (Zfu (Yt (d := .int 977)) (Zc (i := 5) (d := .int (0 + (i : Int)))))) (Yt (d := .int 1))) (Yt (d := .int 48271))) (Yt (d := .int 2147483647)) (by decide))
      generalize ((c + 977 * (0 + (i : Int)) + 1) * 48271).fmod 2147483647 = s at s0 s1 st1
      by_cases q : 1000000000000000000 ≤ c
      · exact ⟨_, _, rfl, .inl (Yx st1 (Yx (Z9 (Jf (Zfu Zc Zc (by omega)) Yt (by decide))) (Yx (Z9 (Za9 (Jf (Zlj (Zc4 Zc (Zfu Yt (Zc4 Zc Yt))) Yt) Yt (by decide)) Yt)) (Yx (Zdd (Zej (Zvx Zc (Zz Yt Yt Z53) (decide_eq_true q))) (Z9 Zc)) (Yx (Zmm (vs := vs) (Jf Zc Zc (by omega)) rfl (by omega)) (Z9 (Za9 Zc Zc big))))))), _, _, _, _, rfl, by rw [List.length_append, hl]; rfl, snoc _⟩
      · exact ⟨_, _, rfl, .inl (Yx st1 (Yx (Z9 (Jf (Zfu Zc Zc (by omega)) Yt (by decide))) (Yx (Z9 (Za9 (Jf (Zlj (Zc4 Zc (Zfu Yt (Zc4 Zc Yt))) Yt) Yt (by decide)) Yt)) (Yx (Jy (Zej (Zvx Zc (Zz Yt Yt Z53) (decide_eq_false q))) rfl) (Yx (Zmm (vs := vs) (Jf Zc Zc (by omega)) rfl (by omega)) (Z9 (Za9 Zc Zc big))))))), _, _, _, _, rfl, by rw [List.length_append, hl]; rfl, snoc _⟩
    · obtain ⟨vs, x, z1, z2, rfl, hl, hv⟩ := q
      rw [Ze0] at hl
      exact Z10 rfl ⟨vs, Zrt vs, hl, hv⟩
  obtain ⟨d, h, vs, rfl, hl⟩ := key
  exact ⟨vs, h, hl⟩
theorem Zo5 (x : Int) : ∃ b, Told Zav [.int x] (.int b) ∧ 1 ≤ b ∧ b ≤ 1000000000 := by
  have a0 := Za8 (i := x.fdiv 6) (j := 1000) (by decide)
  have a1 := Zbz (i := x.fdiv 6) (j := 1000) (by decide)
  have b0 := Za8 (i := x.fdiv 6) (j := 1000000000) (by decide)
  have b1 := Zbz (i := x.fdiv 6) (j := 1000000000) (by decide)
  have c0 := Za8 (i := x) (j := 6) (by decide)
  have c1 := Zbz (i := x) (j := 6) (by decide)
  obtain ⟨b, eb, h0, h1⟩ : ∃ b, gIx (.list [.int 1, .int 2, .int 12, .int 60, .int (1 + (x.fdiv 6).fmod 1000), .int (1 + (x.fdiv 6).fmod 1000000000)]) (.int (x.fmod 6)) = some (.fz (.int b)) ∧ 1 ≤ b ∧ b ≤ 1000000000 := by
    generalize x.fmod 6 = r at c0 c1 ⊢
    obtain rfl | rfl | rfl | rfl | rfl | rfl : r = 0 ∨ r = 1 ∨ r = 2 ∨ r = 3 ∨ r = 4 ∨ r = 5 := by omega
    all_goals exact ⟨_, rfl, by omega, by omega⟩
  exact ⟨b, Yv rfl <| Jz <| Zek (Zjj (Zd Yt (Zd Yt (Zd Yt (Zd Yt (Zd (Zc4 Yt (Jf (Za9 Zc Yt) Yt (by decide))) (Zd (Zc4 Yt (Jf (Za9 Zc Yt) (Zz Yt Yt gP9) (by decide))) Zq)))))) (show 6 ≤ 1000 by decide)) (Jf Zc Yt (by decide)) eb, h0, h1⟩
theorem q0 : frD 0 = .tuple [.int 0, .int 1] := rfl
theorem Zes {x b : Int} (x0 : 0 ≤ x) (x1 : x < 1000000000000) (hb : Bot b) : ∃ q : Rat, Told Z4 [.int x, .int b] (frD q) ∧ Qv b 101 q := by
  have d0 : 0 ≤ x.fdiv 8 := by rw [Wl (by decide)]; omega
  have d1 : x.fdiv 8 < 1000000000000 := by rw [Wl (by decide)]; omega
  have bb := hb.bt
  have bp := hb.pos
  have key : ∃ d, Told Z4 [.int x, .int b] d ∧ ∃ q : Rat, d = frD q ∧ Qv b 101 q := by
    refine Znf rfl <| Za6 (Z9 (Jf Zc Yt (by decide))) <| Za6 (Z9 (Za9 Zc Yt)) ?_
    generalize x.fmod 8 = w
    generalize x.fdiv 8 = y at d0 d1 ⊢
    by_cases c0 : w = 0
    · exact Zgu (Zio (Zej (Znb Zc Yt (decide_eq_true c0))) (Zg8 (Zei (Zd Yt (Zd Yt Zq)) (show 2 ≤ 1000 by decide)) ⟨0, rfl, Qv.zero b 100⟩))
    refine Za6 (Jy (Zej (Znb Zc Yt (decide_eq_false c0))) rfl) ?_
    by_cases c1 : w < 5
    · have e0 := Za8 (i := y) (j := 13) (by decide)
      have e1 := Zbz (i := y) (j := 13) (by decide)
      refine Zgu (Zio (Zej (Zg2 Zc Yt (decide_eq_true c1))) (Zg8 (Zei (Zd (Jf Zc Yt (by decide)) (Zd Yt Zq)) (show 2 ≤ 1000 by decide)) ⟨((y.fmod 13 : Int) : Rat), ?_, ?_⟩))
      · unfold frD; rw [Rat.num_intCast, Rat.den_intCast]; rfl
      · refine ⟨y.fmod 13 * b, ?_, ((Bt.of_lt (m := 5) (by omega) (by omega)).mul bb).mono (by decide)⟩
        rw [Rat.divInt_eq_div, Rat.intCast_mul, Rat.mul_div_cancel (Rat.ne_of_gt (Rat.intCast_pos.mpr bp))]
    refine Za6 (Jy (Zej (Zg2 Zc Yt (decide_eq_false c1))) rfl) ?_
    by_cases c2 : w < 7
    · have e0 := Za8 (i := y) (j := 1000) (by decide)
      have e1 := Zbz (i := y) (j := 1000) (by decide)
      exact Zgu (Zio (Zej (Zg2 Zc Yt (decide_eq_true c2))) (Zg8 (Zv (Zd (Jf Zc Yt (by decide)) (Zd Zc Zq)) (Zai (by omega) bb)) ⟨_, rfl, _, rfl, Bt.mono (m := 10) (Bt.of_lt (by omega) (by omega)) (by decide)⟩))
    refine Za6 (Jy (Zej (Zg2 Zc Yt (decide_eq_false c2))) rfl) ?_
    have e0 := Za8 (i := y ^ 4) (j := 1000000000000000000000000000000) (by decide)
    have e1 := Zbz (i := y ^ 4) (j := 1000000000000000000000000000000) (by decide)
    have ep : Zk2 (.int y) (.int 4) = some (.int (y ^ 4)) := Z0o (i := y) (j := 4) (by unfold Z2s; exact decide_eq_true ⟨by decide, by decide, by omega⟩)
    exact Zg8 (Zv (Zd (Jf (Zz Zc Yt ep) (Zz Yt Yt Z6p) (by decide)) (Zd Zc Zq)) (Zai (by omega) bb)) ⟨_, rfl, _, rfl, Bt.of_lt (Int.lt_of_lt_of_le (by decide +kernel) e0) (Int.lt_trans e1 (by decide +kernel))⟩
  obtain ⟨d, h, q, rfl, hq⟩ := key
  exact ⟨q, h, hq⟩
noncomputable def Zss (p : List Int) (lo hi : Option Int) : List Int := (p.drop (HT.sIx p.length 0 lo)).take (HT.sIx p.length p.length hi - HT.sIx p.length 0 lo)
theorem Zsc (p : List Int) (lo hi : Option Int) : cutD (p.map PyData.int) lo hi = (Zss p lo hi).map PyData.int := by
  unfold cutD Zss
  rw [List.length_map, List.map_take, List.map_drop]
theorem Zwc {e : FE} {δ : Zn} {r p : List Int} {lo hi : FO} {l h : Option Int} (he : EvV e δ (Yc r)) (hl : EvO lo δ l) (hh : EvO hi δ h) (hp : Zss r l h = p) : EvV (fSl e lo hi) δ (Yc p) := hp ▸ (Z19 (ds := r.map PyData.int) he hl hh).cast (by rw [Zsc]; rfl)
theorem Zr8 (p : List Int) (a b : Nat) : (Zss p (some (a : Int)) (some ((a + b : Nat) : Int))).length ≤ b := by
  unfold Zss
  rw [HT.sIx_nat, HT.sIx_nat, List.length_take, List.length_drop]; omega
theorem Ziq {δ : Zn} {ns : List Int} {i : Nat} {k c : Int} (h : δ[i]? = some (some (.fz (Yc ns)))) (e : Yi [Yc ns, .int k] = .ok (.fz (.int c))) : EvV (Z7 Yi (Ze (Zh i) (Ze (fC (.int k)) Z5))) δ (.int c) := Zv (Zd (Zc h) (Zd Yt Zq)) (.of e (OT.data_fz _))
theorem Zlb (ns : List Int) (m : Nat) (hm : m ≤ 100) : ∃ vs : List Int, Told Zal [Yc ns, .int 3, .int m] (Yc vs) ∧ vs.length = m ∧ ∀ v ∈ vs, 0 ≤ v ∧ v < 1000000000000 := by
  obtain ⟨c1, e1⟩ := Zd7 ns (k := 1) (by decide)
  obtain ⟨C, hC⟩ : ∃ C, C = Zss ns (some ((3 : Nat) : Int)) (some ((3 + m : Nat) : Int)) := ⟨_, rfl⟩
  have lC : C.length ≤ m := hC ▸ Zr8 ns 3 m
  obtain ⟨vs, e2, l2, h2⟩ := Zj4 c1 (m - C.length) (by omega) (top := 1000000000000) (by decide) (by decide)
  refine ⟨C.map (fun v => v.fmod 1000000000000) ++ vs, ?_, by rw [List.length_append, List.length_map]; omega, fun v hv => ?_⟩
  · refine Yv rfl <| Y9 (Z9 (EvV.cast (Zcu (cs := []) C PyData.int (fun v => .int (v.fmod 1000000000000)) (Zch (Zwc (r := ns) Zc (Z1u Zc) (Z1u (Zc4 Zc Zc)) (p := C) ?_)) (by omega) rfl fun v _ => Jf Zc (Zz Yt Yt Z3v) (by decide)) (y := Yc (C.map fun v => v.fmod 1000000000000)) ?_)) <| Jz (EvV.cast (Zpp (ds := (C.map fun v => v.fmod 1000000000000).map PyData.int) (es := vs.map PyData.int) Zc (Zv (Zd (Ziq rfl e1) (Zd (EvV.cast (Zif Zc (Zfx Zc)) (y := .int ((m - C.length : Nat) : Int)) ?_) (Zd (Zz Yt Yt Z3v) Zq))) e2) ?_) ?_)
    · rw [hC]; rfl
    · unfold Yc; rw [List.map_map]; rfl
    · rw [List.length_map]; exact congrArg PyData.int (by omega)
    · rw [List.length_map, List.length_map, List.length_map]; omega
    · unfold Yc; rw [List.map_append]
  · rcases List.mem_append.mp hv with h | h
    · obtain ⟨w, _, rfl⟩ := List.mem_map.mp h
      exact ⟨Za8 (by decide), Zbz (by decide)⟩
    · exact h2 v h
noncomputable def Zjy (r : List Rat) : OT := .nd (r.map fun q => .fz (frD q))
theorem Ze4 (r : List Rat) : (Zjy r).data = Zcc r := by unfold Zjy Zcc; rw [OT.data_nd, List.map_map]; rfl
theorem Zvv {i : Nat} {e : FE} {δ : Zn} {r : List Rat} {q : Rat} (h : EvV e δ (frD q)) (hi : δ[i]? = some (some (Zjy r))) (hl : r.length ≤ 1000000) : Jx i e δ = .nx (δ.set i (some (Zjy (r ++ [q])))) := by
  rw [Zkn h hi (by rw [List.length_map]; exact hl)]
  unfold Zjy; rw [List.map_append]; rfl
theorem Zj0 (n : Nat) (hn : n ≤ 1000) : Told W3 [.int n] (.list ((Zy n).map ptD)) := Zcx n hn
theorem Zxs {t u : FT} {δ : Zn} {p q : Bool} (h : EvT t δ p) (k : EvT u δ q) : EvT (tAn t u) δ (p && q) := by
  cases p with
  | true => exact Z20 h k
  | false => exact Zv7 h
theorem Zha (neg : Bool) (x : Int) (p : List Int) : Znx neg (.int x) (Yc p) = some (.bool (if neg then !decide (x ∈ p) else decide (x ∈ p))) := by
  have e : memS (.int x) (p.map PyData.int) = decide (x ∈ p) := by
    unfold memS
    rw [List.any_map]
    rw [Bool.eq_iff_iff, List.any_eq_true, decide_eq_true_eq]
    constructor
    · rintro ⟨y, hy, h⟩
      have : (y == x) = true := h
      rw [← eq_of_beq this]; exact hy
    · intro h
      exact ⟨x, h, (show (x == x) = true from beq_self_eq_true x)⟩
  have s : (p.map PyData.int).all scD = true := by
    rw [List.all_eq_true]
    intro d hd
    obtain ⟨y, _, rfl⟩ := List.mem_map.mp hd
    rfl
  show (if (scD (.int x) && (p.map PyData.int).all scD) = true then some (PyData.bool (if neg then !memS (.int x) (p.map PyData.int) else memS (.int x) (p.map PyData.int))) else none) = _
  rw [s, e]; rfl
theorem pairs_len (n : Nat) (hn : n ≤ 10) : (Zy n).length ≤ 100 := by
  have := Ze5 n n
  have e : Zh1 n n = Zy n := rfl
  rw [e] at this
  exact Nat.le_trans this (Nat.mul_le_mul hn hn)
theorem tw {δ : Zn} {a b : Int} : EvV (Zfl (Ze (fC (.int a)) (Ze (fC (.int b)) Z5))) δ (.tuple [.int a, .int b]) := Zei (Zd Yt (Zd Yt Zq)) (show 2 ≤ 1000 by decide)
theorem Zit {α β : Type} (xs : List α) (ys : List β) (f : α → PyData) (g : β → PyData) : Zj2 (xs.map f) (ys.map g) = (xs.zip ys).map fun p => .tuple [f p.1, g p.2] := by
  unfold Zj2
  rw [List.zip_map, List.map_map]; rfl
theorem Zn0 {n : Nat} (h0 : 1 ≤ n) (hn : n ≤ 6) : ((n : Int) * ((n : Int) - 1)).fdiv 2 = ((Zy n).length : Int) ∧ (Zy n).length ≤ 15 := by
  obtain rfl | rfl | rfl | rfl | rfl | rfl : n = 1 ∨ n = 2 ∨ n = 3 ∨ n = 4 ∨ n = 5 ∨ n = 6 := by omega
  all_goals exact ⟨by decide, by decide⟩
theorem Zrq (xs : List Rat) (x : Rat) : (xs ++ [x]).sum = xs.sum + x := by
  induction xs with
  | nil => show x + 0 = 0 + x; rw [Rat.add_zero, Rat.zero_add]
  | cons y ys ih => rw [List.cons_append, List.sum_cons, List.sum_cons, ih, Rat.add_assoc]
theorem zip_get {α β : Type} {L : List (α × β)} {f : α → PyData} {g : β → PyData} {k : Nat} {d : PyData} (h : (L.map fun p => PyData.tuple [f p.1, g p.2])[k]? = some d) : ∃ p, L[k]? = some p ∧ d = .tuple [f p.1, g p.2] := by
  rw [List.getElem?_map] at h
  cases e : L[k]? with
  | none => rw [e] at h; cases h
  | some p => rw [e] at h; cases h; exact ⟨p, rfl, rfl⟩
theorem Zs9 {a b : List Int} (h : Yc a = Yc b) : a = b := by
  unfold Yc at h
  injection h with h
  exact List.map_inj_right (fun x y z => by injection z) |>.mp h
theorem members {α β : Type} {f : α → β} {L : List α} : ∀ {l : List β}, (∀ d ∈ l, ∃ p ∈ L, d = f p) → ∃ L1 : List α, l = L1.map f ∧ (∀ p ∈ L1, p ∈ L)
  | [], _ => ⟨[], rfl, fun _ m => nomatch m⟩
  | d :: l, h => by
    obtain ⟨p, hp, rfl⟩ := h d (.head _)
    obtain ⟨L1, e, h1⟩ := members fun d m => h d (.tail _ m)
    exact ⟨p :: L1, by rw [e]; rfl, fun q hq => (List.mem_cons.mp hq).elim (fun e => e ▸ hp) (h1 q)⟩
theorem Zk3 (L : List (List Int)) (h : L.length < 64) : ∃ L1 : List (List Int), Zm3 kdL ltI [.list (L.map Yc)] = some (.nd ((L1.map Yc).map OT.fz)) ∧ (∀ p, p ∈ L1 ↔ p ∈ L) ∧ L1.length < 64 := by
  have pm := Zkh PyData.none (lk kdL ltI (L.map Yc)) (L.map Yc)
  obtain ⟨L1, e, h1⟩ := members (f := Yc) (L := L) (l := sLay PyData.none (lk kdL ltI (L.map Yc)) (L.map Yc)) fun d m => by
    obtain ⟨p, hp, rfl⟩ := List.mem_map.mp (pm.mem_iff.mp m)
    exact ⟨p, hp, rfl⟩
  have el := congrArg List.length e
  rw [pm.length_eq, List.length_map, List.length_map] at el
  refine ⟨L1, ?_, fun p => ⟨h1 p, fun hp => ?_⟩, by omega⟩
  · show (if (decide ((L.map Yc).length < 64) && (L.map Yc).all fun d => (kdL d).isSome) = true then some (OT.nd ((sLay PyData.none (lk kdL ltI (L.map Yc)) (L.map Yc)).map OT.fz)) else none) = _
    rw [if_pos, e]
    rw [Bool.and_eq_true, decide_eq_true_eq, List.length_map, List.all_eq_true]
    refine ⟨h, fun d m => ?_⟩
    obtain ⟨p, _, rfl⟩ := List.mem_map.mp m
    show (Zhv (p.map PyData.int)).isSome = true
    rw [Zfd]; rfl
  · have m : Yc p ∈ L1.map Yc := by rw [← e]; exact pm.mem_iff.mpr (List.mem_map.mpr ⟨p, hp, rfl⟩)
    obtain ⟨q, hq, e⟩ := List.mem_map.mp m
    rw [← Zs9 e]; exact hq
noncomputable def lcF (n : Nat) : Nat → List (List Int)
  | 0 => []
  | k + 1 => [[((n - 1 : Nat) : Int) - k]] ++ ((lcF n k).map fun c => [((n - 1 : Nat) : Int) - k] ++ c) ++ lcF n k
theorem Zwd (n k : Nat) : (lcF n k).length + 1 = 2 ^ k := by
  induction k with
  | zero => rfl
  | succ k ih =>
    rw [lcF, List.length_append, List.length_append, List.length_map, Nat.pow_succ]
    show 1 + _ + _ + 1 = _
    omega
theorem Z0i (n k : Nat) : ∀ s ∈ lcF n k, s.length ≤ k := by
  induction k with
  | zero => exact fun _ m => nomatch m
  | succ k ih =>
    intro s hs
    rw [lcF] at hs
    rcases List.mem_append.mp hs with hs | hs
    · rcases List.mem_append.mp hs with hs | hs
      · rw [List.mem_singleton.mp hs]; show 1 ≤ k + 1; omega
      · obtain ⟨c, hc, rfl⟩ := List.mem_map.mp hs
        have := ih c hc
        rw [List.length_append]
        show 1 + _ ≤ _
        omega
    · have := ih s hs; omega
theorem pw5 {k : Nat} (h : k ≤ 5) : 2 ^ k ≤ 32 := Nat.le_trans (Nat.pow_le_pow_right (by decide) h) (by decide)
theorem Zyc {a b : FE} {δ : Zn} {p q : List Int} (ha : EvV a δ (Yc p)) (hb : EvV b δ (Yc q)) (h : p.length + q.length ≤ 1000) : EvV (We Zn8 a b) δ (Yc (p ++ q)) := (Zpp (ds := p.map PyData.int) (es := q.map PyData.int) ha hb (by rw [List.length_map, List.length_map]; omega)).cast (by unfold Yc; rw [List.map_append])
noncomputable def LL (L : List (List Int)) : PyData := .list (L.map Yc)
theorem Ztm {a b : FE} {δ : Zn} {p q : List (List Int)} (ha : EvV a δ (LL p)) (hb : EvV b δ (LL q)) (h : p.length + q.length ≤ 1000) : EvV (We Zn8 a b) δ (LL (p ++ q)) := (Zpp (ds := p.map Yc) (es := q.map Yc) ha hb (by rw [List.length_map, List.length_map]; omega)).cast (by unfold LL; rw [List.map_append])
theorem Zw6 {n : Nat} (h0 : 1 ≤ n) (hn : n ≤ 6) : ∃ Ls : List (List Int), Told Zb0 [.int n] (LL Ls) ∧ (∀ s, s ∈ Ls ↔ s ∈ lcF n (n - 1)) ∧ Ls.length < 64 := by
  have l32 : ∀ {k : Nat}, k ≤ 5 → (lcF n k).length < 32 := fun {k} hk => by
    have := Zwd n k
    have := pw5 hk
    omega
  obtain ⟨Ls, eS, hS, lS⟩ := Zk3 (lcF n (n - 1)) (Nat.lt_trans (l32 (by omega)) (by decide))
  refine ⟨Ls, ?_, hS, lS⟩
  refine Yv rfl <| Y9 (Z9 (Zjj Zq (show 0 ≤ 1000 by decide))) <| Zqq (ds := Zpy ((n - 1 : Nat) : Int) (n - 1 - 0)) (fun k δ => ∃ z, δ = [some (.fz (.int n)), some (.fz (LL (lcF n k))), z]) (Z27 (m := n - 1) (n := 0) (Zd (EvV.cast (Zif Zc Yt) (congrArg PyData.int (by omega))) (Zd Yt (Zd (Zt9 Yt) Zq))) (by omega) (by decide)) ⟨none, rfl⟩ (fun k d δ hd q => ?_) fun δ' q => ?_
  · obtain ⟨z, rfl⟩ := q
    obtain ⟨hk, rfl⟩ := Zmq hd
    have lk := l32 (k := k) (by omega)
    refine ⟨_, _, rfl, .inl (Z9 (d := LL (lcF n (k + 1))) (Ztm (p := [[((n - 1 : Nat) : Int) - k]] ++ (lcF n k).map fun c => [((n - 1 : Nat) : Int) - k] ++ c) (Ztm (p := [[((n - 1 : Nat) : Int) - k]]) (Zjj (Zd (Zjj (Zd Zc Zq) (show 1 ≤ 1000 by decide)) Zq) (show 1 ≤ 1000 by decide)) (EvV.cast (Zcu (cs := [some (.fz (.int (((n - 1 : Nat) : Int) - k)))]) (lcF n k) Yc (fun c => Yc ([((n - 1 : Nat) : Int) - k] ++ c)) (Zch Zc) (by omega) rfl fun c hc => Zyc (p := [((n - 1 : Nat) : Int) - k]) (Zjj (Zd Zc Zq) (show 1 ≤ 1000 by decide)) Zc ?_) ?_) ?_) Zc ?_)), _, rfl⟩
    · have := Z0i n k c hc
      show 1 + _ ≤ _
      omega
    · unfold LL; rw [List.map_map]; rfl
    · rw [List.length_map]; show 1 + _ ≤ _; omega
    · rw [List.length_append, List.length_map]; show 1 + _ + _ ≤ _; omega
  · obtain ⟨z, rfl⟩ := q
    rw [show (Zpy ((n - 1 : Nat) : Int) (n - 1 - 0)).length = n - 1 by unfold Zpy; rw [List.length_map, List.length_range]; rfl]
    exact Jz (Zvr (Zd Zc Zq) eS (by rw [OT.data_nd, OT.map_fz]; rfl))
theorem Zz2 (q r : Rat) : gNe (frD q) (frD r) = some (.bool (!decide (q = r))) := by
  have s : ∀ q, SeqAt.shaped (frD q) = true := fun q => ((Zv4 q).shp).ok
  unfold gNe
  rw [if_pos (by rw [s, s]; rfl), Zt4]
theorem Zz1 (x y : Bool) : gNe (.bool x) (.bool y) = some (.bool (x != y)) := by cases x <;> cases y <;> rfl
noncomputable def ctD (p : List Int × Rat) : PyData := .tuple [Yc p.1, frD p.2]
noncomputable def Zfo (L : List (List Int × Rat)) : PyData := .list (L.map ctD)
noncomputable def Zzd (L : List (List Int × Rat)) : OT := .nd ((L.map ctD).map OT.fz)
theorem Zop (L : List (List Int × Rat)) : (Zzd L).data = Zfo L := by unfold Zzd Zfo; rw [OT.data_nd, OT.map_fz]
theorem Zmg {α : Type} (f g : α → PyData) (L : List α) : Zj2 (L.map f) (L.map g) = L.map fun p => .tuple [f p, g p] := by
  induction L with
  | nil => rfl
  | cons x L ih => exact congrArg (_ :: ·) ih
theorem Zup {t : FT} {a b : FE} {δ : Zn} {d : PyData} (h : EvT t δ true) (k : EvV a δ d) : EvV (fIf t a b) δ d := by
  obtain ⟨o, e1, e2⟩ := k
  exact ⟨o, by unfold fIf; unfold EvT at h; rw [h]; exact e1, e2⟩
theorem Zv9 {t : FT} {a b : FE} {δ : Zn} {d : PyData} (h : EvT t δ false) (k : EvV b δ d) : EvV (fIf t a b) δ d := by
  obtain ⟨o, e1, e2⟩ := k
  exact ⟨o, by unfold fIf; unfold EvT at h; rw [h]; exact e1, e2⟩
noncomputable def sd (p : List Int × Rat) (i : Nat) : Int := if (i : Int) ∈ p.1 then 1 else 0
noncomputable def Zf1 (n : Nat) (p : List Int × Rat) : PyData := .list ((List.range n).map fun i => .int (sd p i))
theorem Zk4 {n : Nat} (hn : n ≤ 10) (p : List Int × Rat) : Told Zb6 [.int n, Yc p.1] (Zf1 n p) :=
  Yv rfl <| Jz <| Zcu (cs := [some (.fz (Yc p.1))]) (List.range n) (fun i : Nat => PyData.int (0 + (i : Int))) (fun i => .int (sd p i)) (Znz (Zd Zc Zq) (by omega)) (by rw [List.length_range]; omega) rfl fun i _ => by
    have t : ∀ {b : Bool}, decide ((i : Int) ∈ p.1) = b → EvT (tV (Zm (Znx false) (Zh 0) (Zh 1))) [some (.fz (.int (0 + (i : Int)))), some (.fz (Yc p.1))] b := fun hb => hb ▸ Zej (Zz Zc Zc (by rw [Zha, Int.zero_add]; rfl))
    unfold sd
    by_cases c : (i : Int) ∈ p.1
    · rw [if_pos c]; exact Zup (t (decide_eq_true c)) Yt
    · rw [if_neg c]; exact Zv9 (t (decide_eq_false c)) Yt
theorem Zkm {n : Nat} (hn : n ≤ 10) (L : List (List Int × Rat)) (hl : L.length < 64) : Told Za7 [.int n, Zfo L] (.list (L.map (Zf1 n))) :=
  Yv rfl <| Jz <| Zcu (cs := [some (.fz (.int n))]) L ctD (Zf1 n) (Zch Zc) (by omega) rfl fun p _ => Zv (Zd Zc (Zd (Zek (d := Yc p.1) Zc Yt rfl) Zq)) (Zk4 hn p)
noncomputable def prt (i j : Nat) (p : List Int × Rat) : Bool := !decide (sd p i = sd p j)
noncomputable def Sm (L : List (List Int × Rat)) (i j : Nat) : Rat := ((L.filter (prt i j)).map fun p => p.2).sum
noncomputable def Zgl (L : List (List Int × Rat)) : Nat × Nat → PyData := fun p => frD (Sm L p.1 p.2)
theorem Ztk {m : Int} : ∀ (L : List (List Int × Rat)), (∀ p ∈ L, (p.2.den : Int) ∣ m) → (((L.map fun p => scI m p.2).sum : Int) : Rat) = (L.map fun p => p.2).sum * (m : Rat)
  | [], _ => by simp
  | p :: L, h => by
    rw [List.map_cons, List.map_cons, List.sum_cons, List.sum_cons, Rat.intCast_add, Zmi (h p (.head _)), Ztk L fun q hq => h q (.tail _ hq), Rat.add_mul]
theorem Zxg {m : Int} (hm : 0 < m) (L : List (List Int × Rat)) (h : ∀ p ∈ L, (p.2.den : Int) ∣ m) : Rat.divInt (L.map fun p => scI m p.2).sum m = (L.map fun p => p.2).sum := by
  have m0 : (m : Rat) ≠ 0 := fun z => by
    have := Rat.intCast_inj.mp (z.trans (Rat.intCast_zero).symm)
    omega
  rw [Rat.divInt_eq_div, Ztk L h, Rat.div_def, Rat.mul_assoc, Rat.mul_inv_cancel _ m0, Rat.mul_one]
theorem Zof (es : List Int) : Z0s [Yc es] = some (.int es.sum) := by
  show (Zhv (es.map PyData.int)).bind _ = _
  rw [Zfd]; rfl
theorem Znv {n : Nat} {m : Int} {L : List (List Int × Rat)} {a b : Nat} {δ : Zn} (ha : a < n) (hb : b < n) (hl : L.length < 64) (h5 : δ[5]? = some (some (.fz (.list (L.map (Zf1 n)))))) (h4 : δ[4]? = some (some (.fz (.list (L.map fun p => .int (scI m p.2)))))) (hk : blk 2 [7, 8] δ = [none, none, some (.fz (.int a)), some (.fz (.int b))]) :
    EvV (Ja 2 [7, 8] (Zfa (Ze (Zh 5) (Ze (Zh 4) Z5))) (gTp 2 (gCn (gNm 0) (gCn (gNm 1) gNl))) (tV (Zm gNe (We gIx (Zh 0) (Zh 2)) (We gIx (Zh 0) (Zh 3)))) (Zh 1)) δ (Yc ((L.filter (prt a b)).map fun p => scI m p.2)) := by
  have hi : EvI (Zfa (Ze (Zh 5) (Ze (Zh 4) Z5))) δ (L.map fun p => .tuple [Zf1 n p, .int (scI m p.2)]) := Zft (Zc h5) (Zc h4) (Zmg (Zf1 n) (fun p => .int (scI m p.2)) L)
  obtain ⟨ts, δ', e1, z0, z1, rfl, e2⟩ := Zsv (t := tV (Zm gNe (We gIx (Zh 0) (Zh 2)) (We gIx (Zh 0) (Zh 3)))) (e := Zh 1) (g := gTp 2 (gCn (gNm 0) (gCn (gNm 1) gNl))) (δ := [none, none, some (.fz (.int a)), some (.fz (.int b))])
    (fun k acc δ => ∃ z0 z1, δ = [z0, z1, some (.fz (.int a)), some (.fz (.int b))] ∧ acc = (((L.take k).filter (prt a b)).map fun p => scI m p.2).map PyData.int) (L.map fun p => .tuple [Zf1 n p, .int (scI m p.2)]) 0 [] ⟨none, none, rfl, by simp⟩ (fun k d acc δ hd q => by
      obtain ⟨z0, z1, rfl, rfl⟩ := q
      rw [Nat.zero_add] at *
      rw [List.getElem?_map] at hd
      cases e : L[k]? with
      | none => rw [e] at hd; cases hd
      | some p =>
        rw [e] at hd
        cases hd
        have et : L.take (k + 1) = L.take k ++ [p] := by rw [List.take_succ, e]; rfl
        have at' : ∀ {c : Nat}, c < n → gIx (Zf1 n p) (.int (c : Int)) = some (.fz (.int (sd p c))) := fun hc => by
          unfold Zf1
          rw [Zrf, Zmn, List.getElem?_map, List.getElem?_range hc]; rfl
        refine ⟨_, rfl, Zgv (Zej (Zr4 (Zek (d := .int (sd p a)) Zc Zc (at' ha)) (Zek (d := .int (sd p b)) Zc Zc (at' hb)) (p := prt a b p) rfl)) ⟨fun c => ?_, fun c => ?_⟩⟩
        · refine Zi1 (d := .int (scI m p.2)) Zc ⟨_, _, rfl, ?_⟩
          rw [et, List.filter_append, List.filter_cons_of_pos c, List.filter_nil, List.map_append, List.map_append]; rfl
        · refine ⟨_, _, rfl, ?_⟩
          rw [et, List.filter_append, List.filter_cons_of_neg (by rw [c]; decide), List.filter_nil, List.append_nil])
  rw [Nat.zero_add, List.length_map, List.take_length, List.nil_append] at e2
  refine ⟨.nd ts, ?_, by rw [OT.data_nd, e2]; rfl⟩
  unfold EvI at hi
  unfold Ja
  rw [hi]
  show (if (L.map fun p => PyData.tuple [Zf1 n p, .int (scI m p.2)]).length ≤ sizeLine then _ else none) = _
  rw [if_pos (by rw [List.length_map, sizeLine_eq]; omega), hk, e1]; rfl
theorem Zuw (i j : Nat) (p : List Int × Rat) : prt i j p = (decide ((i : Int) ∈ p.1) != decide ((j : Int) ∈ p.1)) := by
  unfold prt sd
  by_cases a : (i : Int) ∈ p.1 <;> by_cases b : (j : Int) ∈ p.1 <;> simp [a, b]
theorem Zt2 {b : Int} : ∀ (xs : List Rat), (∀ q ∈ xs, Qv b 101 q) → Qv b (102 + xs.length) xs.sum
  | [], _ => Qv.zero b 101
  | q :: xs, h => by
    have := Zt2 xs fun p hp => h p (.tail _ hp)
    show Qv b (102 + xs.length + 1) (q + xs.sum)
    exact Qv.add ((h q (.head _)).up (by omega)) this
theorem Zzc {b : Int} {L : List (List Int × Rat)} (hL : ∀ p ∈ L, Qv b 101 p.2) (lL : L.length < 64) (i j : Nat) : Qv b 166 (Sm L i j) := by
  refine (Zt2 ((L.filter (prt i j)).map fun p => p.2) fun q hq => ?_).up ?_
  · obtain ⟨p, hp, rfl⟩ := List.mem_map.mp hq
    exact hL p (List.mem_filter.mp hp).1
  · have := List.length_filter_le (prt i j) L
    rw [List.length_map]; omega
noncomputable def smL (n : Nat) (L : List (List Int × Rat)) : List Rat := (Zy n).map fun p => Sm L p.1 p.2
theorem Zms {n : Nat} (h0 : 1 ≤ n) (hn : n ≤ 6) {vs : List Int} (hv : ∀ v ∈ vs, 0 ≤ v ∧ v < 1000000000000) (t : Int) {b : Int} (hb : Bot b) : ∃ L : List (List Int × Rat), Told W2 [.int n, Yc vs, .int t, .int b] (Zfo L) ∧ L.length < 64 ∧ ∀ p ∈ L, Qv b 101 p.2 := by
  obtain ⟨Ls, eC, _, lC⟩ := Zw6 h0 hn
  have key : ∃ d, Told W2 [.int n, Yc vs, .int t, .int b] d ∧ ∃ L : List (List Int × Rat), d = Zfo L ∧ L.length < 64 ∧ ∀ p ∈ L, Qv b 101 p.2 := by
    refine Znf rfl <| Za6 Zjz <| Zmx (ds := (Ls.zip vs).map fun p => .tuple [Yc p.1, .int p.2]) (fun k δ => ∃ (L : List (List Int × Rat)) (z5 z6 z7 : Option OT), δ = [some (.fz (.int n)), some (.fz (Yc vs)), some (.fz (.int t)), some (.fz (.int b)), some (Zzd L), z5, z6, z7] ∧ L.length ≤ k ∧ ∀ p ∈ L, Qv b 101 p.2) (Zft (Zv (Zd Zc Zq) eC) Zc (Zit _ _ _ _)) ⟨[], none, none, none, rfl, Nat.le_refl _, fun _ m => nomatch m⟩ (fun k d δ hd q => ?_) fun δ' q => ?_
    · obtain ⟨L, z5, z6, z7, rfl, lL, hL⟩ := q
      obtain ⟨p, e, rfl⟩ := zip_get hd
      have hk := (List.getElem?_eq_some_iff.mp e).1
      rw [List.length_zip] at hk
      obtain ⟨_, p2⟩ := List.of_mem_zip (List.mem_of_getElem? e)
      obtain ⟨v0, v1⟩ := hv _ p2
      have d0 : 0 ≤ p.2.fdiv 3 := by rw [Wl (by decide)]; omega
      have d1 : p.2.fdiv 3 < 1000000000000 := by rw [Wl (by decide)]; omega
      obtain ⟨w, ew, qw⟩ := Zes d0 d1 hb
      have tt : ∃ c, EvT (tAn (tV (Zm gGe (Zm Zdc (Zh 6) (fC (.int 3))) (Zh 2))) (tV (Zm gGt (We gIx (Zh 7) (fC (.int 0))) (fC (.int 0))))) [some (.fz (.int n)), some (.fz (Yc vs)), some (.fz (.int t)), some (.fz (.int b)), some (Zzd L), some (.fz (Yc p.1)), some (.fz (.int p.2)), some (.fz (frD w))] c := ⟨_, Zxs (Zej (Zvx (Jf Zc Yt (by decide)) Zc rfl)) (Zej (Zsr (at0 rfl) Yt rfl))⟩
      obtain ⟨c, tt⟩ := tt
      cases c with
      | false => exact ⟨_, _, rfl, .inl (Yx (Z9 (Zv (Zd (Za9 Zc Yt) (Zd Zc Zq)) ew)) (Jy tt rfl)), L, _, _, _, rfl, by omega, hL⟩
      | true =>
        refine ⟨_, _, rfl, .inl (Yx (Z9 (Zv (Zd (Za9 Zc Yt) (Zd Zc Zq)) ew)) (Zdd tt (Zkn (d := ctD (p.1, w)) (Zei (Zd Zc (Zd Zc Zq)) (show 2 ≤ 1000 by decide)) rfl (by rw [List.length_map, List.length_map]; omega)))), L ++ [(p.1, w)], some (.fz (Yc p.1)), some (.fz (.int p.2)), some (.fz (frD w)), ?_, by rw [List.length_append]; exact Nat.succ_le_succ lL, fun x hx => ?_⟩
        · unfold Zzd; rw [List.map_append, List.map_append]; rfl
        · rcases List.mem_append.mp hx with z | z
          · exact hL x z
          · rw [List.mem_singleton.mp z]; exact qw
    · obtain ⟨L, z5, z6, z7, rfl, lL, hL⟩ := q
      rw [List.length_map, List.length_zip] at lL
      exact Z10 rfl ⟨L, Zop L, by omega, hL⟩
  obtain ⟨d, h, L, rfl, hL⟩ := key
  exact ⟨L, h, hL⟩
theorem Zoz {n : Nat} (hn : n ≤ 10) {b : Int} (hb : Bot b) {L : List (List Int × Rat)} (lL : L.length < 64) (hL : ∀ p ∈ L, Qv b 101 p.2) : Wd [.int n, Zfo L] = .ok (Zjy (smL n L)) := by
  have lp := pairs_len n hn
  obtain ⟨δ', e1, z3, z4, z5, z6, z7, rfl⟩ := Zi6 (it := Zf7 (Z7 W3 (Ze (Zh 0) Z5))) (g := gTp 2 (gCn (gNm 3) (gCn (gNm 4) gNl))) (S := Yu (wE (Zfl (Ze (fC (.int 0)) (Ze (fC (.int 1)) Z5))) (Ju 5)) (Yu (Zf0 (Zf7 (Zh 1)) (gTp 2 (gCn (gNm 6) (gCn (gNm 7) gNl))) (Zem (tV (Zm gNe (Zm (Znx false) (Zh 3) (Zh 6)) (Zm (Znx false) (Zh 4) (Zh 6)))) (wE (Z7 Yz (Ze (Zh 5) (Ze (Zh 7) Z5))) (Ju 5)) fNx)) (Jx 2 (Zh 5))))
    (δ := [some (.fz (.int n)), some (.fz (Zfo L)), some (Zjy []), none, none, none, none, none]) (ds := (Zy n).map ptD) (fun k δ => ∃ z3 z4 z5 z6 z7, δ = [some (.fz (.int n)), some (.fz (Zfo L)), some (Zjy (((Zy n).take k).map fun p => Sm L p.1 p.2)), z3, z4, z5, z6, z7]) (Zch (Zv (Zd Zc Zq) (Zj0 n (by omega)))) ⟨_, _, _, _, _, rfl⟩ (fun k d δ hd q => by
      obtain ⟨z3, z4, z5, z6, z7, rfl⟩ := q
      rw [List.getElem?_map] at hd
      cases e : (Zy n)[k]? with
      | none => rw [e] at hd; cases hd
      | some p =>
        rw [e] at hd
        cases hd
        have hk := (List.getElem?_eq_some_iff.mp e).1
        have et : (Zy n).take (k + 1) = (Zy n).take k ++ [p] := by rw [List.take_succ, e]; rfl
        obtain ⟨δ2, e2, v, z6, z7, rfl, hv, _⟩ := Zi6 (it := Zf7 (Zh 1)) (g := gTp 2 (gCn (gNm 6) (gCn (gNm 7) gNl))) (S := Zem (tV (Zm gNe (Zm (Znx false) (Zh 3) (Zh 6)) (Zm (Znx false) (Zh 4) (Zh 6)))) (wE (Z7 Yz (Ze (Zh 5) (Ze (Zh 7) Z5))) (Ju 5)) fNx) (δ := [some (.fz (.int n)), some (.fz (Zfo L)), some (Zjy (((Zy n).take k).map fun p => Sm L p.1 p.2)), some (.fz (.int (p.1 : Int))), some (.fz (.int (p.2 : Int))), some (.fz (frD 0)), z6, z7]) (ds := L.map ctD)
          (fun j δ => ∃ (v : Rat) (z6 z7 : Option OT), δ = [some (.fz (.int n)), some (.fz (Zfo L)), some (Zjy (((Zy n).take k).map fun p => Sm L p.1 p.2)), some (.fz (.int (p.1 : Int))), some (.fz (.int (p.2 : Int))), some (.fz (frD v)), z6, z7] ∧ v = (((L.take j).filter (prt p.1 p.2)).map fun p => p.2).sum ∧ Qv b (102 + j) v) (Zch Zc) ⟨0, z6, z7, rfl, rfl, Qv.zero b 101⟩ fun j d δ hd q => by
            obtain ⟨v, z6, z7, rfl, hv, qv⟩ := q
            rw [List.getElem?_map] at hd
            cases e : L[j]? with
            | none => rw [e] at hd; cases hd
            | some c =>
              rw [e] at hd
              cases hd
              have hj := (List.getElem?_eq_some_iff.mp e).1
              have qc := hL c (List.mem_of_getElem? e)
              have tk : L.take (j + 1) = L.take j ++ [c] := by rw [List.take_succ, e]; rfl
              have tt : EvT (tV (Zm gNe (Zm (Znx false) (Zh 3) (Zh 6)) (Zm (Znx false) (Zh 4) (Zh 6)))) [some (.fz (.int n)), some (.fz (Zfo L)), some (Zjy (((Zy n).take k).map fun p => Sm L p.1 p.2)), some (.fz (.int (p.1 : Int))), some (.fz (.int (p.2 : Int))), some (.fz (frD v)), some (.fz (Yc c.1)), some (.fz (frD c.2))] (prt p.1 p.2 c) := by
                rw [Zuw]
                exact Zej (Zz (Zz Zc Zc (Zha _ _ _)) (Zz Zc Zc (Zha _ _ _)) (Zz1 _ _))
              cases hc : prt p.1 p.2 c with
              | true =>
                rw [hc] at tt
                refine ⟨_, _, rfl, .inl (Zdd tt (Z9 (Zv (Zd Zc (Zd Zc Zq)) (Zhc (qv.qb hb (by omega)) (qc.qb hb (by decide)) (by omega))))), v + c.2, _, _, rfl, ?_, qv.add (qc.up (by omega))⟩
                rw [tk, List.filter_append, List.map_append, List.filter_cons_of_pos hc, List.filter_nil, List.map_singleton, Zrq, ← hv]
              | false =>
                rw [hc] at tt
                refine ⟨_, _, rfl, .inl (Jy tt rfl), v, _, _, rfl, ?_, qv.up (by omega)⟩
                rw [tk, List.filter_append, List.filter_cons_of_neg (by rw [hc]; decide), List.filter_nil, List.append_nil, ← hv]
        rw [List.length_map, List.take_length] at hv
        refine ⟨_, _, rfl, .inl (Yx (Z9 (d := frD 0) tw) (Yx e2 (Zvv (q := Sm L p.1 p.2) (EvV.cast Zc (by rw [hv]; rfl)) rfl (by rw [List.length_map]; exact Nat.le_trans (List.length_take_le' ..) (by omega))))), some (.fz (.int (p.1 : Int))), some (.fz (.int (p.2 : Int))), some (.fz (frD v)), z6, z7, ?_⟩
        rw [et, List.map_append]; rfl)
  rw [List.length_map, List.take_length] at e1
  unfold Wd
  rw [Zjb (np := 2) (by rfl)]
  show (Zah [some (.fz (.int n)), some (.fz (Zfo L)), none, none, none, none, none, none]).told = _
  rw [show Zah [some (.fz (.int n)), some (.fz (Zfo L)), none, none, none, none, none, none] = .rt (Zjy (smL n L)) [some (.fz (.int n)), some (.fz (Zfo L)), none, z3, z4, z5, z6, z7] from Yx Zjz (Yx e1 rfl)]
  rfl
noncomputable def Zcd (n : Nat) (f : Nat → Nat → PyData) : OT := .nd ((List.range n).map fun i => .nd ((List.range n).map fun j => .fz (f i j)))
noncomputable def Zdy (n : Nat) (f : Nat → Nat → PyData) : PyData := .list ((List.range n).map fun i => .list ((List.range n).map fun j => f i j))
theorem Zh3 (n : Nat) (f : Nat → Nat → PyData) : (Zcd n f).data = Zdy n f := by
  unfold Zcd Zdy
  rw [OT.data_nd, List.map_map]
  refine congrArg PyData.list (List.map_congr_left fun i _ => ?_)
  show (OT.nd _).data = _
  rw [OT.data_nd, List.map_map]
  exact congrArg PyData.list (List.map_congr_left fun j _ => OT.data_fz _)
theorem Zm1 {n : Nat} {f g : Nat → Nat → PyData} (h : ∀ i j, i < n → j < n → f i j = g i j) : Zcd n f = Zcd n g := by
  unfold Zcd
  refine congrArg OT.nd (List.map_congr_left fun i hi => congrArg OT.nd (List.map_congr_left fun j hj => congrArg OT.fz (h i j (List.mem_range.mp hi) (List.mem_range.mp hj))))
noncomputable def upG (f : Nat → Nat → PyData) (a b : Nat) (d : PyData) : Nat → Nat → PyData := fun i j => if i = a ∧ j = b then d else f i j
theorem Zk0 {α : Type} {n a : Nat} (f : Nat → α) (x : α) : ((List.range n).map f).set a x = (List.range n).map fun i => if i = a then x else f i := by
  refine List.ext_getElem? fun i => ?_
  rw [List.getElem?_set, List.length_map, List.length_range, List.getElem?_map, List.getElem?_map]
  by_cases h : a = i
  · subst h
    by_cases c : a < n
    · rw [if_pos rfl, if_pos c, List.getElem?_range c]; simp
    · rw [if_pos rfl, if_neg c, List.getElem?_eq_none (by simp; omega)]; rfl
  · rw [if_neg h]
    by_cases c : i < n
    · rw [List.getElem?_range c]; simp [Ne.symm h]
    · rw [List.getElem?_eq_none (by simp; omega)]; rfl
theorem Zfg {i n : Nat} {e j j2 : FE} {δ : Zn} {d : PyData} {f : Nat → Nat → PyData} {a b : Nat} (he : EvV e δ d) (hi : δ[i]? = some (some (Zcd n f))) (hj : EvV j δ (.int a)) (ha : a < n) (hk : EvV j2 δ (.int b)) (hb : b < n) :
    Zi8 i e j j2 δ = .nx (δ.set i (some (Zcd n (upG f a b d)))) := by
  obtain ⟨_, e2, d2⟩ := he
  obtain ⟨_, e3, d3⟩ := hj
  obtain ⟨_, e4, d4⟩ := hk
  unfold Zi8 Zcd at *
  rw [Zgm, e2, Jd, hi]
  dsimp only
  rw [Zgm, e3, Jd, d3]
  dsimp only
  rw [Zqw (by rw [List.length_map, List.length_range]; exact ha)]
  dsimp only
  rw [List.getElem?_map, List.getElem?_range ha, Option.map_some]
  dsimp only
  rw [Zgm, e4, Jd, d4]
  dsimp only
  rw [Zqw (by rw [List.length_map, List.length_range]; exact hb)]
  dsimp only
  rw [d2, Zk0, Zk0]
  refine congrArg RS.nx (congrArg (δ.set i) (congrArg some (congrArg OT.nd (List.map_congr_left fun k _ => ?_))))
  by_cases c : k = a
  · subst c
    rw [if_pos rfl]
    refine congrArg OT.nd (List.map_congr_left fun l _ => ?_)
    unfold upG
    by_cases c2 : l = b
    · rw [if_pos c2, if_pos ⟨rfl, c2⟩]
    · rw [if_neg c2, if_neg fun z => c2 z.2]
  · rw [if_neg c]
    refine congrArg OT.nd (List.map_congr_left fun l _ => ?_)
    unfold upG
    rw [if_neg fun z => c z.1]
noncomputable def Zhz : PyData := .tuple [.int 0, .int 1]
noncomputable def Zil (g : Nat × Nat → PyData) (i j : Nat) : PyData := if i < j then g (i, j) else if j < i then g (j, i) else Zhz
theorem Zfr {n : Nat} (hn : n ≤ 10) (g : Nat × Nat → PyData) : Wk [.int n, .list ((Zy n).map g)] = .ok (Zcd n (Zil g)) := by
  have e0 : (Ja 1 [0] (iRa (Ze (Zh 0) Z5)) (gNm 0) Ze6 (Zw1 (Zfl (Ze (fC (.int 0)) (Ze (fC (.int 1)) Z5))) (Zh 1))) [some (.fz (.int n)), some (.fz (.list ((Zy n).map g))), none, none, none] = some (Zcd n fun _ _ => Zhz, [some (.fz (.int n)), some (.fz (.list ((Zy n).map g))), none, none, none]) := by
    have er : ∀ v : Option OT, (Zw1 (Zfl (Ze (fC (.int 0)) (Ze (fC (.int 1)) Z5))) (Zh 1)) [v, some (.fz (.int n))] = some (.nd (List.replicate n (.fz Zhz)), [v, some (.fz (.int n))]) := fun v => by
      have e2 : (Zfl (Ze (fC (.int 0)) (Ze (fC (.int 1)) Z5))) [v, some (.fz (.int n))] = fC Zhz [v, some (.fz (.int n))] := by
        rw [Zlm]
        exact if_pos (e := none) (show 2 ≤ sizeLine by rw [sizeLine_eq]; omega)
      rw [← Zzm (d := Zhz) (n := n) (by omega)]
      rw [Zk7, Zk7, e2]
    rw [Zgr (cs := [some (.fz (.int n))]) (List.range n) (fun i : Nat => PyData.int (0 + (i : Int))) (fun _ => .nd (List.replicate n (.fz Zhz))) (Znz (Zd Zc Zq) (by omega)) (by rw [List.length_range, sizeLine_eq]; omega) rfl fun x _ => er _]
    unfold Zcd
    have ec : ((List.range n).map fun _ => OT.fz Zhz) = List.replicate n (OT.fz Zhz) := by rw [List.map_const', List.length_range]
    rw [← ec]
  have key : ∃ δ', Wj [some (.fz (.int n)), some (.fz (.list ((Zy n).map g))), none, none, none] = .rt (Zcd n (Zil g)) δ' := by
    obtain ⟨δ', e1, f, z3, z4, rfl, h1, h2⟩ := Zi6 (it := Zfa (Ze (Z7 Wc (Ze (Zh 0) Z5)) (Ze (Zh 1) Z5))) (g := gTp 2 (gCn (gNm 3) (gCn (gNm 4) gNl))) (S := Yu (Zi8 2 (Zh 4) (We gIx (Zh 3) (fC (.int 0))) (We gIx (Zh 3) (fC (.int 1)))) (Zi8 2 (Zh 4) (We gIx (Zh 3) (fC (.int 1))) (We gIx (Zh 3) (fC (.int 0)))))
      (δ := [some (.fz (.int n)), some (.fz (.list ((Zy n).map g))), some (Zcd n fun _ _ => Zhz), none, none]) (ds := (Zy n).map fun p => .tuple [ptD p, g p])
      (fun k δ => ∃ (f : Nat → Nat → PyData) (z3 z4 : Option OT), δ = [some (.fz (.int n)), some (.fz (.list ((Zy n).map g))), some (Zcd n f), z3, z4] ∧ (∀ i, f i i = Zhz) ∧ ∀ l p, l < k → (Zy n)[l]? = some p → f p.1 p.2 = g p ∧ f p.2 p.1 = g p)
      (Zft (Zv (Zd Zc Zq) (Zcx n (by omega))) Zc (Zmg ptD g _)) ⟨_, none, none, rfl, fun _ => rfl, fun l p hl => absurd hl (Nat.not_lt_zero l)⟩ (fun k d δ hd q => by
        obtain ⟨f, z3, z4, rfl, h1, h2⟩ := q
        rw [List.getElem?_map] at hd
        cases e : (Zy n)[k]? with
        | none => rw [e] at hd; cases hd
        | some p =>
          rw [e] at hd
          cases hd
          obtain ⟨m1, m2⟩ := J7 (List.mem_of_getElem? e)
          have i0 : ∀ {δ : Zn}, δ[3]? = some (some (.fz (ptD p))) → EvV (We gIx (Zh 3) (fC (.int 0))) δ (.int (p.1 : Int)) := fun h => Zek (Zc h) Yt rfl
          have i1 : ∀ {δ : Zn}, δ[3]? = some (some (.fz (ptD p))) → EvV (We gIx (Zh 3) (fC (.int 1))) δ (.int (p.2 : Int)) := fun h => Zek (Zc h) Yt rfl
          refine ⟨_, _, rfl, .inl (Yx (Zfg (n := n) (f := f) (a := p.1) (b := p.2) (d := g p) Zc rfl (i0 rfl) (by omega) (i1 rfl) (by omega)) (Zfg (n := n) (a := p.2) (b := p.1) (d := g p) Zc rfl (i1 rfl) (by omega) (i0 rfl) (by omega))), _, _, _, rfl, fun i => ?_, fun l q hl hq => ?_⟩
          · unfold upG
            rw [if_neg (by omega), if_neg (by omega)]
            exact h1 i
          · by_cases c : q = p
            · subst c
              unfold upG
              exact ⟨by split <;> (try rfl) ; rw [if_pos ⟨rfl, rfl⟩], by rw [if_pos ⟨rfl, rfl⟩]⟩
            · have hl' : l < k := by
                rcases Nat.lt_or_ge l k with z | z
                · exact z
                · have : l = k := by omega
                  subst this
                  rw [e] at hq
                  cases hq
                  exact absurd rfl c
              obtain ⟨q1, q2⟩ := J7 (List.mem_of_getElem? hq)
              have ne : ¬ (q.1 = p.1 ∧ q.2 = p.2) := fun z => c (Prod.ext z.1 z.2)
              obtain ⟨g1, g2⟩ := h2 l q hl' hq
              unfold upG
              rw [if_neg (by omega), if_neg (by omega), if_neg (by omega), if_neg (by omega)]
              exact ⟨g1, g2⟩)
    rw [List.length_map] at h2
    refine ⟨[some (.fz (.int n)), some (.fz (.list ((Zy n).map g))), none, z3, z4], Yx (Zjd e0) (Yx e1 ?_)⟩
    have eG : Zcd n f = Zcd n (Zil g) := Zm1 fun i j hi hj => ?_
    · rw [eG]; rfl
    unfold Zil
    rcases Nat.lt_trichotomy i j with c | c | c
    · obtain ⟨l, hl⟩ := List.getElem?_of_mem (Zcm c hj)
      rw [if_pos c]
      exact (h2 l _ (List.getElem?_eq_some_iff.mp hl).1 hl).1
    · subst c
      rw [if_neg (Nat.lt_irrefl _), if_neg (Nat.lt_irrefl _)]
      exact h1 i
    · obtain ⟨l, hl⟩ := List.getElem?_of_mem (Zcm c hi)
      rw [if_neg (by omega), if_pos c]
      exact (h2 l _ (List.getElem?_eq_some_iff.mp hl).1 hl).2
  obtain ⟨δ', e⟩ := key
  unfold Wk
  rw [Zjb (np := 2) (by rfl)]
  show (Wj [some (.fz (.int n)), some (.fz (.list ((Zy n).map g))), none, none, none]).told = _
  rw [e]; rfl
theorem Z0y {F : FD} {as : FA} {δ : Zn} {ds : List PyData} {o : OT} (h : EvA as δ ds) (k : F ds = .ok o) : Z7 F as δ = some (o, δ) := by
  obtain ⟨ts, e1, e2⟩ := h
  rw [Zmb, e1]
  show okO (F (OT.datas ts)) δ = _
  rw [e2, k]; rfl
theorem Zw0 {F : FD} {as : FA} {δ : Zn} {ds : List PyData} {o : OT} (h : EvA as δ ds) (k : F ds = .ok o) : wE (Z7 F as) Zbg δ = .rt o δ := by rw [Zgm, Z0y h k]; rfl
theorem Zlp {n : Nat} (hn : n ≤ 10) (L : List (List Int × Rat)) (hl : L.length < 64) {B : Int} (B0 : 0 < B) (bB : Bt 200 B) (hw : ∀ p ∈ L, (p.2.den : Int) ∣ B ∧ Bt 200 p.2.num) : Zac [.int n, Zfo L] = .ok (Zcd n (Zil (Zgl L))) := by
  obtain ⟨m, eB, m0, m1, m2⟩ := Zc2 (n := 200) B0 bB (by decide) (L.map fun p => (p.2.num, (p.2.den : Int))) fun p hp => by
    obtain ⟨q, hq, rfl⟩ := List.mem_map.mp hp
    exact ⟨Zce q.2, (hw q hq).1⟩
  have bm : Bt 200 m := Zh9 B0 m2 bB
  have dm : ∀ p ∈ L, (p.2.den : Int) ∣ m := fun p hp => m1 (p.2.num, (p.2.den : Int)) (List.mem_map.mpr ⟨p, hp, rfl⟩)
  have eW : (L.map fun p => (p.2.num, (p.2.den : Int))).map prD = (L.map fun p => p.2).map frD := by rw [List.map_map, List.map_map]; rfl
  rw [eW] at eB
  have eT := Zf9 (n := 200) m0 bm (L.map fun p => p.2) (by rw [List.length_map]; omega) fun q hq => by
    obtain ⟨p, hp, rfl⟩ := List.mem_map.mp hq
    exact ⟨dm p hp, (hw p hp).2⟩
  rw [List.map_map] at eT
  have lp : (Zy n).length ≤ 100 := by
    have := Ze5 n n
    have e : Zh1 n n = Zy n := rfl
    rw [e] at this
    exact Nat.le_trans this (Nat.mul_le_mul hn hn)
  have key : ∃ δ', Zaj [some (.fz (.int n)), some (.fz (Zfo L)), none, none, none, none, none, none, none, none] = .rt (Zcd n (Zil (Zgl L))) δ' := by
    obtain ⟨δ', e1, z7, z8, z9, rfl⟩ := Zi6 (it := Zf7 (Z7 Wc (Ze (Zh 0) Z5))) (g := gTp 2 (gCn (gNm 7) (gCn (gNm 8) gNl)))
      (S := Yu (wE (Ja 2 [7, 8] (Zfa (Ze (Zh 5) (Ze (Zh 4) Z5))) (gTp 2 (gCn (gNm 0) (gCn (gNm 1) gNl))) (tV (Zm gNe (We gIx (Zh 0) (Zh 2)) (We gIx (Zh 0) (Zh 3)))) (Zh 1)) (Ju 9)) (Jx 6 (Z7 Wb (Ze (Zij Z0s (Ze (Zh 9) Z5)) (Ze (Zh 3) Z5)))))
      (δ := [some (.fz (.int n)), some (.fz (Zfo L)), some (.fz (.list ((L.map fun p => p.2).map frD))), some (.fz (.int m)), some (.fz (.list (L.map fun p => .int (scI m p.2)))), some (.fz (.list (L.map (Zf1 n)))), some (.nd []), none, none, none]) (ds := (Zy n).map ptD)
      (fun k δ => ∃ z7 z8 z9, δ = [some (.fz (.int n)), some (.fz (Zfo L)), some (.fz (.list ((L.map fun p => p.2).map frD))), some (.fz (.int m)), some (.fz (.list (L.map fun p => .int (scI m p.2)))), some (.fz (.list (L.map (Zf1 n)))), some (.nd ((((Zy n).take k).map (Zgl L)).map OT.fz)), z7, z8, z9])
      (Zch (Zv (Zd Zc Zq) (Zcx n (by omega)))) ⟨none, none, none, rfl⟩ (fun k d δ hd q => by
        obtain ⟨z7, z8, z9, rfl⟩ := q
        rw [List.getElem?_map] at hd
        cases e : (Zy n)[k]? with
        | none => rw [e] at hd; cases hd
        | some p =>
          rw [e] at hd
          cases hd
          obtain ⟨q1, q2⟩ := J7 (List.mem_of_getElem? e)
          have eF : Told Wb [.int ((L.filter (prt p.1 p.2)).map fun p => scI m p.2).sum, .int m] (Zgl L p) := by
            have := Zg0 (t := ((L.filter (prt p.1 p.2)).map fun p => scI m p.2).sum) (b := m) (n := 200) (by omega) bm
            rwa [Zxg m0 _ fun p hp => dm p (List.mem_filter.mp hp).1] at this
          have et : (Zy n).take (k + 1) = (Zy n).take k ++ [p] := by rw [List.take_succ, e]; rfl
          refine ⟨_, _, rfl, .inl (Yx (Z9 (Znv (n := n) (m := m) (L := L) (a := p.1) (b := p.2) (by omega) q2 hl rfl rfl rfl)) (Zkn (d := Zgl L p) (Zv (Zd (Zgf (Zd Zc Zq) (Zof _)) (Zd Zc Zq)) eF) rfl ?_)), some (.fz (.int (p.1 : Int))), some (.fz (.int (p.2 : Int))), some (.fz (Yc ((L.filter (prt p.1 p.2)).map fun p => scI m p.2))), ?_⟩
          · rw [List.length_map, List.length_map]
            exact Nat.le_trans (List.length_take_le' ..) (by omega)
          · rw [et, List.map_append, List.map_append]; rfl)
    rw [List.length_map, List.take_length] at e1
    have ef : (OT.nd (((Zy n).map (Zgl L)).map OT.fz)).data = .list ((Zy n).map (Zgl L)) := by rw [OT.data_nd, OT.map_fz]
    refine ⟨[some (.fz (.int n)), some (.fz (Zfo L)), some (.fz (.list ((L.map fun p => p.2).map frD))), some (.fz (.int m)), some (.fz (.list (L.map fun p => .int (scI m p.2)))), some (.fz (.list (L.map (Zf1 n)))), some (.fz (.list ((Zy n).map (Zgl L)))), z7, z8, z9], ?_⟩
    refine Yx (Z9 (EvV.cast (Zcu (cs := []) L ctD (fun p => frD p.2) (Zch Zc) (by omega) rfl fun p _ => Zek (d := frD p.2) Zc Yt rfl) (y := .list ((L.map fun p => p.2).map frD)) (by rw [List.map_map]; rfl))) ?_
    refine Yx (Z9 (Zv (Zd Zc Zq) eB)) (Yx (Z9 (Zv (Zd Zc (Zd Zc Zq)) eT)) (Yx (Z9 (Zv (Zd Zc (Zd Zc Zq)) (Zkm hn L hl))) (Yx Zjz (Yx e1 (Zou rfl ?_)))))
    rw [ef]
    exact Zw0 (Zd Zc (Zd Zc Zq)) (Zfr hn (Zgl L))
  obtain ⟨δ', e⟩ := key
  unfold Zac
  rw [Zjb (np := 2) (by rfl)]
  show (Zaj [some (.fz (.int n)), some (.fz (Zfo L)), none, none, none, none, none, none, none, none]).told = _
  rw [e]; rfl
noncomputable def frG (T : Nat → Nat → Rat) : Nat → Nat → PyData := fun i j => frD (T i j)
noncomputable def dOf (n : Nat) (T : Nat → Nat → Rat) : List Rat := (Zy n).map fun p => T p.1 p.2
theorem Zuk {n : Nat} {f : Nat → Nat → PyData} {δ : Zn} (h : δ[0]? = some (some (.fz (Zdy n f)))) : EvV (Zij Zn3 (Ze (Zh 0) Z5)) δ (.int n) := (Zpk (ds := (List.range n).map fun i => .list ((List.range n).map fun j => f i j)) (Zc h)).cast (by rw [List.length_map, List.length_range])
theorem Zs2 {α : Type} {δ cs : Zn} {caps : List Nat} {it : FI} {g : FG} {t : FT} {me : FE} (xs : List α) (mk f : α → PyData) (pr : α → Bool) (hi : EvI it δ (xs.map mk)) (hz : xs.length ≤ 1000000) (hb : blk 2 caps δ = none :: none :: cs) (h : ∀ x ∈ xs, ∀ z0 z1, ∃ w0 w1, g (mk x) (z0 :: z1 :: cs) = some (w0 :: w1 :: cs) ∧ EvT t (w0 :: w1 :: cs) (pr x) ∧ EvV me (w0 :: w1 :: cs) (f x)) : EvV (Ja 2 caps it g t me) δ (.list ((xs.filter pr).map f)) := by
  obtain ⟨ts, δ', e1, z0, z1, rfl, e2⟩ := Zsv (t := t) (e := me) (g := g) (δ := none :: none :: cs)
    (fun k acc δ => ∃ z0 z1, δ = z0 :: z1 :: cs ∧ acc = ((xs.take k).filter pr).map f) (xs.map mk) 0 [] ⟨none, none, rfl, rfl⟩ (fun k d acc δ hd q => by
      obtain ⟨z0, z1, rfl, rfl⟩ := q
      rw [Nat.zero_add] at *
      rw [List.getElem?_map] at hd
      cases e : xs[k]? with
      | none => rw [e] at hd; cases hd
      | some p =>
        rw [e] at hd
        cases hd
        have et : xs.take (k + 1) = xs.take k ++ [p] := by rw [List.take_succ, e]; rfl
        obtain ⟨w0, w1, e1, e2, e3⟩ := h p (List.mem_of_getElem? e) z0 z1
        refine ⟨_, e1, Zgv e2 ⟨fun c => Zi1 e3 ⟨_, _, rfl, ?_⟩, fun c => ⟨_, _, rfl, ?_⟩⟩⟩
        · rw [et, List.filter_append, List.filter_cons_of_pos c, List.filter_nil, List.map_append]; rfl
        · rw [et, List.filter_append, List.filter_cons_of_neg (by rw [c]; decide), List.filter_nil, List.append_nil])
  rw [Nat.zero_add, List.length_map, List.take_length, List.nil_append] at e2
  refine ⟨.nd ts, ?_, by rw [OT.data_nd, e2]⟩
  unfold EvI at hi
  unfold Ja
  rw [hi]
  show (if (xs.map mk).length ≤ sizeLine then _ else none) = _
  rw [if_pos (by rw [List.length_map, sizeLine_eq]; omega), hb, e1]; rfl
theorem Zsn {α : Type} {δ : Zn} {it : FI} {g : FG} {me : FE} (xs : List α) (mk f : α → PyData) (hi : EvI it δ (xs.map mk)) (hz : xs.length ≤ 1000000) (h : ∀ x ∈ xs, ∀ z0 z1, ∃ w0 w1, g (mk x) [z0, z1] = some [w0, w1] ∧ EvV me [w0, w1] (f x)) : EvV (Ja 2 [] it g Ze6 me) δ (.list (xs.map f)) := by
  obtain ⟨ts, δ', e1, z0, z1, rfl, e2⟩ := Zsv (t := Ze6) (e := me) (g := g) (δ := [none, none])
    (fun k acc δ => ∃ z0 z1, δ = [z0, z1] ∧ acc = (xs.take k).map f) (xs.map mk) 0 [] ⟨none, none, rfl, rfl⟩ (fun k d acc δ hd q => by
      obtain ⟨z0, z1, rfl, rfl⟩ := q
      rw [Nat.zero_add] at *
      rw [List.getElem?_map] at hd
      cases e : xs[k]? with
      | none => rw [e] at hd; cases hd
      | some p =>
        rw [e] at hd
        cases hd
        have et : xs.take (k + 1) = xs.take k ++ [p] := by rw [List.take_succ, e]; rfl
        obtain ⟨w0, w1, e1, e2⟩ := h p (List.mem_of_getElem? e) z0 z1
        refine ⟨_, e1, Zgv rfl ⟨fun _ => Zi1 e2 ⟨_, _, rfl, ?_⟩, fun z => nomatch z⟩⟩
        rw [et, List.map_append]; rfl)
  rw [Nat.zero_add, List.length_map, List.take_length, List.nil_append] at e2
  refine ⟨.nd ts, ?_, by rw [OT.data_nd, e2]⟩
  unfold EvI at hi
  unfold Ja
  rw [hi]
  show (if (xs.map mk).length ≤ sizeLine then _ else none) = _
  rw [if_pos (by rw [List.length_map, sizeLine_eq]; omega)]
  show (compLoop _ _ _ _ [none, none]).bind _ = _
  rw [e1]; rfl
noncomputable def aQ (q : Rat) : Rat := ⟨(q.num.natAbs : Int), q.den, q.den_nz, by rw [Int.natAbs_natCast]; exact q.reduced⟩
theorem Zz4 {m : Int} (h : 0 < m) : (0 : Rat) < (m : Rat) := Rat.intCast_pos.mpr h
noncomputable def IsMx (r : List Rat) (x : Rat) : Prop := (∀ y ∈ r, y ≤ x) ∧ (x ∈ r ∨ x = 0) ∧ 0 ≤ x
theorem IsMx.uniq {r : List Rat} {x y : Rat} (h : IsMx r x) (k : IsMx r y) : x = y := by
  have le : ∀ {x y : Rat}, IsMx r x → IsMx r y → x ≤ y := fun {x y} h k => by
    rcases h.2.1 with z | z
    · exact k.1 x z
    · rw [z]; exact k.2.2
  exact Rat.le_antisymm (le h k) (le k h)
theorem Zne (es : List Int) : Zte [Yc es] = some (.int (Zra es)) := by
  show (Zhv (es.map PyData.int)).bind _ = _
  rw [Zfd]; rfl
theorem Zyk {m : Int} {q : Rat} (hm : 0 < m) (h : (q.den : Int) ∣ m) : Rat.divInt (scI m q) m = q := by
  rw [Rat.divInt_eq_div, Zmi h, Rat.mul_div_cancel (Rat.ne_of_gt (Zz4 hm))]
theorem Zlo {r : List Rat} {b : Int} (hb : Bot b) (hr : ∀ q ∈ r, 0 ≤ q ∧ (q.den : Int) ∣ b ∧ Bt 300 q.num) (lr : r.length ≤ 1000) : ∃ x, Told Jc [Zcc r] (frD x) ∧ IsMx r x := by
  obtain ⟨m, eB, m0, m1, m2⟩ := Zc2 (n := 300) hb.pos (hb.bt.mono (by decide)) (by decide) (r.map fun q => (q.num, (q.den : Int))) fun p hp => by
    obtain ⟨q, hq, rfl⟩ := List.mem_map.mp hp
    exact ⟨Zce q, (hr q hq).2.1⟩
  have bm : Bt 300 m := Zh9 hb.pos m2 (hb.bt.mono (by decide))
  have dm : ∀ q ∈ r, (q.den : Int) ∣ m := fun q hq => m1 (q.num, (q.den : Int)) (List.mem_map.mpr ⟨q, hq, rfl⟩)
  rw [← Zuy] at eB
  have eT := Zf9 (n := 300) m0 bm r lr (fun q hq => ⟨dm q hq, (hr q hq).2.2⟩)
  have eF := Zg0 (t := Zra (r.map (scI m))) (b := m) (n := 300) (by omega) bm
  refine ⟨Rat.divInt (Zra (r.map (scI m))) m, Yv rfl <| Y9 (Z9 (Zv (Zd Zc Zq) eB)) <| Z4w (Zd (Zgf (Zd (EvV.cast (Zv (Zd Zc (Zd Zc Zq)) eT) (y := Yc (r.map (scI m))) (by unfold Yc; rw [List.map_map]; rfl)) Zq) (Zne _)) (Zd Zc Zq)) eF, ?_⟩
  by_cases c : r = []
  · subst c
    have e : Rat.divInt (Zra (List.map (scI m) [])) m = 0 := Rat.zero_divInt m
    rw [e]
    exact ⟨(fun _ m => nomatch m), .inr rfl, Rat.le_refl⟩
  · obtain ⟨h1, h2⟩ := Zjv (ns := r.map (scI m)) (by rw [List.length_map]; exact List.length_pos_iff.mpr c)
    obtain ⟨q, hq, eq⟩ := List.mem_map.mp h1
    rw [← eq, Zyk m0 (dm q hq)]
    refine ⟨fun y hy => ?_, .inl hq, (hr q hq).1⟩
    have := h2 _ (List.mem_map.mpr ⟨y, hy, rfl⟩)
    rw [← eq] at this
    have z : ((scI m y : Int) : Rat) ≤ ((scI m q : Int) : Rat) := Rat.intCast_le_intCast.mpr this
    rw [Zmi (dm y hy), Zmi (dm q hq)] at z
    exact Rat.le_of_mul_le_mul_right z (Zz4 m0)
theorem Zme {n : Nat} (hn : n ≤ 10) (f : Nat → Nat → PyData) : Told Yp [Zdy n f] (.list ((Zy n).map fun p => f p.1 p.2)) := by
  have lp := pairs_len n hn
  refine Yv rfl <| Jz <| EvV.cast (Zs2 (cs := [some (.fz (Zdy n f))]) (Zy n) ptD (fun p => f p.1 p.2) (fun _ => true) (Zch (Zv (Zd (Zuk rfl) Zq) (Zcx n (by omega)))) (by omega) rfl fun p hp z0 z1 => ?_) ?_
  · obtain ⟨a1, a2⟩ := J7 hp
    refine ⟨_, _, rfl, rfl, Zek (Zek (Zc (d := Zdy n f)) (Zc (d := .int (p.1 : Int))) (d := .list ((List.range n).map fun j => f p.1 j)) ?_) (Zc (d := .int (p.2 : Int))) ?_⟩
    · unfold Zdy
      rw [Zrf, Zmn, List.getElem?_map, List.getElem?_range (by omega)]; rfl
    · rw [Zrf, Zmn, List.getElem?_map, List.getElem?_range (by omega)]; rfl
  · rw [List.filter_eq_self.mpr fun _ _ => rfl]
noncomputable def apL (a b : List Rat) : List Rat := (a.zip b).map fun p => p.1 - p.2
theorem Zzz (q : Rat) : 0 ≤ aQ q := by
  have := Rat.le_iff 0 (aQ q)
  rw [this]
  show 0 * ((aQ q).den : Int) ≤ (q.num.natAbs : Int) * 1
  omega
theorem Zvj (q : Rat) : frD (aQ q) = .tuple [.int (q.num.natAbs : Int), .int (q.den : Int)] := rfl
theorem Zmj {n : Nat} (hn : n ≤ 10) {b : Int} (hb : Bot b) {T : Nat → Nat → Rat} (hT : ∀ q ∈ dOf n T, Qv b 170 q) {L : List (List Int × Rat)} (lL : L.length < 64) (hL : ∀ p ∈ L, Qv b 101 p.2) : ∃ x, Told Wn [Zdy n (frG T), Zfo L] (frD x) ∧ IsMx ((apL (dOf n T) (smL n L)).map aQ) x := by
  have lp := pairs_len n hn
  have eO := Zlp hn L lL hb.pos (hb.bt.mono (by decide)) fun p hp => ⟨(hL p hp).dvd hb, ((hL p hp).qb hb (by decide)).1.mono (by decide)⟩
  have eD1 : Told Yp [Zdy n (frG T)] (Zcc (dOf n T)) := by
    have := Zme hn (frG T)
    unfold Zcc dOf; rw [List.map_map]; exact this
  have eD2 : Told Yp [Zdy n (Zil (Zgl L))] (Zcc (smL n L)) := by
    have := Zme hn (Zil (Zgl L))
    have e : (Zy n).map (fun p => Zil (Zgl L) p.1 p.2) = (Zy n).map fun p => frD (Sm L p.1 p.2) := List.map_congr_left fun p hp => if_pos (J7 hp).1
    rw [e] at this
    unfold Zcc smL
    rw [List.map_map]; exact this
  have qa : ∀ p ∈ (dOf n T).zip (smL n L), Qv b 170 p.1 ∧ Qv b 166 p.2 := fun p hp => by
    obtain ⟨h1, h2⟩ := List.of_mem_zip hp
    obtain ⟨x, _, e⟩ := List.mem_map.mp h2
    exact ⟨hT _ h1, e ▸ Zzc hL lL x.1 x.2⟩
  have qv : ∀ q ∈ apL (dOf n T) (smL n L), Qv b 171 q := fun q hq => by
    obtain ⟨p, hp, rfl⟩ := List.mem_map.mp hq
    exact (qa p hp).1.sub ((qa p hp).2.up (by decide))
  have ld : (dOf n T).length ≤ 100 := by unfold dOf; rw [List.length_map]; exact lp
  have la : (apL (dOf n T) (smL n L)).length ≤ 100 := by
    unfold apL
    rw [List.length_map, List.length_zip]
    omega
  obtain ⟨x, eG, hx⟩ := Zlo (r := (apL (dOf n T) (smL n L)).map aQ) hb (fun q hq => by
    obtain ⟨v, hv, rfl⟩ := List.mem_map.mp hq
    exact ⟨Zzz v, (qv v hv).dvd hb, ((qv v hv).qb hb (by decide)).1.abs.mono (by decide)⟩) (by rw [List.length_map]; omega)
  refine ⟨x, ?_, hx⟩
  refine Yv rfl <| Y9 (Z9 (Zv (Zd (Zuk rfl) (Zd Zc Zq)) (.of eO (Zh3 _ _)))) <| Y9 (Z9 (d := Zcc (apL (dOf n T) (smL n L))) (EvV.cast (Zsn ((dOf n T).zip (smL n L)) (fun p => .tuple [frD p.1, frD p.2]) (fun p => frD (p.1 - p.2)) (Zft (Zv (Zd Zc Zq) eD1) (Zv (Zd Zc Zq) eD2) (Zit _ _ _ _)) (by rw [List.length_zip]; omega) fun p hp z0 z1 => ⟨_, _, rfl, Zv (Zd Zc (Zd Zc Zq)) (Zr1 ((qa p hp).1.qb hb (by decide)) ((qa p hp).2.qb hb (by decide)) (by decide))⟩) (by unfold Zcc apL; rw [List.map_map]; rfl))) <|
    Z4w (Zd (EvV.cast (Zcu (cs := []) (apL (dOf n T) (smL n L)) frD (fun q => frD (aQ q)) (Zch Zc) (by omega) rfl fun q _ => EvV.cast (Zei (Zd (Zgf (Zd (at0 (q := q) rfl) Zq) (Zmh _)) (Zd (at1 (q := q) rfl) Zq)) (show 2 ≤ 1000 by decide)) (Zvj q).symm) (by unfold Zcc; rw [List.map_map]; rfl)) Zq) eG
theorem Zkt {b : Int} (hb : Bot b) {a c : List Rat} (ha : ∀ q ∈ a, Qv b 170 q) (hc : ∀ q ∈ c, Qv b 170 q) : ∃ x, Told J2 [Zcc a, Zcc c] (frD x) ∧ IsMx ((apL a c).map aQ) x := by
  have key : ∃ d, Told J2 [Zcc a, Zcc c] d ∧ ∃ x : Rat, d = frD x ∧ IsMx ((apL a c).map aQ) x := by
    refine Znf rfl <| Za6 (Z9 (d := frD 0) tw) <| Zmx (ds := (a.zip c).map fun p => .tuple [frD p.1, frD p.2]) (fun k δ => ∃ (x : Rat) (z3 z4 z5 : Option OT), δ = [some (.fz (Zcc a)), some (.fz (Zcc c)), some (.fz (frD x)), z3, z4, z5] ∧ IsMx (((a.zip c).take k).map fun p => aQ (p.1 - p.2)) x ∧ Qb 171 x) (Zft Zc Zc (Zit _ _ _ _)) ⟨0, none, none, none, rfl, ⟨(fun _ m => nomatch m), .inr rfl, Rat.le_refl⟩, ⟨btc (n := 1) (by decide) (by decide) |>.mono (by decide), btc (n := 1) (by decide) (by decide) |>.mono (by decide)⟩⟩ (fun k d δ hd q => ?_) fun δ' q => ?_
    · obtain ⟨x, z3, z4, z5, rfl, hx, qx⟩ := q
      obtain ⟨p, e, rfl⟩ := zip_get hd
      obtain ⟨p1, p2⟩ := List.of_mem_zip (List.mem_of_getElem? e)
      have q1 := ha _ p1
      have q2 := hc _ p2
      have qd := (q1.sub q2).qb hb (by decide)
      obtain ⟨v, hv⟩ : ∃ v, v = p.1 - p.2 := ⟨_, rfl⟩
      have eM : Told J3 [frD p.1, frD p.2] (frD v) := hv ▸ Zk1 (q1.qb hb (by decide)) (q2.qb hb (by decide)) (by decide)
      rw [← hv] at qd
      have qA : Qb 171 (aQ v) := ⟨qd.1.abs, qd.2⟩
      have tk : (a.zip c).take (k + 1) = (a.zip c).take k ++ [p] := by rw [List.take_succ, e]; rfl
      have em : ((a.zip c).take (k + 1)).map (fun p => aQ (p.1 - p.2)) = ((a.zip c).take k).map (fun p => aQ (p.1 - p.2)) ++ [aQ v] := by rw [tk, List.map_append, hv]; rfl
      have s1 : Zem (tV (Zm gLt (We gIx (Zh 5) (fC (.int 0))) (fC (.int 0)))) (wE (Zfl (Ze (Zm gSb (fC (.int 0)) (We gIx (Zh 5) (fC (.int 0)))) (Ze (We gIx (Zh 5) (fC (.int 1))) Z5))) (Ju 5)) fNx [some (.fz (Zcc a)), some (.fz (Zcc c)), some (.fz (frD x)), some (.fz (frD p.1)), some (.fz (frD p.2)), some (.fz (frD v))] = .nx [some (.fz (Zcc a)), some (.fz (Zcc c)), some (.fz (frD x)), some (.fz (frD p.1)), some (.fz (frD p.2)), some (.fz (frD (aQ v)))] := by
        by_cases z : v.num < 0
        · exact Zdd (Zej (Zg2 (at0 rfl) Yt (decide_eq_true z))) (Z9 (d := frD (aQ v)) (EvV.cast (Zei (Zd (Zif Yt (at0 (q := v) rfl)) (Zd (at1 (q := v) rfl) Zq)) (show 2 ≤ 1000 by decide)) (by rw [Zvj, show 0 - v.num = (v.num.natAbs : Int) by omega])))
        · have : frD (aQ v) = frD v := by
            rw [Zvj, show (v.num.natAbs : Int) = v.num by omega]; rfl
          rw [this]
          exact Jy (Zej (Zg2 (at0 rfl) Yt (decide_eq_false z))) rfl
      have tB : EvT (tD (Z7 J1 (Ze (Zh 2) (Ze (Zh 5) Z5)))) [some (.fz (Zcc a)), some (.fz (Zcc c)), some (.fz (frD x)), some (.fz (frD p.1)), some (.fz (frD p.2)), some (.fz (frD (aQ v)))] (decide (x < aQ v)) := Znk (Zv (Zd Zc (Zd Zc Zq)) (Zkr qx qA (by decide)))
      by_cases z : x < aQ v
      · rw [decide_eq_true z] at tB
        refine ⟨_, _, rfl, .inl (Yx (Z9 (Zv (Zd Zc (Zd Zc Zq)) eM)) (Yx s1 (Zdd tB (Z9 Zc)))), aQ v, _, _, _, rfl, ?_, qA⟩
        rw [em]
        refine ⟨fun y hy => ?_, .inl (List.mem_append_right _ (.head _)), Zzz v⟩
        rcases List.mem_append.mp hy with w | w
        · exact Rat.le_trans (hx.1 y w) (Rat.le_of_lt z)
        · rw [List.mem_singleton.mp w]; exact Rat.le_refl
      · rw [decide_eq_false z] at tB
        refine ⟨_, _, rfl, .inl (Yx (Z9 (Zv (Zd Zc (Zd Zc Zq)) eM)) (Yx s1 (Jy tB rfl))), x, _, _, _, rfl, ?_, qx⟩
        rw [em]
        refine ⟨fun y hy => ?_, hx.2.1.imp (fun w => List.mem_append_left _ w) id, hx.2.2⟩
        rcases List.mem_append.mp hy with w | w
        · exact hx.1 y w
        · rw [List.mem_singleton.mp w]; exact Rat.not_lt.mp z
    · obtain ⟨x, z3, z4, z5, rfl, hx, qx⟩ := q
      rw [List.length_map, List.take_length] at hx
      refine Zg8 Zc ⟨x, rfl, ?_⟩
      unfold apL
      rw [List.map_map]; exact hx
  obtain ⟨d, h, x, rfl, hx⟩ := key
  exact ⟨x, h, hx⟩
theorem Zla (q : Rat) : Told W9 [frD q] (.bool true) := by
  have g1 : (Int.gcd q.num (q.den : Int) : Int) = 1 := by
    rw [Int.gcd_eq_natAbs_gcd_natAbs, Int.natAbs_natCast]
    exact congrArg Int.ofNat q.reduced
  have wh : ∀ i : Int, W4 [.int i] = .ok (.fz (.bool true)) := fun _ => rfl
  have w : ∀ {δ : Zn} {k i : Int}, EvV (We gIx (Zh 0) (fC (.int k))) δ (.int i) → EvT (tNo (tD (Z7 W4 (Ze (We gIx (Zh 0) (fC (.int k))) Z5)))) δ false := fun h => Zqg (p := true) (Znk (Zv (Zd h Zq) (.of (wh _) (OT.data_fz _))))
  exact Yv rfl <| Y9 (Jy (Zto (Zqg (p := true) (Znk (Zzh Zc rfl))) (Zto (Zej (Zr4 (Zgf (Zd (Zc (d := frD q)) Zq) (Z1c [.int q.num, .int (q.den : Int)])) Yt rfl)) (Zto (w (at0 rfl)) (w (at1 rfl))))) rfl) <|
    Jz (Zru (Zsr (at1 rfl) Yt (decide_eq_true (Zce q))) (Znb (Zv (Zd (at0 rfl) (Zd (at1 rfl) Zq)) (Zkv (Zce q))) Yt (by rw [g1]; rfl)))
theorem Zsa {α : Type} (xs : List α) (f g : α → PyData) : Zj2 (xs.map f) (xs.map g) = xs.map fun x => .tuple [f x, g x] := by
  unfold Zj2
  rw [List.zip_map', List.map_map]; rfl
theorem Zti {α : Type} [DecidableEq α] : ∀ (ps : List α) (d : List Rat), ps.Nodup → d.length = ps.length → ∃ D : α → Rat, d = ps.map D
  | [], [], _, _ => ⟨fun _ => 0, rfl⟩
  | [], _ :: _, _, h => nomatch h
  | _ :: _, [], _, h => nomatch h
  | p :: ps, q :: d, hn, hl => by
    obtain ⟨h1, h2⟩ := List.nodup_cons.mp hn
    obtain ⟨D, hD⟩ := Zti ps d h2 (Nat.succ.inj hl)
    refine ⟨fun x => if x = p then q else D x, ?_⟩
    rw [List.map_cons, if_pos rfl, hD]
    refine congrArg (q :: ·) (List.map_congr_left fun x hx => ?_)
    exact (if_neg fun z : x = p => h1 (z ▸ hx)).symm
theorem Zlg {n : Nat} (h0 : 1 ≤ n) (hn : n ≤ 6) : (Zy n).Nodup := by
  obtain rfl | rfl | rfl | rfl | rfl | rfl : n = 1 ∨ n = 2 ∨ n = 3 ∨ n = 4 ∨ n = 5 ∨ n = 6 := by omega
  all_goals decide
noncomputable def tOf (D : Nat × Nat → Rat) (i j : Nat) : Rat := if i < j then D (i, j) else if j < i then D (j, i) else 0
theorem Zoj {n : Nat} (h0 : 1 ≤ n) (hn : n ≤ 6) {d : List Rat} (ld : d.length = (Zy n).length) : ∃ T, Told Zak [.int n, Zcc d] (Zdy n (frG T)) ∧ dOf n T = d := by
  obtain ⟨D, hD⟩ := Zti (Zy n) d (Zlg h0 hn) ld
  refine ⟨tOf D, ?_, ?_⟩
  · have e0 : (Ja 1 [0] (iRa (Ze (Zh 0) Z5)) (gNm 0) Ze6 (Ja 1 [] (iRa (Ze (Zh 1) Z5)) (gNm 0) Ze6 (Zfl (Ze (fC (.int 0)) (Ze (fC (.int 1)) Z5))))) [some (.fz (.int n)), some (.fz (Zcc d)), none, none, none, none] = some (Zcd n (fun _ _ => frD 0), [some (.fz (.int n)), some (.fz (Zcc d)), none, none, none, none]) :=
      Zgr (cs := [some (.fz (.int n))]) (List.range n) (fun i : Nat => PyData.int (0 + (i : Int))) (fun i => .nd ((List.range n).map fun j => .fz (frD 0))) (Znz (Zd Zc Zq) (by omega)) (by rw [List.length_range, sizeLine_eq]; omega) rfl fun i _ =>
        Zgr (cs := []) (List.range n) (fun i : Nat => PyData.int (0 + (i : Int))) (fun j => .fz (frD 0)) (Znz (Zd Zc Zq) (by omega)) (by rw [List.length_range, sizeLine_eq]; omega) rfl fun j _ => by
          rw [Zlm]
          exact if_pos (e := none) (show 2 ≤ sizeLine by rw [sizeLine_eq]; omega)
    have er : Zcc d = .list ((Zy n).map fun p => frD (D p)) := by rw [hD]; unfold Zcc; rw [List.map_map]; rfl
    refine Yv rfl <| Y9 (Zjd e0) <| Zqq (ds := (Zy n).map fun p => .tuple [frD (D p), ptD p]) (fun k δ => ∃ (f : Nat → Nat → PyData) (z3 z4 z5 : Option OT), δ = [some (.fz (.int n)), some (.fz (Zcc d)), some (Zcd n f), z3, z4, z5] ∧ (∀ i, f i i = frD 0) ∧ ∀ l p, l < k → (Zy n)[l]? = some p → f p.1 p.2 = frD (D p) ∧ f p.2 p.1 = frD (D p)) (Zft (EvV.cast Zc er) (Zv (Zd Zc Zq) (Zj0 n (by omega))) (Zsa _ _ _)) ⟨_, none, none, none, rfl, fun _ => rfl, fun l p hl => absurd hl (Nat.not_lt_zero l)⟩ (fun k v δ hv q => ?_) fun δ' q => ?_
    · obtain ⟨f, z3, z4, z5, rfl, h1, h2⟩ := q
      rw [List.getElem?_map] at hv
      cases e : (Zy n)[k]? with
      | none => rw [e] at hv; cases hv
      | some p =>
        rw [e] at hv
        cases hv
        obtain ⟨m1, m2⟩ := J7 (List.mem_of_getElem? e)
        refine ⟨_, _, rfl, .inl (Yx (Zfg (n := n) (f := f) (a := p.1) (b := p.2) (d := frD (D p)) Zc rfl Zc (by omega) Zc (by omega)) (Zfg (n := n) (a := p.2) (b := p.1) (d := frD (D p)) Zc rfl Zc (by omega) Zc (by omega))), _, _, _, _, rfl, fun i => ?_, fun l q hl hq => ?_⟩
        · unfold upG
          rw [if_neg (by omega), if_neg (by omega)]
          exact h1 i
        · by_cases c : q = p
          · subst c
            unfold upG
            exact ⟨by split <;> (try rfl) ; rw [if_pos ⟨rfl, rfl⟩], by rw [if_pos ⟨rfl, rfl⟩]⟩
          · have hl' : l < k := by
              rcases Nat.lt_or_ge l k with z | z
              · exact z
              · have : l = k := by omega
                subst this
                rw [e] at hq
                cases hq
                exact absurd rfl c
            obtain ⟨q1, q2⟩ := J7 (List.mem_of_getElem? hq)
            have ne : ¬ (q.1 = p.1 ∧ q.2 = p.2) := fun z => c (Prod.ext z.1 z.2)
            obtain ⟨g1, g2⟩ := h2 l q hl' hq
            unfold upG
            rw [if_neg (by omega), if_neg (by omega), if_neg (by omega), if_neg (by omega)]
            exact ⟨g1, g2⟩
    · obtain ⟨f, z3, z4, z5, rfl, h1, h2⟩ := q
      rw [List.length_map] at h2
      have eG : Zcd n f = Zcd n (frG (tOf D)) := Zm1 fun i j hi hj => by
        unfold frG tOf
        rcases Nat.lt_trichotomy i j with c | c | c
        · obtain ⟨l, hl⟩ := List.getElem?_of_mem (Zcm c hj)
          rw [if_pos c]
          exact (h2 l _ (List.getElem?_eq_some_iff.mp hl).1 hl).1
        · subst c
          rw [if_neg (Nat.lt_irrefl _), if_neg (Nat.lt_irrefl _)]
          exact h1 i
        · obtain ⟨l, hl⟩ := List.getElem?_of_mem (Zcm c hi)
          rw [if_neg (by omega), if_pos c]
          exact (h2 l _ (List.getElem?_eq_some_iff.mp hl).1 hl).2
      rw [eG]
      exact Z3b rfl (Zh3 n _)
  · rw [hD]
    exact List.map_congr_left fun p hp => if_pos (J7 hp).1
theorem Z01 {δ : Zn} {i n : Nat} {e j : FE} {ts : List OT} {d : PyData} {k : Int} (h : EvV e δ d) (hi : δ[i]? = some (some (.nd ts))) (hj : EvV j δ (.int k)) (hx : ixN ts.length k = some n) : Zxo i e j δ = .nx (δ.set i (some (.nd (ts.set n (.fz d))))) := by
  obtain ⟨t, e1, e2⟩ := h
  obtain ⟨u, e3, e4⟩ := hj
  rw [Zwp, e1, Jd, hi]
  show onO (j δ) _ = _
  rw [e3, Jd, e4]
  show onX (ixN ts.length k) _ = _
  rw [hx, e2]; rfl
theorem Zr0 {b : Int} (hb : Bot b) {ws : List Int} (hw : ∀ v ∈ ws, 0 ≤ v ∧ v < 1000000000000) (lw : ws.length ≤ 1000) {it : FI} {caps : List Nat} {δ : Zn} (hi : EvI it δ (ws.map PyData.int)) (hk : blk 1 caps δ = [none, some (.fz (.int b))]) : ∃ d : List Rat, EvV (Ja 1 caps it (gNm 0) Ze6 (Z7 Z4 (Ze (Zh 0) (Ze (Zh 1) Z5)))) δ (Zcc d) ∧ d.length = ws.length ∧ ∀ q ∈ d, Qv b 101 q := by
  have ch : ∀ v : Int, ∃ q : Rat, (0 ≤ v ∧ v < 1000000000000) → Told Z4 [.int v, .int b] (frD q) ∧ Qv b 101 q := fun v => by
    by_cases c : 0 ≤ v ∧ v < 1000000000000
    · obtain ⟨q, h1, h2⟩ := Zes c.1 c.2 hb
      exact ⟨q, fun _ => ⟨h1, h2⟩⟩
    · exact ⟨0, fun z => absurd z c⟩
  obtain ⟨f, hf⟩ := Classical.axiomOfChoice ch
  refine ⟨ws.map f, EvV.cast (Zcu (cs := [some (.fz (.int b))]) ws PyData.int (fun v => frD (f v)) hi (by omega) hk fun v hv => Zv (Zd Zc (Zd Zc Zq)) (hf v (hw v hv)).1) (by unfold Zcc; rw [List.map_map]; rfl), List.length_map .., fun q hq => ?_⟩
  obtain ⟨v, hv, rfl⟩ := List.mem_map.mp hq
  exact (hf v (hw v hv)).2
theorem Zoq (n : Nat) (L : List (List Int × Rat)) : (smL n L).length = (Zy n).length := List.length_map ..
theorem Zue {n : Nat} {b : Int} {L : List (List Int × Rat)} (lL : L.length < 64) (hL : ∀ p ∈ L, Qv b 101 p.2) : ∀ q ∈ smL n L, Qv b 166 q := fun q hq => by
  obtain ⟨p, _, rfl⟩ := List.mem_map.mp hq
  exact Zzc hL lL p.1 p.2
theorem Zki (ns : List Int) {n : Nat} (h0 : 1 ≤ n) (hn : n ≤ 6) {b : Int} (hb : Bot b) : ∃ d : List Rat, Told Wm [Yc ns, .int n, .int b] (Zcc d) ∧ d.length = (Zy n).length ∧ ∀ q ∈ d, Qv b 170 q := by
  obtain ⟨ws, eW, lW, hW⟩ := Zlb ns 32 (by decide)
  obtain ⟨c0, e0⟩ := Zd7 ns (k := 0) (by decide)
  obtain ⟨hp, lp⟩ := Zn0 h0 hn
  obtain ⟨L, eL, lL, hL⟩ := Zms h0 hn hW 1 hb
  have eS := Zoz (n := n) (by omega) hb lL hL
  have key : ∃ v, Told Wm [Yc ns, .int n, .int b] v ∧ ∃ d : List Rat, v = Zcc d ∧ d.length = (Zy n).length ∧ ∀ q ∈ d, Qv b 170 q := by
    refine Znf rfl <| Za6 (Z9 (Zv (Zd Zc (Zd Yt (Zd Yt Zq))) eW)) <| Za6 (Z9 (Za9 (Ziq rfl e0) Yt)) ?_
    generalize c0.fdiv 6 = y
    by_cases c : y.fmod 2 = 0
    · obtain ⟨C, hC⟩ : ∃ C, Zss ws none (some ((Zy n).length : Int)) = C := ⟨_, rfl⟩
      have lC : C.length = (Zy n).length := by
        rw [← hC]
        unfold Zss
        rw [HT.sIx_none, HT.sIx_nat, List.drop_zero, List.length_take]; omega
      have mC : ∀ v ∈ C, v ∈ ws := fun v hv => by
        rw [← hC] at hv
        exact List.mem_of_mem_drop (List.mem_of_mem_take hv)
      obtain ⟨d, ed, ld, qd⟩ := Zr0 hb (ws := C) (fun v hv => hW v (mC v hv)) (by omega) (it := Zf7 (fSl (Zh 3) oN (oI (Zm Zad (Zm Ze1 (Zh 1) (Zm gSb (Zh 1) (fC (.int 1)))) (fC (.int 2)))))) (caps := [2]) (δ := [some (.fz (Yc ns)), some (.fz (.int n)), some (.fz (.int b)), some (.fz (Yc ws)), some (.fz (.int y)), none, none]) (Zch (Zwc (r := ws) Zc Z5m (Z1u (EvV.cast (Za9 (Zfu Zc (Zif Zc Yt) (by omega)) Yt) (congrArg PyData.int hp))) hC)) rfl
      exact Zgu (Zio (Zej (Znb (Jf Zc Yt (by decide)) Yt (decide_eq_true c))) (Zg8 ed ⟨d, rfl, by omega, fun q hq => (qd q hq).up (by decide)⟩))
    refine Za6 (Jy (Zej (Znb (Jf Zc Yt (by decide)) Yt (decide_eq_false c))) rfl) ?_
    refine Za6 (Zjd (Z0y (Zd Zc (Zd (Zv (Zd Zc (Zd Zc (Zd Yt (Zd Zc Zq)))) eL) Zq)) eS)) ?_
    have lS := Zoq n L
    have qS := Zue (n := n) lL hL
    by_cases c1 : 1 < (n : Int)
    · have l1 : 0 < (Zy n).length := List.length_pos_of_mem (Zcm (n := n) (i := 0) (j := 1) (by decide) (by omega))
      have a0 := Za8 (i := y.fdiv 2) (j := ((Zy n).length : Int)) (by omega)
      have a1 := Zbz (i := y.fdiv 2) (j := ((Zy n).length : Int)) (by omega)
      obtain ⟨a, ha⟩ : ∃ a : Nat, (y.fdiv 2).fmod ((Zy n).length : Int) = a := ⟨((y.fdiv 2).fmod ((Zy n).length : Int)).toNat, by omega⟩
      have al : a < (smL n L).length := by omega
      obtain ⟨v, ev⟩ : ∃ v, v = ws.getD 31 0 := ⟨_, rfl⟩
      have hv : v ∈ ws := by
        rw [ev, List.getD_eq_getElem?_getD, List.getElem?_eq_getElem (by omega)]
        exact List.getElem_mem _
      obtain ⟨w, ew, qw⟩ := Zes (hW v hv).1 (hW v hv).2 hb
      have q1 := qS _ (List.getElem_mem al)
      have own : ∀ {δ : Zn}, δ[5]? = some (some (Zjy (smL n L))) → EvV (Zrk 5) δ (.list ((smL n L).map frD)) := fun h => Zyn h (Ze4 _)
      have es : Zxo 5 (Zrd (Z7 Yz (Ze (We gIx (Zrk 5) (Zh 6)) (Ze (Z7 Z4 (Ze (We gIx (Zh 3) (fC (.int 31))) (Ze (Zh 2) Z5))) Z5)))) (Zh 6) [some (.fz (Yc ns)), some (.fz (.int n)), some (.fz (.int b)), some (.fz (Yc ws)), some (.fz (.int y)), some (Zjy (smL n L)), some (.fz (.int a))] = .nx [some (.fz (Yc ns)), some (.fz (.int n)), some (.fz (.int b)), some (.fz (Yc ws)), some (.fz (.int y)), some (Zjy ((smL n L).set a ((smL n L)[a] + w))), some (.fz (.int a))] := by
        have val : EvV (Z7 Yz (Ze (We gIx (Zrk 5) (Zh 6)) (Ze (Z7 Z4 (Ze (We gIx (Zh 3) (fC (.int 31))) (Ze (Zh 2) Z5))) Z5))) [some (.fz (Yc ns)), some (.fz (.int n)), some (.fz (.int b)), some (.fz (Yc ws)), some (.fz (.int y)), some (Zjy (smL n L)), some (.fz (.int a))] (frD ((smL n L)[a] + w)) := Zv (Zd (Zt8 (own rfl) Zc (by rw [Zmn, List.getElem?_map, List.getElem?_eq_getElem al]; rfl)) (Zd (Zv (Zd (EvV.cast (Ze7 Zc Yt (by decide) (by rw [lW]; decide)) (y := .int v) (by rw [ev]; rfl)) (Zd Zc Zq)) ew) Zq)) (Zhc (q1.qb hb (by decide)) (qw.qb hb (by decide)) (by decide))
        obtain ⟨o, e1, e2⟩ := val
        refine (Z01 (n := a) (d := frD ((smL n L)[a] + w)) ⟨_, by rw [Zr5, e1, Option.bind_some, e2]; exact if_pos rfl, OT.data_fz _⟩ rfl Zc (by rw [List.length_map]; exact Zqw al)).trans ?_
        unfold Zjy
        rw [List.map_set]; rfl
      refine Za6 (Zdd (Zej (Zsr Zc Yt (decide_eq_true c1))) (Yx (Z9 (EvV.cast (Jf (Za9 Zc Yt) (EvV.cast (Zpk (own rfl)) (y := .int ((Zy n).length : Int)) (by rw [List.length_map, lS])) (by omega)) (congrArg PyData.int ha))) es)) (Z10 rfl ⟨_, Ze4 _, by rw [List.length_set, lS], fun q hq => ?_⟩)
      rcases List.mem_or_eq_of_mem_set hq with z | z
      · exact (qS q z).up (by decide)
      · rw [z]; exact (q1.add (qw.up (by decide))).up (by decide)
    · exact Za6 (Jy (Zej (Zsr Zc Yt (decide_eq_false c1))) rfl) (Z10 rfl ⟨_, Ze4 _, lS, fun q hq => (qS q hq).up (by decide)⟩)
  obtain ⟨v, h, d, rfl, hd⟩ := key
  exact ⟨d, h, hd⟩
theorem Zwn (p : List Int) : Sh 1 (Yc p) := lay_ints p
theorem Zie {ds : List PyData} (h : ∀ d ∈ ds, Wf d = true) : Wf (.list ds) = true := by
  rw [Wf]
  induction ds with
  | nil => rfl
  | cons d ds ih => rw [Zan, h d (.head _), ih fun e he => h e (.tail _ he)]; rfl
theorem Zn2 (p : List Int) : Wf (Yc p) = true := Zie fun d m => by
  obtain ⟨x, _, rfl⟩ := List.mem_map.mp m
  rfl
theorem Z4c (p : List Int × Rat) : Sh 2 (ctD p) := Zo9 fun d m => by
  rcases List.mem_cons.mp m with rfl | m
  · exact Zwn _
  · rw [List.mem_singleton.mp m]; exact Zqh [p.2.num, (p.2.den : Int)]
theorem Zsk (p : List Int × Rat) : Wf (ctD p) = true := by
  show (Wf (Yc p.1) && (Wf (frD p.2) && true)) = true
  rw [Zn2]; rfl
theorem Zzk (L : List (List Int × Rat)) : Sh 3 (Zfo L) := Zi9 fun d m => by
  obtain ⟨p, _, rfl⟩ := List.mem_map.mp m
  exact Z4c p
theorem Zp7 (L : List (List Int × Rat)) : Wf (Zfo L) = true := Zie fun d m => by
  obtain ⟨p, _, rfl⟩ := List.mem_map.mp m
  exact Zsk p
theorem Zv5 (n : Nat) (T : Nat → Nat → Rat) : Zdy n (frG T) = tbD ((List.range n).map fun i => (List.range n).map fun j => T i j) := by
  unfold tbD Zdy
  rw [List.map_map]
  refine congrArg PyData.list (List.map_congr_left fun i _ => ?_)
  show _ = Zcc _
  unfold Zcc
  rw [List.map_map]; rfl
theorem Z02 (q r : Rat) : gEq (frD q) (frD r) = some (.bool (decide (q = r))) := by
  have s : ∀ q, SeqAt.shaped (frD q) = true := fun q => ((Zv4 q).shp).ok
  unfold gEq
  rw [if_pos (by rw [s, s]; rfl), Zt4]
theorem Zo0 {L : List (List Int × Rat)} {δ : Zn} (hl : L.length < 64) (h4 : δ[5]? = some (some (.fz (Zfo L)))) : EvV (Ja 2 [] (Zf7 (Zh 5)) (gTp 2 (gCn (gNm 0) (gCn (gNm 1) gNl))) Ze6 (Zfl (Ze (fBl Zj1 (Ze (Zh 0) Z5)) (Ze (Zh 1) Z5)))) δ (Zfo L) := by
  have hi : EvI (Zf7 (Zh 5)) δ (L.map ctD) := Zch (Zc h4)
  obtain ⟨ts, δ', e1, z0, z1, rfl, e2⟩ := Zsv (t := Ze6) (e := Zfl (Ze (fBl Zj1 (Ze (Zh 0) Z5)) (Ze (Zh 1) Z5))) (g := gTp 2 (gCn (gNm 0) (gCn (gNm 1) gNl))) (δ := [none, none])
    (fun k acc δ => ∃ z0 z1, δ = [z0, z1] ∧ acc = (L.take k).map ctD) (L.map ctD) 0 [] ⟨none, none, rfl, rfl⟩ (fun k d acc δ hd q => by
      obtain ⟨z0, z1, rfl, rfl⟩ := q
      rw [Nat.zero_add] at *
      rw [List.getElem?_map] at hd
      cases e : L[k]? with
      | none => rw [e] at hd; cases hd
      | some p =>
        rw [e] at hd
        cases hd
        have et : L.take (k + 1) = L.take k ++ [p] := by rw [List.take_succ, e]; rfl
        refine ⟨_, rfl, Zgv rfl ⟨fun _ => Zi1 (d := ctD p) (Zei (Zd (Zvr (Zd Zc Zq) (Zp4 (p.1.map PyData.int)) (by rw [OT.data_nd, OT.map_fz]; rfl)) (Zd Zc Zq)) (show 2 ≤ 1000 by decide)) ⟨_, _, rfl, ?_⟩, fun z => nomatch z⟩⟩
        rw [et, List.map_append]; rfl)
  rw [Nat.zero_add, List.length_map, List.take_length, List.nil_append] at e2
  refine ⟨.nd ts, ?_, by rw [OT.data_nd, e2]; rfl⟩
  unfold EvI at hi
  unfold Ja
  rw [hi]
  show (if (L.map ctD).length ≤ sizeLine then _ else none) = _
  rw [if_pos (by rw [List.length_map, sizeLine_eq]; omega)]
  show (compLoop _ _ _ _ [none, none]).bind _ = _
  rw [e1]; rfl
theorem Zsu (ns : List Int) (hl : ns.length ≤ 63) : Zfs [.list (ns.map PyData.int)] = .ok (.fz (.bool true)) := by
  show Zfs [Yc ns] = _
  obtain ⟨c0, e0⟩ := Zd7 ns (k := 0) (by decide)
  obtain ⟨c2, e2⟩ := Zd7 ns (k := 2) (by decide)
  have r0 := Za8 (i := c0) (j := 6) (by decide)
  have r1 := Zbz (i := c0) (j := 6) (by decide)
  obtain ⟨n, hn⟩ : ∃ n : Nat, 1 + c0.fmod 6 = (n : Int) := ⟨(1 + c0.fmod 6).toNat, by omega⟩
  have n0 : 1 ≤ n := by omega
  have n1 : n ≤ 6 := by omega
  obtain ⟨vs, eV, lV, hV⟩ := Zj4 c2 33 (by decide) (top := 1000000000000) (by decide) (by decide)
  obtain ⟨b, eB, b0, b1⟩ := Zo5 (vs.getD 0 0)
  have hb : Bot b := ⟨b0, b1⟩
  obtain ⟨d, eD, lD, qD⟩ := Zki ns n0 n1 hb
  obtain ⟨C, hC⟩ : ∃ C, Zss vs (some 2) none = C := ⟨_, rfl⟩
  have mC : ∀ v ∈ C, v ∈ vs := fun v hv => by
    rw [← hC] at hv
    exact List.mem_of_mem_drop (List.mem_of_mem_take hv)
  obtain ⟨L, eL, lL, hL⟩ := Zms n0 n1 (vs := C) (fun v hv => hV v (mC v hv)) ((vs.getD 1 0).fmod 3) hb
  have eS := Zoz (n := n) (by omega) hb lL hL
  have eS' : Told Wd [.int n, Zfo L] (Zcc (smL n L)) := .of eS (Ze4 _)
  obtain ⟨T, eT, hT⟩ := Zoj n0 n1 lD
  obtain ⟨T2, eT2, hT2⟩ := Zoj n0 n1 (Zoq n L)
  have qS := Zue (n := n) lL hL
  obtain ⟨x, eF, hx⟩ := Zmj (n := n) (by omega) hb (T := T) (by rw [hT]; exact qD) lL hL
  obtain ⟨y, eY, hy⟩ := Zkt hb qD (fun q hq => (qS q hq).up (by decide))
  obtain ⟨z, eZ, hz⟩ := Zmj (n := n) (by omega) hb (T := T2) (by rw [hT2]; exact fun q hq => (qS q hq).up (by decide)) lL hL
  rw [hT] at hx
  have exy : x = y := hx.uniq hy
  subst exy
  have ez : z = 0 := by
    rcases hz.2.1 with w | w
    · rw [hT2] at w
      obtain ⟨v, hv, rfl⟩ := List.mem_map.mp w
      obtain ⟨p, hp, rfl⟩ := List.mem_map.mp hv
      have : p.1 = p.2 := by
        obtain ⟨k, hk⟩ := List.getElem?_of_mem hp
        rw [List.getElem?_zip_eq_some] at hk
        exact Option.some.inj (hk.1.symm.trans hk.2)
      rw [this, Rat.sub_self]; rfl
    · exact w
  rw [ez] at eZ
  have gT : gNe (Zdy n (frG T)) (Zdy n (frG T)) = some (.bool false) := by rw [Zv5]; exact Zmy (Z2l _) (Zs0 _) (by decide)
  have gL : gNe (Zfo L) (Zfo L) = some (.bool false) := Zmy (Zzk L) (Zp7 L) (by decide)
  have gX : gNe (frD x) (frD x) = some (.bool false) := by rw [Zz2, decide_eq_true rfl]; rfl
  refine Told.ok <| Yv rfl <| Y9 (Z9 (EvV.cast (Zc4 Yt (Jf (Ziq rfl e0) Yt (by decide))) (congrArg PyData.int hn))) <|
    Y9 (Z9 (Zv (Zd (Ziq rfl e2) (Zd Yt (Zd (Zz Yt Yt Z3v) Zq))) eV)) <|
    Y9 (Z9 (Zv (Zd (Ze7 Zc Yt (by decide) (by rw [lV]; decide)) Zq) eB)) <|
    Y9 (Z9 (Zv (Zd Zc (Zd Zc (Zd Zc Zq))) eD)) <|
    Y9 (Z9 (Zv (Zd Zc (Zd (Zwc (r := vs) Zc (Z1u Yt) Z5m hC) (Zd (Jf (Ze7 Zc Yt (by decide) (by rw [lV]; decide)) Yt (by decide)) (Zd Zc Zq)))) eL)) <|
    Y9 (Z9 (Zv (Zd Zc (Zd Zc Zq)) eT)) <|
    Y9 (Z9 (d := Zdy n (frG T)) (EvV.cast (Zcu (cs := []) (List.range n) (fun i => .list ((List.range n).map fun j => frG T i j)) (fun i => .list ((List.range n).map fun j => frG T i j)) (Zch (Zc (d := Zdy n (frG T)))) (by rw [List.length_range]; omega) rfl fun i _ => Zvr (Zd Zc Zq) (Zp4 _) (by rw [OT.data_nd, OT.map_fz])) rfl)) <|
    Y9 (Z9 (Zo0 lL rfl)) <|
    Y9 (Z6s (Zd Zc (Zd Zc Zq)) eF fun o ho => by rw [Zqy, ho]) <|
    Y9 (Jy (Zto (Zqg (p := true) (Znk (Zv (Zd Zc Zq) (Zla x)))) (Zej (Zz Zc (Zv (Zd Zc (Zd (Zv (Zd Zc (Zd Zc Zq)) eS') Zq)) eY) gX))) rfl) <|
    Y9 (Jy (Zto (Zej (Zz Zc Zc gT)) (Zto (Zej (Zz Zc Zc gL)) (Zej (Zz (Zv (Zd Zc (Zd Zc Zq)) eF) Zc gX)))) rfl) <|
    Jz (Zz (Zv (Zd (Zv (Zd Zc (Zd (Zv (Zd Zc (Zd Zc Zq)) eS') Zq)) eT2) (Zd Zc Zq)) eZ) (EvV.cast tw q0.symm) (by rw [Z02, decide_eq_true rfl]))
end My
namespace My
open PySem L2 PySem.Spec
theorem Zqs {P : List Value → Prop} (h : ∀ a0, P [a0]) : ∀ us : List Value, us.length = 1 → P us := fun us hl => by
  rcases us with _ | ⟨a0, us⟩
  · exact absurd hl (by simp)
  rcases us with _ | ⟨b, us⟩
  · exact h a0
  · exact absurd hl (by simp)
theorem Zib {P : List Value → Prop} (h : ∀ a0 a1, P [a0, a1]) : ∀ us : List Value, us.length = 2 → P us := fun us hl => by
  rcases us with _ | ⟨a0, us⟩
  · exact absurd hl (by simp)
  rcases us with _ | ⟨a1, us⟩
  · exact absurd hl (by simp)
  rcases us with _ | ⟨b, us⟩
  · exact h a0 a1
  · exact absurd hl (by simp)
theorem Z2g {P : List Value → Prop} (h : ∀ a0 a1 a2, P [a0, a1, a2]) : ∀ us : List Value, us.length = 3 → P us := fun us hl => by
  rcases us with _ | ⟨a0, us⟩
  · exact absurd hl (by simp)
  rcases us with _ | ⟨a1, us⟩
  · exact absurd hl (by simp)
  rcases us with _ | ⟨a2, us⟩
  · exact absurd hl (by simp)
  rcases us with _ | ⟨b, us⟩
  · exact h a0 a1 a2
  · exact absurd hl (by simp)
theorem Z64 {P : List Value → Prop} (h : ∀ a0 a1 a2 a3, P [a0, a1, a2, a3]) : ∀ us : List Value, us.length = 4 → P us := fun us hl => by
  rcases us with _ | ⟨a0, us⟩
  · exact absurd hl (by simp)
  rcases us with _ | ⟨a1, us⟩
  · exact absurd hl (by simp)
  rcases us with _ | ⟨a2, us⟩
  · exact absurd hl (by simp)
  rcases us with _ | ⟨a3, us⟩
  · exact absurd hl (by simp)
  rcases us with _ | ⟨b, us⟩
  · exact h a0 a1 a2 a3
  · exact absurd hl (by simp)
noncomputable def top (i : Nat) : Stmt := PySem.Challenge.pw_farcuts_k71_faults_of_cuts.main.body.getD i (.Pass ⟨0, 0, 0, 0⟩)
noncomputable abbrev J8 : Stmt := top 37
noncomputable abbrev Jp : Stmt := top 24
noncomputable abbrev J6 : Stmt := top 25
noncomputable abbrev J9 : Stmt := top 27
noncomputable abbrev W7 : Stmt := top 28
noncomputable abbrev W8 : Stmt := top 38
noncomputable abbrev Zbn : Stmt := top 35
noncomputable abbrev Za3 : Stmt := top 41
noncomputable abbrev Js : Stmt := top 36
noncomputable abbrev Zbp : Stmt := top 29
noncomputable abbrev Zaw : Stmt := top 34
noncomputable abbrev Zbk : Stmt := top 40
noncomputable abbrev Wt : Stmt := top 42
noncomputable abbrev Zaz : Stmt := top 32
noncomputable abbrev Zaq : Stmt := top 30
noncomputable abbrev Zap : Stmt := top 43
noncomputable abbrev Zay : Stmt := top 26
noncomputable abbrev Wa : Stmt := top 33
noncomputable abbrev Zbo : Stmt := top 39
noncomputable abbrev Zbh : Stmt := top 10
noncomputable abbrev W6 : Stmt := top 12
noncomputable abbrev Y6 : Stmt := top 5
noncomputable abbrev Zbi : Stmt := top 6
noncomputable abbrev Zbq : Stmt := top 4
noncomputable abbrev Zbr : Stmt := top 7
noncomputable abbrev Wq : Stmt := top 14
noncomputable abbrev Zar : Stmt := top 15
noncomputable abbrev Jv : Stmt := top 16
noncomputable abbrev Zf5 : Stmt := top 8
noncomputable abbrev Zbm : Stmt := top 18
noncomputable abbrev Za2 : Stmt := top 19
noncomputable abbrev Wg : Stmt := top 11
noncomputable abbrev Zbl : Stmt := top 20
noncomputable abbrev Zbj : Stmt := top 22
noncomputable abbrev Zgk : Stmt := top 44
set_option genInjectivity false in
set_option genSizeOfSpec false in
structure Txt (K : PySem.W.Frag) (mg : Str → Option Value) (f : Nat → Addr) (fd : Nat → FuncData) (cls : Nat → Addr) : Prop where
  F_law_bottom : Fun K "_law_bottom" "_law_bottom" J8 (f 0) (fd 0)
  b_law_bottom : Binds K (fd 0) ["number"] []
  m_law_bottom : mg "_law_bottom" = some (.ref (f 0))
  F_law_cell_at : Fun K "_law_cell_at" "_law_cell_at" Jp (f 1) (fd 1)
  b_law_cell_at : Binds K (fd 1) ["script", "k"] []
  m_law_cell_at : mg "_law_cell_at" = some (.ref (f 1))
  F_law_digits : Fun K "_law_digits" "_law_digits" J6 (f 2) (fd 2)
  b_law_digits : Binds K (fd 2) ["cell", "many", "top"] []
  m_law_digits : mg "_law_digits" = some (.ref (f 2))
  F_law_common : Fun K "_law_common" "_law_common" J9 (f 3) (fd 3)
  b_law_common : Binds K (fd 3) ["one", "other"] []
  m_law_common : mg "_law_common" = some (.ref (f 3))
  F_law_fraction : Fun K "_law_fraction" "_law_fraction" W7 (f 4) (fd 4)
  b_law_fraction : Binds K (fd 4) ["top", "bottom"] []
  m_law_fraction : mg "_law_fraction" = some (.ref (f 4))
  F_law_distance : Fun K "_law_distance" "_law_distance" W8 (f 5) (fd 5)
  b_law_distance : Binds K (fd 5) ["number", "by"] []
  m_law_distance : mg "_law_distance" = some (.ref (f 5))
  F_law_cuts : Fun K "_law_cuts" "_law_cuts" Zbn (f 6) (fd 6)
  b_law_cuts : Binds K (fd 6) ["n"] []
  m_law_cuts : mg "_law_cuts" = some (.ref (f 6))
  F_law_drawn : Fun K "_law_drawn" "_law_drawn" Za3 (f 7) (fd 7)
  b_law_drawn : Binds K (fd 7) ["n", "numbers", "thin", "by"] []
  m_law_drawn : mg "_law_drawn" = some (.ref (f 7))
  F_law_numbers : Fun K "_law_numbers" "_law_numbers" Js (f 8) (fd 8)
  b_law_numbers : Binds K (fd 8) ["script", "at", "many"] []
  m_law_numbers : mg "_law_numbers" = some (.ref (f 8))
  F_law_plus : Fun K "_law_plus" "_law_plus" Zbp (f 9) (fd 9)
  b_law_plus : Binds K (fd 9) ["q", "r"] []
  m_law_plus : mg "_law_plus" = some (.ref (f 9))
  F_law_pairs : Fun K "_law_pairs" "_law_pairs" Zaw (f 10) (fd 10)
  b_law_pairs : Binds K (fd 10) ["n"] []
  m_law_pairs : mg "_law_pairs" = some (.ref (f 10))
  F_law_sums : Fun K "_law_sums" "_law_sums" Zbk (f 11) (fd 11)
  b_law_sums : Binds K (fd 11) ["n", "weighted"] []
  m_law_sums : mg "_law_sums" = some (.ref (f 11))
  F_law_distances : Fun K "_law_distances" "_law_distances" Wt (f 12) (fd 12)
  b_law_distances : Binds K (fd 12) ["script", "n", "by"] []
  m_law_distances : mg "_law_distances" = some (.ref (f 12))
  F_law_below : Fun K "_law_below" "_law_below" Zaz (f 13) (fd 13)
  b_law_below : Binds K (fd 13) ["q", "r"] []
  m_law_below : mg "_law_below" = some (.ref (f 13))
  F_law_minus : Fun K "_law_minus" "_law_minus" Zaq (f 14) (fd 14)
  b_law_minus : Binds K (fd 14) ["q", "r"] []
  m_law_minus : mg "_law_minus" = some (.ref (f 14))
  F_law_fault : Fun K "_law_fault" "_law_fault" Zap (f 15) (fd 15)
  b_law_fault : Binds K (fd 15) ["one", "other"] []
  m_law_fault : mg "_law_fault" = some (.ref (f 15))
  F_law_whole : Fun K "_law_whole" "_law_whole" Zay (f 16) (fd 16)
  b_law_whole : Binds K (fd 16) ["found"] []
  m_law_whole : mg "_law_whole" = some (.ref (f 16))
  F_law_is_fraction : Fun K "_law_is_fraction" "_law_is_fraction" Wa (f 17) (fd 17)
  b_law_is_fraction : Binds K (fd 17) ["found"] []
  m_law_is_fraction : mg "_law_is_fraction" = some (.ref (f 17))
  F_law_rows : Fun K "_law_rows" "_law_rows" Zbo (f 18) (fd 18)
  b_law_rows : Binds K (fd 18) ["n", "distances"] []
  m_law_rows : mg "_law_rows" = some (.ref (f 18))
  F_pairs_of : Fun K "pairs_of" "pairs_of" Zbh (f 19) (fd 19)
  b_pairs_of : Binds K (fd 19) ["n"] []
  m_pairs_of : mg "pairs_of" = some (.ref (f 19))
  F_distances_of : Fun K "distances_of" "distances_of" W6 (f 20) (fd 20)
  b_distances_of : Binds K (fd 20) ["table"] []
  m_distances_of : mg "distances_of" = some (.ref (f 20))
  F_greatest_divisor : Fun K "greatest_divisor" "greatest_divisor" Y6 (f 21) (fd 21)
  b_greatest_divisor : Binds K (fd 21) ["a", "b"] []
  m_greatest_divisor : mg "greatest_divisor" = some (.ref (f 21))
  F_in_least : Fun K "in_least" "in_least" Zbi (f 22) (fd 22)
  b_in_least : Binds K (fd 22) ["top", "bottom"] []
  m_in_least : mg "in_least" = some (.ref (f 22))
  F_is_whole : Fun K "is_whole" "is_whole" Zbq (f 23) (fd 23)
  b_is_whole : Binds K (fd 23) ["thing"] []
  m_is_whole : mg "is_whole" = some (.ref (f 23))
  F_fraction : Fun K "fraction" "fraction" Zbr (f 24) (fd 24)
  b_fraction : Binds K (fd 24) ["top", "bottom"] []
  m_fraction : mg "fraction" = some (.ref (f 24))
  F_shared_bottom : Fun K "shared_bottom" "shared_bottom" Wq (f 25) (fd 25)
  b_shared_bottom : Binds K (fd 25) ["numbers"] []
  m_shared_bottom : mg "shared_bottom" = some (.ref (f 25))
  F_tops_over : Fun K "tops_over" "tops_over" Zar (f 26) (fd 26)
  b_tops_over : Binds K (fd 26) ["bottom", "numbers"] []
  m_tops_over : mg "tops_over" = some (.ref (f 26))
  F_greatest_of : Fun K "greatest_of" "greatest_of" Jv (f 27) (fd 27)
  b_greatest_of : Binds K (fd 27) ["numbers"] []
  m_greatest_of : mg "greatest_of" = some (.ref (f 27))
  F_minus : Fun K "minus" "minus" Zf5 (f 28) (fd 28)
  b_minus : Binds K (fd 28) ["q", "r"] []
  m_minus : mg "minus" = some (.ref (f 28))
  F_sides_of : Fun K "sides_of" "sides_of" Zbm (f 29) (fd 29)
  b_sides_of : Binds K (fd 29) ["n", "cut"] []
  m_sides_of : mg "sides_of" = some (.ref (f 29))
  F_all_sides : Fun K "all_sides" "all_sides" Za2 (f 30) (fd 30)
  b_all_sides : Binds K (fd 30) ["n", "cuts"] []
  m_all_sides : mg "all_sides" = some (.ref (f 30))
  F_table_of_pairs : Fun K "table_of_pairs" "table_of_pairs" Wg (f 31) (fd 31)
  b_table_of_pairs : Binds K (fd 31) ["n", "distances"] []
  m_table_of_pairs : mg "table_of_pairs" = some (.ref (f 31))
  F_table_of : Fun K "table_of" "table_of" Zbl (f 32) (fd 32)
  b_table_of : Binds K (fd 32) ["n", "cuts"] []
  m_table_of : mg "table_of" = some (.ref (f 32))
  F_fault_of : Fun K "fault_of" "fault_of" Zbj (f 33) (fd 33)
  b_fault_of : Binds K (fd 33) ["table", "cuts"] []
  m_fault_of : mg "fault_of" = some (.ref (f 33))
  F_law : Fun K "law" "law" Zgk (f 34) (fd 34)
  b_law : Binds K (fd 34) ["script"] []
  m_law : mg "law" = some (.ref (f 34))
  z_abs : mg "abs" = none
  z_bool : mg "bool" = none
  z_int : mg "int" = none
  z_isinstance : mg "isinstance" = none
  z_len : mg "len" = none
  z_list : mg "list" = none
  z_max : mg "max" = none
  z_range : mg "range" = none
  z_sorted : mg "sorted" = none
  z_sum : mg "sum" = none
  z_tuple : mg "tuple" = none
  z_zip : mg "zip" = none
  mC_NoNumber : mg "NoNumber" = some (.ref (cls 0))
  ca_NoNumber : ClsAt K "NoNumber" (cls 0)
  r_NoNumber : Zw9 K (cls 0)
  x_NoNumber_ga : PySem.W.findIn K (.ref (cls 0)) "__getattribute__" = some (some (.builtin "BaseException.__getattribute__"))
  x_NoNumber_gt : PySem.W.findIn K (.ref (cls 0)) "__getattr__" = some none
  x_NoNumber_cl : PySem.W.findIn K (.ref (cls 0)) "__class__" = some (some (.builtin "object.__class__"))
  x_NoNumber_isB : PySem.W.subIn K (.ref (cls 0)) (.type "BaseException") = some true
  x_NoNumber_isO : PySem.W.subIn K (.ref (cls 0)) (.type "object") = some true
  x_NoNumber_isC : PySem.W.isClsIn K (cls 0) = true
  x_NoNumber_k1 : PySem.W.kitOne K (.ref (cls 0)) (.type "int") = some false
  x_NoNumber_k2 : PySem.W.kitOne K (.ref (cls 0)) (.type "bool") = some false
  x_NoNumber_k3 : PySem.W.kitOne K (.ref (cls 0)) (.type "str") = some false
  x_NoNumber_k4 : PySem.W.kitOne K (.ref (cls 0)) (.type "list") = some false
  x_NoNumber_k5 : PySem.W.kitOne K (.ref (cls 0)) (.type "tuple") = some false
section
variable {P : Program} {w : World} {K : PySem.W.Frag} {mg : Str → Option Value} {base : Heap}
theorem Zis : Z6 ["number"] ["number"] (Zf J8) := ⟨rfl, rfl, rfl, by decide +kernel, rfl, by decide +kernel, by decide +kernel⟩
theorem Ziv {f : Nat → Addr} {fd : Nat → FuncData} {cls : Nat → Addr} (T : Txt K mg f fd cls) : FnOk P w K mg base CX0 1 (f 0) (fd 0) ["number"] (spD K (sD Zav)) := by
  refine Y0 T.F_law_bottom Zis (S := Zct) rfl rfl (fun cdv A outer s H E hr => ?_)
  have hu := hr.units
  exact (Zt (Yy (Y4 (Ym (Z3 Za0 (Zat (Zw rfl) Yr (Zdi (Zg7 (Za (Yd Zg) (Za (Yd Zg) (Za (Yd Zg) (Za (Yd Zg) (Za (Zo Zg1 (Yb Zd5 Jk (Yd Zg) (Zo Zc0 (Yb Wv Zaa (Zo Zb4 (Yb Wx Zbt (Zb (mv 0)) (Yd Zg))) (Yd Zg))))) (Za (Zo Zg1 (Yb Zd5 Jk (Yd Zg) (Zo Zc0 (Yb Wv Zaa (Zo Zb4 (Yb Wx Zbt (Zb (mv 0)) (Yd Zg))) (Zo Zlr (Yb Zeo Zgz (Yd Zg) (Yd Zg))))))) (Zj Zi))))))))) (Zo Zc0 (Yb Wv Zaa (Zb (mv 0)) (Yd Zg))) (hs := fun _ _ => rfl)))))))
theorem Zhw : Z6 ["script", "k"] ["script", "k"] (Zf Jp) := ⟨rfl, rfl, rfl, by decide +kernel, rfl, by decide +kernel, by decide +kernel⟩
theorem Zcl {f : Nat → Addr} {fd : Nat → FuncData} {cls : Nat → Addr} (T : Txt K mg f fd cls) : FnOk P w K mg base CX0 1 (f 1) (fd 1) ["script", "k"] (spD K (sD Yi)) := by
  refine Y0 T.F_law_cell_at Zhw (S := Zcf) rfl rfl (fun cdv A outer s H E hr => ?_)
  have hu := hr.units
  exact (Zu (Zk (Zdp (Zd4 (Jb Zxq (Je Znr Zdw (Zb (mv 1)) (Zbw Zli (Zf4 Zg3 (Zb2 rfl) (by rfl) T.z_len L2.B.boot_len (Za (Zb (mv 0)) (Zj Zi)))) (hm := (Wo _)))) (Zt (Yy (Y4 (Ym (Z3 Za0 (Zat (Zw rfl) Yr (Zb (mv 0)) (Zb (mv 1)) (hs := fun _ _ => rfl))))))) (Jh Ji)))
      (Zt (Yy (Y4 (Yd Zg))))))
theorem Y8 : Z6 ["cell", "many", "top", "found", "rest", "k", "stir"] ["cell", "many", "top"] (Zf J6) := ⟨rfl, rfl, rfl, by decide +kernel, rfl, by decide +kernel, by decide +kernel⟩
theorem Zfc {f : Nat → Addr} {fd : Nat → FuncData} {cls : Nat → Addr} (T : Txt K mg f fd cls) : FnOk P w K mg base CX0 1 (f 2) (fd 2) ["cell", "many", "top"] (spD K (sD Wr)) := by
  refine Y0 T.F_law_digits Y8 (S := Zcn) rfl rfl (fun cdv A outer s H E hr => ?_)
  have hu := hr.units
  exact (Zu (Zk (Zev (Zeq (i := 3) Y8.nd rfl (Or.inl rfl) (Zdi (Zg7 (Zj Zi)))))
      (Zu (Zk (Yk (Yh (i := 4) Y8.nd rfl (Or.inl rfl) (Zb (mv 0))))
      (Zu (Zk (Zck (Zcg PassesOwn.never rfl (Zle (Zb3 (by rfl) T.z_range (Za (Zb (mv 1)) (Zj Zi)))) (Z2 (Z1 (i := 5) Y8.nd))
      (Zu (Zk (Yk (Yh (i := 6) Y8.nd rfl (Or.inl rfl) (Zo Zc0 (Yb Wv Zaa (Zo Zcy (Yb Wy Zab (Zo Zg1 (Yb Zd5 Jk (Zo Zg1 (Yb Zd5 Jk (Zb (mv 0)) (Zo Zcy (Yb Wy Zab (Yd Zg) (Zb (mv 5)))))) (Yd Zg))) (Yd Zg))) (Yd Zg)))))
      (Zu (Zk (Yk (Yh (i := 6) Y8.nd rfl (Or.inl rfl) (Zo Zc0 (Yb Wv Zaa (Zo Zcy (Yb Wy Zab (Zb (mv 6)) (Zb (mv 6)))) (Yd Zg)))))
      (Zu (Zk (Yk (Yh (i := 6) Y8.nd rfl (Or.inl rfl) (Zo Zb4 (Yb Wx Zbt (Zo Zc0 (Yb Wv Zaa (Zo Zcy (Yb Wy Zab (Zo Zg1 (Yb Zd5 Jk (Zb (mv 6)) (Zo Zcy (Yb Wy Zab (Yd Zg) (Zo Zg1 (Yb Zd5 Jk (Zb (mv 5)) (Yd Zg))))))) (Yd Zg))) (Yd Zg))) (Yd Zg)))))
      (Zu (Zk (Zdp (Zd4 (Jb Z54 (Je Zze Zdw (Zb (mv 0)) (Zo Zlr (Yb Zeo Zgz (Yd Zg) (Yd Zg))) (hm := (Wo _)))) (Zt (Yk (Yh (i := 6) Y8.nd rfl (Or.inl rfl) (Zb (mv 4))))) (Jh Ji)))
      (Zu (Zk (Zcp (Zcs 3 (Zo Zc0 (Yb Wv Zaa (Zb (mv 6)) (Zb (mv 2))))))
      (Zt (Yk (Yh (i := 4) Y8.nd rfl (Or.inl rfl) (Zo Zb4 (Yb Wx Zbt (Zb (mv 4)) (Zb (mv 2)))))))))))))))))))
      (Zt (Zdg (Zdh 3)))))))))
theorem Zfk : Z6 ["one", "other"] ["one", "other"] (Zf J9) := ⟨rfl, rfl, rfl, by decide +kernel, rfl, by decide +kernel, by decide +kernel⟩
theorem Zfn {f : Nat → Addr} {fd : Nat → FuncData} {cls : Nat → Addr} (T : Txt K mg f fd cls) : FnOk P w K mg base CX0 1 (f 3) (fd 3) ["one", "other"] (spD K (sD Jr)) := by
  refine Y0 T.F_law_common Zfk (S := Zcq) rfl rfl (fun cdv A outer s H E hr => ?_)
  have hu := hr.units
  exact (Zu (Zk (Zl1 (Zly PassesOwn.never (Jb Zrn (Je (Zfb hu) Zi0 (Zb (mv 1)) (Yd Zg) (hm := (Wo _)))) (Zt (Z05 (Zx9 rfl Zfk.nd rfl rfl (by decide) rfl rfl (Za (Zb (mv 1)) (Za (Zo Zc0 (Yb Wv Zaa (Zb (mv 0)) (Zb (mv 1)))) (Zj Zi))))))))
      (Zt (Yy (Y4 (Zbw Zqt (Zf4 Zka Zfe (by rfl) T.z_abs L2.B.boot_abs (Za (Zb (mv 0)) (Zj Zi)))))))))
theorem Zd1 : Z6 ["top", "bottom", "by"] ["top", "bottom"] (Zf W7) := ⟨rfl, rfl, rfl, by decide +kernel, rfl, by decide +kernel, by decide +kernel⟩
theorem Zb8 {f : Nat → Addr} {fd : Nat → FuncData} {cls : Nat → Addr} (T : Txt K mg f fd cls) : FnOk P w K mg base CX0 2 (f 4) (fd 4) ["top", "bottom"] (spD K (sD Ys)) := by
  have G_law_common := Zfn (P := P) (w := w) (base := base) T
  refine Y0 T.F_law_fraction Zd1 (S := Zb7) rfl rfl (fun cdv A outer s H E hr => ?_)
  have hu := hr.units
  exact (Zu (Zk (Yk (Yh (i := 2) Zd1.nd rfl (Or.inl rfl) (Zr (Zx G_law_common (hr.mono (by decide)) (by rfl) T.m_law_common T.F_law_common.kp T.b_law_common Ye (Za (Zb (mv 0)) (Za (Zb (mv 1)) (Zj Zi)))))))
      (Zt (Yy (Y4 (Zbd (Zd9 (Za (Zo Zb4 (Yb Wx Zbt (Zb (mv 0)) (Zb (mv 2)))) (Za (Zo Zb4 (Yb Wx Zbt (Zb (mv 1)) (Zb (mv 2)))) (Zj Zi))))))))))
theorem Zb5 : Z6 ["number", "by", "way"] ["number", "by"] (Zf W8) := ⟨rfl, rfl, rfl, by decide +kernel, rfl, by decide +kernel, by decide +kernel⟩
theorem Zdr {f : Nat → Addr} {fd : Nat → FuncData} {cls : Nat → Addr} (T : Txt K mg f fd cls) : FnOk P w K mg base CX0 3 (f 5) (fd 5) ["number", "by"] (spD K (sD Z4)) := by
  have G_law_fraction := Zb8 (P := P) (w := w) (base := base) T
  refine Y0 T.F_law_distance Zb5 (S := Zbu) rfl rfl (fun cdv A outer s H E hr => ?_)
  have hu := hr.units
  exact (Zu (Zk (Yk (Yh (i := 2) Zb5.nd rfl (Or.inl rfl) (Zo Zc0 (Yb Wv Zaa (Zb (mv 0)) (Yd Zg)))))
      (Zu (Zk (Yk (Yh (i := 0) Zb5.nd rfl (Or.inl rfl) (Zo Zb4 (Yb Wx Zbt (Zb (mv 0)) (Yd Zg)))))
      (Zu (Zk (Zdp (Zd4 (Jb Zvi (Je (Zgy hu) Zlq (Zb (mv 2)) (Yd Zg) (hm := (Wo _)))) (Zt (Yy (Y4 (Zbd (Zd9 (Za (Yd Zg) (Za (Yd Zg) (Zj Zi)))))))) (Jh Ji)))
      (Zu (Zk (Zdp (Zd4 (Jb Zxq (Je Znr Zdw (Zb (mv 2)) (Yd Zg) (hm := (Wo _)))) (Zt (Yy (Y4 (Zbd (Zd9 (Za (Zo Zc0 (Yb Wv Zaa (Zb (mv 0)) (Yd Zg))) (Za (Yd Zg) (Zj Zi)))))))) (Jh Ji)))
      (Zu (Zk (Zdp (Zd4 (Jb Zxq (Je Znr Zdw (Zb (mv 2)) (Yd Zg) (hm := (Wo _)))) (Zt (Yy (Y4 (Zr (Zx G_law_fraction (hr.mono (by decide)) (by rfl) T.m_law_fraction T.F_law_fraction.kp T.b_law_fraction Ye (Za (Zo Zc0 (Yb Wv Zaa (Zb (mv 0)) (Yd Zg))) (Za (Zb (mv 1)) (Zj Zi)))))))) (Jh Ji)))
      (Zt (Yy (Y4 (Zr (Zx G_law_fraction (hr.mono (by decide)) (by rfl) T.m_law_fraction T.F_law_fraction.kp T.b_law_fraction Ye (Za (Zo Zc0 (Yb Wv Zaa (Zo Zlr (Yb Zeo Zgz (Zb (mv 0)) (Yd Zg))) (Zo Zlr (Yb Zeo Zgz (Yd Zg) (Yd Zg))))) (Za (Zb (mv 1)) (Zj Zi))))))))))))))))))
theorem Zcz : Z6 ["n", "found", "point"] ["n"] (Zf Zbn) := ⟨rfl, rfl, rfl, by decide +kernel, rfl, by decide +kernel, by decide +kernel⟩
theorem Zlh {f : Nat → Addr} {fd : Nat → FuncData} {cls : Nat → Addr} (T : Txt K mg f fd cls) : FnOk P w K mg base CX0 1 (f 6) (fd 6) ["n"] (spD K (sD Zb0)) := by
  refine Y0 T.F_law_cuts Zcz (S := Zdm) rfl rfl (fun cdv A outer s H E hr => ?_)
  have hu := hr.units
  exact (Zu (Zk (Yk (Yh (i := 1) Zcz.nd rfl (Or.inl rfl) (Zdi (Zg7 (Zj Zi)))))
      (Zu (Zk (Zck (Zcg PassesOwn.never rfl (Z35 (Zox (by rfl) T.z_range (Za (Zo Zna (Yb Zh7 Jk (Zb (mv 0)) (Yd Zg))) (Za (Yd Zg) (Za (Ztf (Z0z (Yd Zg))) (Zj Zi)))))) (Z2 (Z1 (i := 2) Zcz.nd))
      (Zt (Yk (Yh (i := 1) Zcz.nd rfl (Or.inl rfl) (Ym (Z3 Zre (Z1z (Zi5 rfl) Zl4 (Ym (Z3 Zre (Z1z (Zi5 rfl) Zl4 (Zdi (Zg7 (Za (Zdi (Zg7 (Za (Zb (mv 2)) (Zj Zi)))) (Zj Zi)))) (Zcw (Ze2 (own := ["cut"]) (caps := [2]) (N' := ["cut", "point"]) (by exact ⟨rfl, by decide +kernel, rfl, by decide +kernel, rfl, rfl⟩) (by rfl) (by decide) (J5 (J4 (Zb (mv 1)))) (fun _ _ _ _ _ => (Z2 (Z1 (i := 0) (by show List.Nodup (["cut", "point"] : List Str); decide +kernel)))) (fun _ _ _ _ _ => (Jo Jj)) (fun _ _ _ _ _ => (Ym (Z3 Zre (Z1z (Zi5 rfl) Zl4 (Zdi (Zg7 (Za (Zb (mv 1)) (Zj Zi)))) (Zb (mv 0))))))))))) (Zb (mv 1))))))))))
      (Zt (Yy (Y4 (Zwk Zxk (Z6w Zs8 (Zny Zzs rfl hu) (by rfl) T.z_sorted L2.B.boot_sorted (Za (Zb (mv 1)) (Zj Zi)))))))))))
theorem Za5 : Z6 ["n", "numbers", "thin", "by", "found", "cut", "number", "weight"] ["n", "numbers", "thin", "by"] (Zf Za3) := ⟨rfl, rfl, rfl, by decide +kernel, rfl, by decide +kernel, by decide +kernel⟩
theorem Zge {f : Nat → Addr} {fd : Nat → FuncData} {cls : Nat → Addr} (T : Txt K mg f fd cls) : FnOk P w K mg base CX0 4 (f 7) (fd 7) ["n", "numbers", "thin", "by"] (spD K (sD W2)) := by
  have G_law_cuts := Zlh (P := P) (w := w) (base := base) T
  have G_law_distance := Zdr (P := P) (w := w) (base := base) T
  refine Y0 T.F_law_drawn Za5 (S := Zc7) rfl rfl (fun cdv A outer s H E hr => ?_)
  have hu := hr.units
  exact (Zu (Zk (Zev (Zeq (i := 4) Za5.nd rfl (Or.inl rfl) (Zdi (Zg7 (Zj Zi)))))
      (Zu (Zk (Zck (Zcg PassesOwn.never rfl (Zen (Zex (by rfl) T.z_zip L2.B.boot_zip (Za (Zr (Zx G_law_cuts (hr.mono (by decide)) (by rfl) T.m_law_cuts T.F_law_cuts.kp T.b_law_cuts Ye (Za (Zb (mv 0)) (Zj Zi)))) (Za (Zb (mv 1)) (Zj Zi))))) (Zco (Zcr (n := 2) (by rfl) (Yj (Yg (Z2 (Z1 (i := 5) Za5.nd)) (Yj (Yg (Z2 (Z1 (i := 6) Za5.nd)) (Zau Za1)))))))
      (Zu (Zk (Yk (Yh (i := 7) Za5.nd rfl (Or.inl rfl) (Zr (Zx G_law_distance (hr.mono (by decide)) (by rfl) T.m_law_distance T.F_law_distance.kp T.b_law_distance Ye (Za (Zo Zb4 (Yb Wx Zbt (Zb (mv 6)) (Yd Zg))) (Za (Zb (mv 3)) (Zj Zi)))))))
      (Zt (Zdp (Zd4 (MW.mt (Zy1 (Z0k (Jb Z54 (Je Zze Zdw (Zo Zc0 (Yb Wv Zaa (Zb (mv 6)) (Yd Zg))) (Zb (mv 2)) (hm := (Wo _)))) (Zwv (Jb Z22 (Je Zxb Zdw (Ym (Z3 Za0 (Zat (Zw rfl) Yr (Zb (mv 7)) (Yd Zg) (hs := fun _ _ => rfl)))) (Yd Zg) (hm := (Wo _)))))))) (Zt (Zcp (Zcs 4 (Zbd (Zd9 (Za (Zb (mv 5)) (Za (Zb (mv 7)) (Zj Zi)))))))) (Jh Ji))))))))
      (Zt (Zdg (Zdh 4)))))))
theorem Zec : Z6 ["script", "at", "many", "found"] ["script", "at", "many"] (Zf Js) := ⟨rfl, rfl, rfl, by decide +kernel, rfl, by decide +kernel, by decide +kernel⟩
theorem Zhx {f : Nat → Addr} {fd : Nat → FuncData} {cls : Nat → Addr} (T : Txt K mg f fd cls) : FnOk P w K mg base CX0 2 (f 8) (fd 8) ["script", "at", "many"] (spD K (sD Zal)) := by
  have G_law_cell_at := Zcl (P := P) (w := w) (base := base) T
  have G_law_digits := Zfc (P := P) (w := w) (base := base) T
  refine Y0 T.F_law_numbers Zec (S := Zcj) rfl rfl (fun cdv A outer s H E hr => ?_)
  have hu := hr.units
  exact (Zu (Zk (Zep (Jq (i := 3) (own := ["cell"]) (caps := []) (N' := ["cell"])  false Zec.nd rfl (Or.inl rfl) (by exact ⟨rfl, by decide +kernel, rfl, by decide +kernel, rfl, rfl⟩) (by rfl) (by decide) (J5 (J4 (Zwq (Zw8 (Zb (mv 0)) (Ziw (Zi4 (Zb (mv 1)))) (Ziw (Zi4 (Zo Zg1 (Yb Zd5 Jk (Zb (mv 1)) (Zb (mv 2)))))))))) (fun _ _ _ _ _ => (Z2 (Z1 (i := 0) (by show List.Nodup (["cell"] : List Str); decide +kernel)))) (fun _ _ _ _ _ => (Jo Jj)) (fun _ _ _ _ _ => (Zo Zc0 (Yb Wv Zaa (Zb (mv 0)) (Zo Zlr (Yb Zeo Zgz (Yd Zg) (Yd Zg))))))))
      (Zt (Yy (Y4 (Ym (Z3 Zre (Z1z (Zi5 rfl) Zl4 (Zb (mv 3)) (Zr (Zx G_law_digits (hr.mono (by decide)) (by rfl) T.m_law_digits T.F_law_digits.kp T.b_law_digits Ye (Za (Zr (Zx G_law_cell_at (hr.mono (by decide)) (by rfl) T.m_law_cell_at T.F_law_cell_at.kp T.b_law_cell_at Ye (Za (Zb (mv 0)) (Za (Yd Zg) (Zj Zi))))) (Za (Zo Zna (Yb Zh7 Jk (Zb (mv 2)) (Zbw Zli (Zf4 Zg3 (Zb2 rfl) (by rfl) T.z_len L2.B.boot_len (Za (Zb (mv 3)) (Zj Zi)))))) (Za (Zo Zlr (Yb Zeo Zgz (Yd Zg) (Yd Zg))) (Zj Zi))))))))))))))
theorem Zk8 : Z6 ["q", "r"] ["q", "r"] (Zf Zbp) := ⟨rfl, rfl, rfl, by decide +kernel, rfl, by decide +kernel, by decide +kernel⟩
theorem Zhq {f : Nat → Addr} {fd : Nat → FuncData} {cls : Nat → Addr} (T : Txt K mg f fd cls) : FnOk P w K mg base CX0 3 (f 9) (fd 9) ["q", "r"] (spD K (sD Yz)) := by
  have G_law_fraction := Zb8 (P := P) (w := w) (base := base) T
  refine Y0 T.F_law_plus Zk8 (S := Zdq) rfl rfl (fun cdv A outer s H E hr => ?_)
  have hu := hr.units
  exact (Zt (Yy (Y4 (Zr (Zx G_law_fraction (hr.mono (by decide)) (by rfl) T.m_law_fraction T.F_law_fraction.kp T.b_law_fraction Ye (Za (Zo Zg1 (Yb Zd5 Jk (Zo Zcy (Yb Wy Zab (Ym (Z3 Za0 (Zat (Zw rfl) Yr (Zb (mv 0)) (Yd Zg) (hs := fun _ _ => rfl)))) (Ym (Z3 Za0 (Zat (Zw rfl) Yr (Zb (mv 1)) (Yd Zg) (hs := fun _ _ => rfl)))))) (Zo Zcy (Yb Wy Zab (Ym (Z3 Za0 (Zat (Zw rfl) Yr (Zb (mv 1)) (Yd Zg) (hs := fun _ _ => rfl)))) (Ym (Z3 Za0 (Zat (Zw rfl) Yr (Zb (mv 0)) (Yd Zg) (hs := fun _ _ => rfl)))))))) (Za (Zo Zcy (Yb Wy Zab (Ym (Z3 Za0 (Zat (Zw rfl) Yr (Zb (mv 0)) (Yd Zg) (hs := fun _ _ => rfl)))) (Ym (Z3 Za0 (Zat (Zw rfl) Yr (Zb (mv 1)) (Yd Zg) (hs := fun _ _ => rfl)))))) (Zj Zi))))))))
theorem Zci : Z6 ["n", "found", "one", "other"] ["n"] (Zf Zaw) := ⟨rfl, rfl, rfl, by decide +kernel, rfl, by decide +kernel, by decide +kernel⟩
theorem Zgd {f : Nat → Addr} {fd : Nat → FuncData} {cls : Nat → Addr} (T : Txt K mg f fd cls) : FnOk P w K mg base CX0 1 (f 10) (fd 10) ["n"] (spD K (sD W3)) := by
  refine Y0 T.F_law_pairs Zci (S := Zc8) rfl rfl (fun cdv A outer s H E hr => ?_)
  have hu := hr.units
  exact (Zu (Zk (Zev (Zeq (i := 1) Zci.nd rfl (Or.inl rfl) (Zdi (Zg7 (Zj Zi)))))
      (Zu (Zk (Zck (Zcg PassesOwn.never rfl (Zle (Zb3 (by rfl) T.z_range (Za (Zb (mv 0)) (Zj Zi)))) (Z2 (Z1 (i := 2) Zci.nd))
      (Zt (Zck (Zcg PassesOwn.never rfl (Zx7 (Zju (by rfl) T.z_range (Za (Zo Zg1 (Yb Zd5 Jk (Zb (mv 2)) (Yd Zg))) (Za (Zb (mv 0)) (Zj Zi))))) (Z2 (Z1 (i := 3) Zci.nd))
      (Zt (Zcp (Zcs 1 (Zbd (Zd9 (Za (Zb (mv 2)) (Za (Zb (mv 3)) (Zj Zi)))))))))))))
      (Zt (Zdg (Zdh 1)))))))
theorem Jl : Z6 ["n", "weighted", "found", "one", "other", "far", "cut", "weight"] ["n", "weighted"] (Zf Zbk) := ⟨rfl, rfl, rfl, by decide +kernel, rfl, by decide +kernel, by decide +kernel⟩
theorem Zhg {f : Nat → Addr} {fd : Nat → FuncData} {cls : Nat → Addr} (T : Txt K mg f fd cls) : FnOk P w K mg base CX0 4 (f 11) (fd 11) ["n", "weighted"] (spD K (sD Wd)) := by
  have G_law_pairs := Zgd (P := P) (w := w) (base := base) T
  have G_law_plus := Zhq (P := P) (w := w) (base := base) T
  refine Y0 T.F_law_sums Jl (S := Zah) rfl rfl (fun cdv A outer s H E hr => ?_)
  have hu := hr.units
  exact (Zu (Zk (Zev (Zeq (i := 2) Jl.nd rfl (Or.inl rfl) (Zdi (Zg7 (Zj Zi)))))
      (Zu (Zk (Zck (Zcg PassesOwn.never rfl (J5 (J4 (Zr (Zx G_law_pairs (hr.mono (by decide)) (by rfl) T.m_law_pairs T.F_law_pairs.kp T.b_law_pairs Ye (Za (Zb (mv 0)) (Zj Zi)))))) (Zco (Zcr (n := 2) (by rfl) (Yj (Yg (Z2 (Z1 (i := 3) Jl.nd)) (Yj (Yg (Z2 (Z1 (i := 4) Jl.nd)) (Zau Za1)))))))
      (Zu (Zk (Yk (Yh (i := 5) Jl.nd rfl (Or.inl rfl) (Zbd (Zd9 (Za (Yd Zg) (Za (Yd Zg) (Zj Zi)))))))
      (Zu (Zk (Zck (Zcg PassesOwn.never rfl (J5 (J4 (Zb (mv 1)))) (Zco (Zcr (n := 2) (by rfl) (Yj (Yg (Z2 (Z1 (i := 6) Jl.nd)) (Yj (Yg (Z2 (Z1 (i := 7) Jl.nd)) (Zau Za1)))))))
      (Zt (Zdp (Zd4 (Jb Zrn (Je (Zfb hu) Zi0 (Zo Zxl (Zng (Zob rfl) Zuu (Zb (mv 3)) (Zb (mv 6)) (hm := (by with_unfolding_all rfl)))) (Zo Zxl (Zng (Zob rfl) Zuu (Zb (mv 4)) (Zb (mv 6)) (hm := (by with_unfolding_all rfl)))) (hm := (Wo _)))) (Zt (Yk (Yh (i := 5) Jl.nd rfl (Or.inl rfl) (Zr (Zx G_law_plus (hr.mono (by decide)) (by rfl) T.m_law_plus T.F_law_plus.kp T.b_law_plus Ye (Za (Zb (mv 5)) (Za (Zb (mv 7)) (Zj Zi)))))))) (Jh Ji))))))
      (Zt (Zcp (Zcs 2 (Zb (mv 5)))))))))))
      (Zt (Zdg (Zdh 2)))))))
theorem W5 : Z6 ["script", "n", "by", "numbers", "first", "found", "at"] ["script", "n", "by"] (Zf Wt) := ⟨rfl, rfl, rfl, by decide +kernel, rfl, by decide +kernel, by decide +kernel⟩
theorem Zgj {f : Nat → Addr} {fd : Nat → FuncData} {cls : Nat → Addr} (T : Txt K mg f fd cls) : FnOk P w K mg base CX0 5 (f 12) (fd 12) ["script", "n", "by"] (spD K (sD Wm)) := by
  have G_law_cell_at := Zcl (P := P) (w := w) (base := base) T
  have G_law_distance := Zdr (P := P) (w := w) (base := base) T
  have G_law_drawn := Zge (P := P) (w := w) (base := base) T
  have G_law_numbers := Zhx (P := P) (w := w) (base := base) T
  have G_law_plus := Zhq (P := P) (w := w) (base := base) T
  have G_law_sums := Zhg (P := P) (w := w) (base := base) T
  refine Y0 T.F_law_distances W5 (S := Zbc) rfl rfl (fun cdv A outer s H E hr => ?_)
  have hu := hr.units
  exact (Zu (Zk (Yk (Yh (i := 3) W5.nd rfl (Or.inl rfl) (Zr (Zx G_law_numbers (hr.mono (by decide)) (by rfl) T.m_law_numbers T.F_law_numbers.kp T.b_law_numbers Ye (Za (Zb (mv 0)) (Za (Yd Zg) (Za (Yd Zg) (Zj Zi))))))))
      (Zu (Zk (Yk (Yh (i := 4) W5.nd rfl (Or.inl rfl) (Zo Zb4 (Yb Wx Zbt (Zr (Zx G_law_cell_at (hr.mono (by decide)) (by rfl) T.m_law_cell_at T.F_law_cell_at.kp T.b_law_cell_at Ye (Za (Zb (mv 0)) (Za (Yd Zg) (Zj Zi))))) (Yd Zg)))))
      (Zu (Zk (Zdp (Zd4 (Jb Zvi (Je (Zgy hu) Zlq (Zo Zc0 (Yb Wv Zaa (Zb (mv 4)) (Yd Zg))) (Yd Zg) (hm := (Wo _)))) (Zt (Yy (Y4 (Zcw (Ze2 (own := ["number"]) (caps := [2]) (N' := ["number", "by"]) (by exact ⟨rfl, by decide +kernel, rfl, by decide +kernel, rfl, rfl⟩) (by rfl) (by decide) (J5 (J4 (Zwq (Zw8 (Zb (mv 3)) (Zoh Zpg) (Ziw (Zi4 (Zo Zb4 (Yb Wx Zbt (Zo Zcy (Yb Wy Zab (Zb (mv 1)) (Zo Zna (Yb Zh7 Jk (Zb (mv 1)) (Yd Zg))))) (Yd Zg))))))))) (fun _ _ _ _ _ => (Z2 (Z1 (i := 0) (by show List.Nodup (["number", "by"] : List Str); decide +kernel)))) (fun _ _ _ _ _ => (Jo Jj)) (fun _ _ _ _ _ => (Zr (Zx G_law_distance (hr.mono (by decide)) (by rfl) T.m_law_distance T.F_law_distance.kp T.b_law_distance Ye (Za (Zb (mv 0)) (Za (Zb (mv 1)) (Zj Zi))))))))))) (Jh Ji)))
      (Zu (Zk (Zev (Zeq (i := 5) W5.nd rfl (Or.inl rfl) (Zr (Zx G_law_sums (hr.mono (by decide)) (by rfl) T.m_law_sums T.F_law_sums.kp T.b_law_sums Ye (Za (Zb (mv 1)) (Za (Zr (Zx G_law_drawn (hr.mono (by decide)) (by rfl) T.m_law_drawn T.F_law_drawn.kp T.b_law_drawn Ye (Za (Zb (mv 1)) (Za (Zb (mv 3)) (Za (Yd Zg) (Za (Zb (mv 2)) (Zj Zi))))))) (Zj Zi)))))))
      (Zu (Zk (Zdp (Zd4 (Jb Z22 (Je Zxb Zdw (Zb (mv 1)) (Yd Zg) (hm := (Wo _)))) (Zu (Zk (Yk (Yh (i := 6) W5.nd rfl (Or.inl rfl) (Zo Zc0 (Yb Wv Zaa (Zo Zb4 (Yb Wx Zbt (Zb (mv 4)) (Yd Zg))) (Zbw Zli (Zf4 Zg3 (Zb2 rfl) (by rfl) T.z_len L2.B.boot_len (Za (Ztn (mo 5)) (Zj Zi))))))))
      (Zt (Zzf (Zzb 5 (Zxj (Zx1 (Zr (Zx G_law_plus (hr.mono (by decide)) (by rfl) T.m_law_plus T.F_law_plus.kp T.b_law_plus Ye (Za (Ym (Z3 Za0 (Zat (Zw rfl) Yr (Ztn (mo 5)) (Zb (mv 6)) (hs := fun _ _ => rfl)))) (Za (Zr (Zx G_law_distance (hr.mono (by decide)) (by rfl) T.m_law_distance T.F_law_distance.kp T.b_law_distance Ye (Za (Ym (Z3 Za0 (Zat (Zw rfl) Yr (Zb (mv 3)) (Yd Zg) (hs := fun _ _ => rfl)))) (Za (Zb (mv 2)) (Zj Zi))))) (Zj Zi))))))) (Zb (mv 6))))))) (Jh Ji)))
      (Zt (Zdg (Zdh 5)))))))))))))
theorem Zkj : Z6 ["q", "r"] ["q", "r"] (Zf Zaz) := ⟨rfl, rfl, rfl, by decide +kernel, rfl, by decide +kernel, by decide +kernel⟩
theorem Zkd {f : Nat → Addr} {fd : Nat → FuncData} {cls : Nat → Addr} (T : Txt K mg f fd cls) : FnOk P w K mg base CX0 1 (f 13) (fd 13) ["q", "r"] (spD K (sD J1)) := by
  refine Y0 T.F_law_below Zkj (S := Zc9) rfl rfl (fun cdv A outer s H E hr => ?_)
  have hu := hr.units
  exact (Zt (Yy (Y4 (Zo Zxq (Zng Znr Zdw (Zo Zcy (Yb Wy Zab (Ym (Z3 Za0 (Zat (Zw rfl) Yr (Zb (mv 0)) (Yd Zg) (hs := fun _ _ => rfl)))) (Ym (Z3 Za0 (Zat (Zw rfl) Yr (Zb (mv 1)) (Yd Zg) (hs := fun _ _ => rfl)))))) (Zo Zcy (Yb Wy Zab (Ym (Z3 Za0 (Zat (Zw rfl) Yr (Zb (mv 1)) (Yd Zg) (hs := fun _ _ => rfl)))) (Ym (Z3 Za0 (Zat (Zw rfl) Yr (Zb (mv 0)) (Yd Zg) (hs := fun _ _ => rfl)))))) (hm := (Wo _)))))))
theorem Zky : Z6 ["q", "r"] ["q", "r"] (Zf Zaq) := ⟨rfl, rfl, rfl, by decide +kernel, rfl, by decide +kernel, by decide +kernel⟩
theorem Zke {f : Nat → Addr} {fd : Nat → FuncData} {cls : Nat → Addr} (T : Txt K mg f fd cls) : FnOk P w K mg base CX0 3 (f 14) (fd 14) ["q", "r"] (spD K (sD J3)) := by
  have G_law_fraction := Zb8 (P := P) (w := w) (base := base) T
  refine Y0 T.F_law_minus Zky (S := Zc5) rfl rfl (fun cdv A outer s H E hr => ?_)
  have hu := hr.units
  exact (Zt (Yy (Y4 (Zr (Zx G_law_fraction (hr.mono (by decide)) (by rfl) T.m_law_fraction T.F_law_fraction.kp T.b_law_fraction Ye (Za (Zo Zna (Yb Zh7 Jk (Zo Zcy (Yb Wy Zab (Ym (Z3 Za0 (Zat (Zw rfl) Yr (Zb (mv 0)) (Yd Zg) (hs := fun _ _ => rfl)))) (Ym (Z3 Za0 (Zat (Zw rfl) Yr (Zb (mv 1)) (Yd Zg) (hs := fun _ _ => rfl)))))) (Zo Zcy (Yb Wy Zab (Ym (Z3 Za0 (Zat (Zw rfl) Yr (Zb (mv 1)) (Yd Zg) (hs := fun _ _ => rfl)))) (Ym (Z3 Za0 (Zat (Zw rfl) Yr (Zb (mv 0)) (Yd Zg) (hs := fun _ _ => rfl)))))))) (Za (Zo Zcy (Yb Wy Zab (Ym (Z3 Za0 (Zat (Zw rfl) Yr (Zb (mv 0)) (Yd Zg) (hs := fun _ _ => rfl)))) (Ym (Z3 Za0 (Zat (Zw rfl) Yr (Zb (mv 1)) (Yd Zg) (hs := fun _ _ => rfl)))))) (Zj Zi))))))))
theorem Jg : Z6 ["one", "other", "most", "q", "r", "off"] ["one", "other"] (Zf Zap) := ⟨rfl, rfl, rfl, by decide +kernel, rfl, by decide +kernel, by decide +kernel⟩
theorem Zjp {f : Nat → Addr} {fd : Nat → FuncData} {cls : Nat → Addr} (T : Txt K mg f fd cls) : FnOk P w K mg base CX0 4 (f 15) (fd 15) ["one", "other"] (spD K (sD J2)) := by
  have G_law_below := Zkd (P := P) (w := w) (base := base) T
  have G_law_minus := Zke (P := P) (w := w) (base := base) T
  refine Y0 T.F_law_fault Jg (S := Zc3) rfl rfl (fun cdv A outer s H E hr => ?_)
  have hu := hr.units
  exact (Zu (Zk (Yk (Yh (i := 2) Jg.nd rfl (Or.inl rfl) (Zbd (Zd9 (Za (Yd Zg) (Za (Yd Zg) (Zj Zi)))))))
      (Zu (Zk (Zck (Zcg PassesOwn.never rfl (Zen (Zex (by rfl) T.z_zip L2.B.boot_zip (Za (Zb (mv 0)) (Za (Zb (mv 1)) (Zj Zi))))) (Zco (Zcr (n := 2) (by rfl) (Yj (Yg (Z2 (Z1 (i := 3) Jg.nd)) (Yj (Yg (Z2 (Z1 (i := 4) Jg.nd)) (Zau Za1)))))))
      (Zu (Zk (Yk (Yh (i := 5) Jg.nd rfl (Or.inl rfl) (Zr (Zx G_law_minus (hr.mono (by decide)) (by rfl) T.m_law_minus T.F_law_minus.kp T.b_law_minus Ye (Za (Zb (mv 3)) (Za (Zb (mv 4)) (Zj Zi)))))))
      (Zu (Zk (Zdp (Zd4 (Jb Zxq (Je Znr Zdw (Ym (Z3 Za0 (Zat (Zw rfl) Yr (Zb (mv 5)) (Yd Zg) (hs := fun _ _ => rfl)))) (Yd Zg) (hm := (Wo _)))) (Zt (Yk (Yh (i := 5) Jg.nd rfl (Or.inl rfl) (Zbd (Zd9 (Za (Zo Zna (Yb Zh7 Jk (Yd Zg) (Ym (Z3 Za0 (Zat (Zw rfl) Yr (Zb (mv 5)) (Yd Zg) (hs := fun _ _ => rfl)))))) (Za (Ym (Z3 Za0 (Zat (Zw rfl) Yr (Zb (mv 5)) (Yd Zg) (hs := fun _ _ => rfl)))) (Zj Zi)))))))) (Jh Ji)))
      (Zt (Zdp (Zd4 (Zdj (Zdv (Zr (Zx G_law_below (hr.mono (by decide)) (by rfl) T.m_law_below T.F_law_below.kp T.b_law_below Ye (Za (Zb (mv 2)) (Za (Zb (mv 5)) (Zj Zi))))) (fun _ => rfl))) (Zt (Yk (Yh (i := 2) Jg.nd rfl (Or.inl rfl) (Zb (mv 5))))) (Jh Ji))))))))))
      (Zt (Yy (Y4 (Zb (mv 2)))))))))
theorem Zjr : Z6 ["found"] ["found"] (Zf Zay) := ⟨rfl, rfl, rfl, by decide +kernel, rfl, by decide +kernel, by decide +kernel⟩
theorem Zkl {f : Nat → Addr} {fd : Nat → FuncData} {cls : Nat → Addr} (T : Txt K mg f fd cls) : FnOk P w K mg base CX0 1 (f 16) (fd 16) ["found"] (spD K (sD W4)) := by
  refine Y0 T.F_law_whole Zjr (S := Zc6) rfl rfl (fun cdv A outer s H E hr => ?_)
  have hu := hr.units
  exact (Zt (Yy (Y4 (Zls (Zvw (Zkb (Zqz (by decide) (by rfl) T.z_isinstance L2.B.boot_isinstance (by rfl) T.z_int L2.B.boot_int (Zb (mv 0)))) (Zux (Zps (Zxw (Zkb (Zqz (by decide) (by rfl) T.z_isinstance L2.B.boot_isinstance (by rfl) T.z_bool L2.B.boot_bool (Zb (mv 0))))))))))))
theorem Ze9 : Z6 ["found"] ["found"] (Zf Wa) := ⟨rfl, rfl, rfl, by decide +kernel, rfl, by decide +kernel, by decide +kernel⟩
theorem Ze8 {f : Nat → Addr} {fd : Nat → FuncData} {cls : Nat → Addr} (T : Txt K mg f fd cls) : FnOk P w K mg base CX0 2 (f 17) (fd 17) ["found"] (spD K (sD W9)) := by
  have G_law_common := Zfn (P := P) (w := w) (base := base) T
  have G_law_whole := Zkl (P := P) (w := w) (base := base) T
  refine Y0 T.F_law_is_fraction Ze9 (S := Zam) rfl rfl (fun cdv A outer s H E hr => ?_)
  have hu := hr.units
  exact (Zu (Zk (Zdp (Zd4 (MW.mt (Zgh (Zgg (Zeb (Zee (Zdj (Zdv (Zkb (Zqz (by decide) (by rfl) T.z_isinstance L2.B.boot_isinstance (by rfl) T.z_tuple L2.B.boot_tuple (Zb (mv 0)))) (fun _ => rfl))))) (Zgh (Zgg (Jb Zrn (Je (Zfb hu) Zi0 (Zbw Zli (Zf4 Zg3 (Zb2 rfl) (by rfl) T.z_len L2.B.boot_len (Za (Zb (mv 0)) (Zj Zi)))) (Yd Zg) (hm := (Wo _)))) (Zgh (Zgg (Zeb (Zee (Zdj (Zdv (Zr (Zx G_law_whole (hr.mono (by decide)) (by rfl) T.m_law_whole T.F_law_whole.kp T.b_law_whole Ye (Za (Ym (Z3 Za0 (Zat (Zw rfl) Yr (Zb (mv 0)) (Yd Zg) (hs := fun _ _ => rfl)))) (Zj Zi)))) (fun _ => rfl))))) (Zid (Zeb (Zee (Zdj (Zdv (Zr (Zx G_law_whole (hr.mono (by decide)) (by rfl) T.m_law_whole T.F_law_whole.kp T.b_law_whole Ye (Za (Ym (Z3 Za0 (Zat (Zw rfl) Yr (Zb (mv 0)) (Yd Zg) (hs := fun _ _ => rfl)))) (Zj Zi)))) (fun _ => rfl))))))))))))) (Zt (Yy (Y4 (Yd Zwf)))) (Jh Ji)))
      (Zt (Yy (Y4 (Zls (Zvw (Zo Z22 (Zng Zxb Zdw (Ym (Z3 Za0 (Zat (Zw rfl) Yr (Zb (mv 0)) (Yd Zg) (hs := fun _ _ => rfl)))) (Yd Zg) (hm := (Wo _)))) (Zux (Zo Zvi (Zng (Zgy hu) Zlq (Zr (Zx G_law_common (hr.mono (by decide)) (by rfl) T.m_law_common T.F_law_common.kp T.b_law_common Ye (Za (Ym (Z3 Za0 (Zat (Zw rfl) Yr (Zb (mv 0)) (Yd Zg) (hs := fun _ _ => rfl)))) (Za (Ym (Z3 Za0 (Zat (Zw rfl) Yr (Zb (mv 0)) (Yd Zg) (hs := fun _ _ => rfl)))) (Zj Zi))))) (Yd Zg) (hm := (Wo _))))))))))))
theorem Zca : Z6 ["n", "distances", "rows", "q", "one", "other"] ["n", "distances"] (Zf Zbo) := ⟨rfl, rfl, rfl, by decide +kernel, rfl, by decide +kernel, by decide +kernel⟩
theorem Zlw {f : Nat → Addr} {fd : Nat → FuncData} {cls : Nat → Addr} (T : Txt K mg f fd cls) : FnOk P w K mg base CX0 2 (f 18) (fd 18) ["n", "distances"] (spD K (sD Zak)) := by
  have G_law_pairs := Zgd (P := P) (w := w) (base := base) T
  refine Y0 T.F_law_rows Zca (S := Zde) rfl rfl (fun cdv A outer s H E hr => ?_)
  have hu := hr.units
  exact (Zu (Zk (Zlz (Jq (i := 2) (own := ["one"]) (caps := [0]) (N' := ["one", "n"])  true Zca.nd rfl (Or.inl rfl) (by exact ⟨rfl, by decide +kernel, rfl, by decide +kernel, rfl, rfl⟩) (by rfl) (by decide) (Zle (Zb3 (by rfl) T.z_range (Za (Zb (mv 0)) (Zj Zi)))) (fun _ _ _ _ _ => (Z2 (Z1 (i := 0) (by show List.Nodup (["one", "n"] : List Str); decide +kernel)))) (fun _ _ _ _ _ => (Jo Jj)) (fun _ _ _ _ _ => (Zcw (Ze2 (own := ["other"]) (caps := []) (N' := ["other"]) (by exact ⟨rfl, by decide +kernel, rfl, by decide +kernel, rfl, rfl⟩) (by rfl) (by decide) (Zle (Zb3 (by rfl) T.z_range (Za (Zb (mv 1)) (Zj Zi)))) (fun _ _ _ _ _ => (Z2 (Z1 (i := 0) (by show List.Nodup (["other"] : List Str); decide +kernel)))) (fun _ _ _ _ _ => (Jo Jj)) (fun _ _ _ _ _ => (Zbd (Zd9 (Za (Yd Zg) (Za (Yd Zg) (Zj Zi)))))))))))
      (Zu (Zk (Zck (Zcg PassesOwn.never rfl (Zen (Zex (by rfl) T.z_zip L2.B.boot_zip (Za (Zb (mv 1)) (Za (Zr (Zx G_law_pairs (hr.mono (by decide)) (by rfl) T.m_law_pairs T.F_law_pairs.kp T.b_law_pairs Ye (Za (Zb (mv 0)) (Zj Zi)))) (Zj Zi))))) (Zco (Zcr (n := 2) (by rfl) (Yj (Yg (Z2 (Z1 (i := 3) Zca.nd)) (Yj (Yg (Zco (Zcr (n := 2) (by rfl) (Yj (Yg (Z2 (Z1 (i := 4) Zca.nd)) (Yj (Yg (Z2 (Z1 (i := 5) Zca.nd)) (Zau Za1))))))) (Zau Za1)))))))
      (Zu (Zk (Zjf (Zi3 2 (Zb (mv 3)) (Zb (mv 4)) (Zb (mv 5)) (fun _ _ => rfl)))
      (Zt (Zjf (Zi3 2 (Zb (mv 3)) (Zb (mv 5)) (Zb (mv 4)) (fun _ _ => rfl))))))))
      (Zt (Zdg (Zdh 2)))))))
theorem Zcv : Z6 ["n", "pairs", "i", "j"] ["n"] (Zf Zbh) := ⟨rfl, rfl, rfl, by decide +kernel, rfl, by decide +kernel, by decide +kernel⟩
theorem Zez {f : Nat → Addr} {fd : Nat → FuncData} {cls : Nat → Addr} (T : Txt K mg f fd cls) : FnOk P w K mg base CX0 1 (f 19) (fd 19) ["n"] (spD K (sD Wc)) := by
  refine Y0 T.F_pairs_of Zcv (S := Zdt) rfl rfl (fun cdv A outer s H E hr => ?_)
  have hu := hr.units
  exact (Zu (Zk (Zev (Zeq (i := 1) Zcv.nd rfl (Or.inl rfl) (Zdi (Zg7 (Zj Zi)))))
      (Zu (Zk (Zck (Zcg PassesOwn.never rfl (Zle (Zb3 (by rfl) T.z_range (Za (Zb (mv 0)) (Zj Zi)))) (Z2 (Z1 (i := 2) Zcv.nd))
      (Zt (Zck (Zcg PassesOwn.never rfl (Zx7 (Zju (by rfl) T.z_range (Za (Zo Zg1 (Yb Zd5 Jk (Zb (mv 2)) (Yd Zg))) (Za (Zb (mv 0)) (Zj Zi))))) (Z2 (Z1 (i := 3) Zcv.nd))
      (Zt (Zcp (Zcs 1 (Zbd (Zd9 (Za (Zb (mv 2)) (Za (Zb (mv 3)) (Zj Zi)))))))))))))
      (Zt (Zdg (Zdh 1)))))))
theorem Zhi : Z6 ["table"] ["table"] (Zf W6) := ⟨rfl, rfl, rfl, by decide +kernel, rfl, by decide +kernel, by decide +kernel⟩
theorem Zdf {f : Nat → Addr} {fd : Nat → FuncData} {cls : Nat → Addr} (T : Txt K mg f fd cls) : FnOk P w K mg base CX0 2 (f 20) (fd 20) ["table"] (spD K (sD Yp)) := by
  have G_pairs_of := Zez (P := P) (w := w) (base := base) T
  refine Y0 T.F_distances_of Zhi (S := Zbx) rfl rfl (fun cdv A outer s H E hr => ?_)
  have hu := hr.units
  exact (Zt (Yy (Y4 (Zcw (Ze2 (own := ["i", "j"]) (caps := [0]) (N' := ["i", "j", "table"]) (by exact ⟨rfl, by decide +kernel, rfl, by decide +kernel, rfl, rfl⟩) (by rfl) (by decide) (J5 (J4 (Zr (Zx G_pairs_of (hr.mono (by decide)) (by rfl) T.m_pairs_of T.F_pairs_of.kp T.b_pairs_of Ye (Za (Zbw Zli (Zf4 Zg3 (Zb2 rfl) (by rfl) T.z_len L2.B.boot_len (Za (Zb (mv 0)) (Zj Zi)))) (Zj Zi)))))) (fun _ _ _ _ _ => (Zco (Zcr (n := 2) (by rfl) (Yj (Yg (Z2 (Z1 (i := 0) (by show List.Nodup (["i", "j", "table"] : List Str); decide +kernel))) (Yj (Yg (Z2 (Z1 (i := 1) (by show List.Nodup (["i", "j", "table"] : List Str); decide +kernel))) (Zau Za1)))))))) (fun _ _ _ _ _ => (Jo Jj)) (fun _ _ _ _ _ => (Ym (Z3 Za0 (Zat (Zw rfl) Yr (Ym (Z3 Za0 (Zat (Zw rfl) Yr (Zb (mv 2)) (Zb (mv 0)) (hs := fun _ _ => rfl)))) (Zb (mv 1)) (hs := fun _ _ => rfl))))))))))
theorem Yq : Z6 ["a", "b", "left"] ["a", "b"] (Zf Y6) := ⟨rfl, rfl, rfl, by decide +kernel, rfl, by decide +kernel, by decide +kernel⟩
theorem Zbv {f : Nat → Addr} {fd : Nat → FuncData} {cls : Nat → Addr} (T : Txt K mg f fd cls) : FnOk P w K mg base CX0 1 (f 21) (fd 21) ["a", "b"] (spD K (sD Yn)) := by
  refine Y0 T.F_greatest_divisor Yq (S := Zae) rfl rfl (fun cdv A outer s H E hr => ?_)
  have hu := hr.units
  exact (Zu (Zk (Yk (Yh (i := 0) Yq.nd rfl (Or.inl rfl) (Zbw Zqt (Zf4 Zka Zfe (by rfl) T.z_abs L2.B.boot_abs (Za (Zb (mv 0)) (Zj Zi))))))
      (Zu (Zk (Yk (Yh (i := 1) Yq.nd rfl (Or.inl rfl) (Zbw Zqt (Zf4 Zka Zfe (by rfl) T.z_abs L2.B.boot_abs (Za (Zb (mv 1)) (Zj Zi))))))
      (Zu (Zk (Zl1 (Zly PassesOwn.never (Jb Zrn (Je (Zfb hu) Zi0 (Zb (mv 1)) (Yd Zg) (hm := (Wo _)))) (Zu (Zk (Yk (Yh (i := 2) Yq.nd rfl (Or.inl rfl) (Zo Zc0 (Yb Wv Zaa (Zb (mv 0)) (Zb (mv 1))))))
      (Zu (Zk (Yk (Yh (i := 0) Yq.nd rfl (Or.inl rfl) (Zb (mv 1))))
      (Zt (Yk (Yh (i := 1) Yq.nd rfl (Or.inl rfl) (Zb (mv 2)))))))))))
      (Zt (Yy (Y4 (Zb (mv 0)))))))))))
theorem Zer : Z6 ["top", "bottom", "shared"] ["top", "bottom"] (Zf Zbi) := ⟨rfl, rfl, rfl, by decide +kernel, rfl, by decide +kernel, by decide +kernel⟩
theorem Zey {f : Nat → Addr} {fd : Nat → FuncData} {cls : Nat → Addr} (T : Txt K mg f fd cls) : FnOk P w K mg base CX0 2 (f 22) (fd 22) ["top", "bottom"] (spD K (sD Zag)) := by
  have G_greatest_divisor := Zbv (P := P) (w := w) (base := base) T
  refine Y0 T.F_in_least Zer (S := Zd0) rfl rfl (fun cdv A outer s H E hr => ?_)
  have hu := hr.units
  exact (Zu (Zk (Yk (Yh (i := 2) Zer.nd rfl (Or.inl rfl) (Zr (Zx G_greatest_divisor (hr.mono (by decide)) (by rfl) T.m_greatest_divisor T.F_greatest_divisor.kp T.b_greatest_divisor Ye (Za (Zb (mv 0)) (Za (Zb (mv 1)) (Zj Zi)))))))
      (Zu (Zk (Zdp (Zd4 (Jb Zxq (Je Znr Zdw (Zb (mv 1)) (Yd Zg) (hm := (Wo _)))) (Zt (Yk (Yh (i := 2) Zer.nd rfl (Or.inl rfl) (Ztf (Z0z (Zb (mv 2))))))) (Jh Ji)))
      (Zt (Yy (Y4 (Zbd (Zd9 (Za (Zo Zb4 (Yb Wx Zbt (Zb (mv 0)) (Zb (mv 2)))) (Za (Zo Zb4 (Yb Wx Zbt (Zb (mv 1)) (Zb (mv 2)))) (Zj Zi))))))))))))
theorem Zk9 : Z6 ["thing"] ["thing"] (Zf Zbq) := ⟨rfl, rfl, rfl, by decide +kernel, rfl, by decide +kernel, by decide +kernel⟩
theorem Zho {f : Nat → Addr} {fd : Nat → FuncData} {cls : Nat → Addr} (T : Txt K mg f fd cls) : FnOk P w K mg base CX0 1 (f 23) (fd 23) ["thing"] (spD K (sD Jm)) := by
  refine Y0 T.F_is_whole Zk9 (S := Zd2) rfl rfl (fun cdv A outer s H E hr => ?_)
  have hu := hr.units
  exact (Zt (Yy (Y4 (Zls (Zvw (Zkb (Zqz (by decide) (by rfl) T.z_isinstance L2.B.boot_isinstance (by rfl) T.z_int L2.B.boot_int (Zb (mv 0)))) (Zux (Zps (Zxw (Zkb (Zqz (by decide) (by rfl) T.z_isinstance L2.B.boot_isinstance (by rfl) T.z_bool L2.B.boot_bool (Zb (mv 0))))))))))))
theorem Zgw : Z6 ["top", "bottom"] ["top", "bottom"] (Zf Zbr) := ⟨rfl, rfl, rfl, by decide +kernel, rfl, by decide +kernel, by decide +kernel⟩
theorem Zew {f : Nat → Addr} {fd : Nat → FuncData} {cls : Nat → Addr} (T : Txt K mg f fd cls) : FnOk P w K mg base CX0 3 (f 24) (fd 24) ["top", "bottom"] (spD K (sD Wb)) := by
  have G_in_least := Zey (P := P) (w := w) (base := base) T
  have G_is_whole := Zho (P := P) (w := w) (base := base) T
  refine Y0 T.F_fraction Zgw (S := Zbs) rfl rfl (fun cdv A outer s H E hr => ?_)
  have hu := hr.units
  exact (Zu (Zk (Zdp (Zd4 (MW.mt (Zgh (Zgg (Zeb (Zee (Zdj (Zdv (Zr (Zx G_is_whole (hr.mono (by decide)) (by rfl) T.m_is_whole T.F_is_whole.kp T.b_is_whole Ye (Za (Zb (mv 0)) (Zj Zi)))) (fun _ => rfl))))) (Zgh (Zgg (Zeb (Zee (Zdj (Zdv (Zr (Zx G_is_whole (hr.mono (by decide)) (by rfl) T.m_is_whole T.F_is_whole.kp T.b_is_whole Ye (Za (Zb (mv 1)) (Zj Zi)))) (fun _ => rfl))))) (Zid (Jb Zvi (Je (Zgy hu) Zlq (Zb (mv 1)) (Yd Zg) (hm := (Wo _)))))))))) (Zt Zm2) (Jh Ji)))
      (Zt (Yy (Y4 (Zr (Zx G_in_least (hr.mono (by decide)) (by rfl) T.m_in_least T.F_in_least.kp T.b_in_least Ye (Za (Zb (mv 0)) (Za (Zb (mv 1)) (Zj Zi))))))))))
theorem Zdx {f : Nat → Addr} {fd : Nat → FuncData} {cls : Nat → Addr} (T : Txt K mg f fd cls) : FnOk P w K mg base (CX1 P w) 3 (f 24) (fd 24) ["top", "bottom"] (spX K (sX K Wb)) := by
  have G_in_least := Zey (P := P) (w := w) (base := base) T
  have G_is_whole := Zho (P := P) (w := w) (base := base) T
  refine Zqj T.F_fraction Zgw (S := Zbs) rfl rfl (fun cdv A outer s H E hr => ?_)
  have hu := hr.units
  exact (Zl6 (Z25 (Z3h (MW.mt (Zgh (Zgg (Zeb (Zee (Zdj (Zdv (Zr (Zx G_is_whole (hr.mono (by decide)) (by rfl) T.m_is_whole T.F_is_whole.kp T.b_is_whole Ye (Za (Zb (mv 0)) (Zj Zi)))) (fun _ => rfl))))) (Zgh (Zgg (Zeb (Zee (Zdj (Zdv (Zr (Zx G_is_whole (hr.mono (by decide)) (by rfl) T.m_is_whole T.F_is_whole.kp T.b_is_whole Ye (Za (Zb (mv 1)) (Zj Zi)))) (fun _ => rfl))))) (Zid (Jb Zvi (Je (Zgy hu) Zlq (Zb (mv 1)) (Yd Zg) (hm := (Wo _)))))))))) (Zlc (Zsg T.ca_NoNumber (Zrl rfl hr.hd (by rfl) T.mC_NoNumber T.r_NoNumber))) (Ztt _))) (Zdp (Zd4 (MW.mt (Zgh (Zgg (Zeb (Zee (Zdj (Zdv (Zr (Zx G_is_whole (hr.mono (by decide)) (by rfl) T.m_is_whole T.F_is_whole.kp T.b_is_whole Ye (Za (Zb (mv 0)) (Zj Zi)))) (fun _ => rfl))))) (Zgh (Zgg (Zeb (Zee (Zdj (Zdv (Zr (Zx G_is_whole (hr.mono (by decide)) (by rfl) T.m_is_whole T.F_is_whole.kp T.b_is_whole Ye (Za (Zb (mv 1)) (Zj Zi)))) (fun _ => rfl))))) (Zid (Jb Zvi (Je (Zgy hu) Zlq (Zb (mv 1)) (Yd Zg) (hm := (Wo _)))))))))) (Zt Zm2) (Jh Ji))) (Ztt _))
theorem J0 : Z6 ["numbers", "bottom", "q"] ["numbers"] (Zf Wq) := ⟨rfl, rfl, rfl, by decide +kernel, rfl, by decide +kernel, by decide +kernel⟩
theorem Zba {f : Nat → Addr} {fd : Nat → FuncData} {cls : Nat → Addr} (T : Txt K mg f fd cls) : FnOk P w K mg base CX0 2 (f 25) (fd 25) ["numbers"] (spD K (sD Yo)) := by
  have G_greatest_divisor := Zbv (P := P) (w := w) (base := base) T
  refine Y0 T.F_shared_bottom J0 (S := Zbf) rfl rfl (fun cdv A outer s H E hr => ?_)
  have hu := hr.units
  exact (Zu (Zk (Yk (Yh (i := 1) J0.nd rfl (Or.inl rfl) (Yd Zg)))
      (Zu (Zk (Zck (Zcg PassesOwn.never rfl (J5 (J4 (Zb (mv 0)))) (Z2 (Z1 (i := 2) J0.nd))
      (Zt (Yk (Yh (i := 1) J0.nd rfl (Or.inl rfl) (Zo Zcy (Yb Wy Zab (Zo Zb4 (Yb Wx Zbt (Zb (mv 1)) (Zr (Zx G_greatest_divisor (hr.mono (by decide)) (by rfl) T.m_greatest_divisor T.F_greatest_divisor.kp T.b_greatest_divisor Ye (Za (Zb (mv 1)) (Za (Ym (Z3 Za0 (Zat (Zw rfl) Yr (Zb (mv 2)) (Yd Zg) (hs := fun _ _ => rfl)))) (Zj Zi))))))) (Ym (Z3 Za0 (Zat (Zw rfl) Yr (Zb (mv 2)) (Yd Zg) (hs := fun _ _ => rfl)))))))))))
      (Zt (Yy (Y4 (Zb (mv 1)))))))))
theorem Zj6 : Z6 ["bottom", "numbers"] ["bottom", "numbers"] (Zf Zar) := ⟨rfl, rfl, rfl, by decide +kernel, rfl, by decide +kernel, by decide +kernel⟩
theorem Zds {f : Nat → Addr} {fd : Nat → FuncData} {cls : Nat → Addr} (T : Txt K mg f fd cls) : FnOk P w K mg base CX0 1 (f 26) (fd 26) ["bottom", "numbers"] (spD K (sD Wz)) := by
  refine Y0 T.F_tops_over Zj6 (S := Zc1) rfl rfl (fun cdv A outer s H E hr => ?_)
  have hu := hr.units
  exact (Zt (Yy (Y4 (Zcw (Ze2 (own := ["q"]) (caps := [0]) (N' := ["q", "bottom"]) (by exact ⟨rfl, by decide +kernel, rfl, by decide +kernel, rfl, rfl⟩) (by rfl) (by decide) (J5 (J4 (Zb (mv 1)))) (fun _ _ _ _ _ => (Z2 (Z1 (i := 0) (by show List.Nodup (["q", "bottom"] : List Str); decide +kernel)))) (fun _ _ _ _ _ => (Jo Jj)) (fun _ _ _ _ _ => (Zo Zcy (Yb Wy Zab (Ym (Z3 Za0 (Zat (Zw rfl) Yr (Zb (mv 0)) (Yd Zg) (hs := fun _ _ => rfl)))) (Zo Zb4 (Yb Wx Zbt (Zb (mv 1)) (Ym (Z3 Za0 (Zat (Zw rfl) Yr (Zb (mv 0)) (Yd Zg) (hs := fun _ _ => rfl))))))))))))))
theorem Za4 : Z6 ["numbers", "bottom"] ["numbers"] (Zf Jv) := ⟨rfl, rfl, rfl, by decide +kernel, rfl, by decide +kernel, by decide +kernel⟩
theorem Zed {f : Nat → Addr} {fd : Nat → FuncData} {cls : Nat → Addr} (T : Txt K mg f fd cls) : FnOk P w K mg base CX0 4 (f 27) (fd 27) ["numbers"] (spD K (sD Jc)) := by
  have G_fraction := Zew (P := P) (w := w) (base := base) T
  have GX_fraction := Zdx (P := P) (w := w) (base := base) T
  have G_shared_bottom := Zba (P := P) (w := w) (base := base) T
  have G_tops_over := Zds (P := P) (w := w) (base := base) T
  refine Y0 T.F_greatest_of Za4 (S := Zaf) rfl rfl (fun cdv A outer s H E hr => ?_)
  have hu := hr.units
  exact (Zu (Zk (Yk (Yh (i := 1) Za4.nd rfl (Or.inl rfl) (Zr (Zx G_shared_bottom (hr.mono (by decide)) (by rfl) T.m_shared_bottom T.F_shared_bottom.kp T.b_shared_bottom Ye (Za (Zb (mv 0)) (Zj Zi))))))
      (Zt (Z2i (Yy (Y4 (Zr (Zx G_fraction (hr.mono (by decide)) (by rfl) T.m_fraction T.F_fraction.kp T.b_fraction Ye (Za (Zbw Zud (Ztz (by rfl) Zoo (by rfl) T.z_max L2.B.boot_max (Za (Zr (Zx G_tops_over (hr.mono (by decide)) (by rfl) T.m_tops_over T.F_tops_over.kp T.b_tops_over Ye (Za (Zb (mv 1)) (Za (Zb (mv 0)) (Zj Zi))))) (Zj Zi)))) (Za (Zb (mv 1)) (Zj Zi)))))))))))
theorem Zdu {f : Nat → Addr} {fd : Nat → FuncData} {cls : Nat → Addr} (T : Txt K mg f fd cls) : FnOk P w K mg base (CX1 P w) 4 (f 27) (fd 27) ["numbers"] (spX K (sX K Jc)) := by
  have G_fraction := Zew (P := P) (w := w) (base := base) T
  have GX_fraction := Zdx (P := P) (w := w) (base := base) T
  have G_shared_bottom := Zba (P := P) (w := w) (base := base) T
  have G_tops_over := Zds (P := P) (w := w) (base := base) T
  refine Zqj T.F_greatest_of Za4 (S := Zaf) rfl rfl (fun cdv A outer s H E hr => ?_)
  have hu := hr.units
  exact (Zl6 (Zxa _) (Yk (Yh (i := 1) Za4.nd rfl (Or.inl rfl) (Zr (Zx G_shared_bottom (hr.mono (by decide)) (by rfl) T.m_shared_bottom T.F_shared_bottom.kp T.b_shared_bottom Ye (Za (Zb (mv 0)) (Zj Zi)))))) (Zlc (Ztv (Zoa (Zqm GX_fraction (hr.mono (by decide)) (by rfl) T.m_fraction T.F_fraction.kp T.b_fraction (Za (Zbw Zud (Ztz (by rfl) Zoo (by rfl) T.z_max L2.B.boot_max (Za (Zr (Zx G_tops_over (hr.mono (by decide)) (by rfl) T.m_tops_over T.F_tops_over.kp T.b_tops_over Ye (Za (Zb (mv 1)) (Za (Zb (mv 0)) (Zj Zi))))) (Zj Zi)))) (Za (Zb (mv 1)) (Zj Zi))))))))
theorem Zsd : Z6 ["q", "r"] ["q", "r"] (Zf Zf5) := ⟨rfl, rfl, rfl, by decide +kernel, rfl, by decide +kernel, by decide +kernel⟩
theorem Zl9 {f : Nat → Addr} {fd : Nat → FuncData} {cls : Nat → Addr} (T : Txt K mg f fd cls) : FnOk P w K mg base CX0 3 (f 28) (fd 28) ["q", "r"] (spD K (sD Zdk)) := by
  have G_in_least := Zey (P := P) (w := w) (base := base) T
  refine Y0 T.F_minus Zsd (S := Zga) rfl rfl (fun cdv A outer s H E hr => ?_)
  have hu := hr.units
  exact (Zt (Yy (Y4 (Zr (Zx G_in_least (hr.mono (by decide)) (by rfl) T.m_in_least T.F_in_least.kp T.b_in_least Ye (Za (Zo Zna (Yb Zh7 Jk (Zo Zcy (Yb Wy Zab (Ym (Z3 Za0 (Zat (Zw rfl) Yr (Zb (mv 0)) (Yd Zg) (hs := fun _ _ => rfl)))) (Ym (Z3 Za0 (Zat (Zw rfl) Yr (Zb (mv 1)) (Yd Zg) (hs := fun _ _ => rfl)))))) (Zo Zcy (Yb Wy Zab (Ym (Z3 Za0 (Zat (Zw rfl) Yr (Zb (mv 1)) (Yd Zg) (hs := fun _ _ => rfl)))) (Ym (Z3 Za0 (Zat (Zw rfl) Yr (Zb (mv 0)) (Yd Zg) (hs := fun _ _ => rfl)))))))) (Za (Zo Zcy (Yb Wy Zab (Ym (Z3 Za0 (Zat (Zw rfl) Yr (Zb (mv 0)) (Yd Zg) (hs := fun _ _ => rfl)))) (Ym (Z3 Za0 (Zat (Zw rfl) Yr (Zb (mv 1)) (Yd Zg) (hs := fun _ _ => rfl)))))) (Zj Zi))))))))
theorem Zlv : Z6 ["n", "cut"] ["n", "cut"] (Zf Zbm) := ⟨rfl, rfl, rfl, by decide +kernel, rfl, by decide +kernel, by decide +kernel⟩
theorem Zln {f : Nat → Addr} {fd : Nat → FuncData} {cls : Nat → Addr} (T : Txt K mg f fd cls) : FnOk P w K mg base CX0 1 (f 29) (fd 29) ["n", "cut"] (spD K (sD Zb6)) := by
  refine Y0 T.F_sides_of Zlv (S := Zdn) rfl rfl (fun cdv A outer s H E hr => ?_)
  have hu := hr.units
  exact (Zt (Yy (Y4 (Zcw (Ze2 (own := ["point"]) (caps := [1]) (N' := ["point", "cut"]) (by exact ⟨rfl, by decide +kernel, rfl, by decide +kernel, rfl, rfl⟩) (by rfl) (by decide) (Zle (Zb3 (by rfl) T.z_range (Za (Zb (mv 0)) (Zj Zi)))) (fun _ _ _ _ _ => (Z2 (Z1 (i := 0) (by show List.Nodup (["point", "cut"] : List Str); decide +kernel)))) (fun _ _ _ _ _ => (Jo Jj)) (fun _ _ _ _ _ => (Ym (Z3z (Z7y (Jb Zxl (Je (Zob rfl) Zuu (Zb (mv 0)) (Zb (mv 1)) (hm := (by with_unfolding_all rfl)))) (Yd Zg) (Yd Zg))))))))))
theorem Zkz : Z6 ["n", "cuts"] ["n", "cuts"] (Zf Za2) := ⟨rfl, rfl, rfl, by decide +kernel, rfl, by decide +kernel, by decide +kernel⟩
theorem Zjn {f : Nat → Addr} {fd : Nat → FuncData} {cls : Nat → Addr} (T : Txt K mg f fd cls) : FnOk P w K mg base CX0 2 (f 30) (fd 30) ["n", "cuts"] (spD K (sD Za7)) := by
  have G_sides_of := Zln (P := P) (w := w) (base := base) T
  refine Y0 T.F_all_sides Zkz (S := Zda) rfl rfl (fun cdv A outer s H E hr => ?_)
  have hu := hr.units
  exact (Zt (Yy (Y4 (Zcw (Ze2 (own := ["weighted"]) (caps := [0]) (N' := ["weighted", "n"]) (by exact ⟨rfl, by decide +kernel, rfl, by decide +kernel, rfl, rfl⟩) (by rfl) (by decide) (J5 (J4 (Zb (mv 1)))) (fun _ _ _ _ _ => (Z2 (Z1 (i := 0) (by show List.Nodup (["weighted", "n"] : List Str); decide +kernel)))) (fun _ _ _ _ _ => (Jo Jj)) (fun _ _ _ _ _ => (Zr (Zx G_sides_of (hr.mono (by decide)) (by rfl) T.m_sides_of T.F_sides_of.kp T.b_sides_of Ye (Za (Zb (mv 1)) (Za (Ym (Z3 Za0 (Zat (Zw rfl) Yr (Zb (mv 0)) (Yd Zg) (hs := fun _ _ => rfl)))) (Zj Zi)))))))))))
theorem Jt : Z6 ["n", "distances", "table", "pair", "distance"] ["n", "distances"] (Zf Wg) := ⟨rfl, rfl, rfl, by decide +kernel, rfl, by decide +kernel, by decide +kernel⟩
theorem Zfv {f : Nat → Addr} {fd : Nat → FuncData} {cls : Nat → Addr} (T : Txt K mg f fd cls) : FnOk P w K mg base CX0 2 (f 31) (fd 31) ["n", "distances"] (spD K (sD Wk)) := by
  have G_pairs_of := Zez (P := P) (w := w) (base := base) T
  refine Y0 T.F_table_of_pairs Jt (S := Wj) rfl rfl (fun cdv A outer s H E hr => ?_)
  have hu := hr.units
  exact (Zu (Zk (Zlz (Jq (i := 2) (own := ["point"]) (caps := [0]) (N' := ["point", "n"])  true Jt.nd rfl (Or.inl rfl) (by exact ⟨rfl, by decide +kernel, rfl, by decide +kernel, rfl, rfl⟩) (by rfl) (by decide) (Zle (Zb3 (by rfl) T.z_range (Za (Zb (mv 0)) (Zj Zi)))) (fun _ _ _ _ _ => (Z2 (Z1 (i := 0) (by show List.Nodup (["point", "n"] : List Str); decide +kernel)))) (fun _ _ _ _ _ => (Jo Jj)) (fun _ _ _ _ _ => (Zy2 (Z4a (Zbd (Zd9 (Za (Yd Zg) (Za (Yd Zg) (Zj Zi))))) (Zb (mv 1)))))))
      (Zu (Zk (Zck (Zcg PassesOwn.never rfl (Zen (Zex (by rfl) T.z_zip L2.B.boot_zip (Za (Zr (Zx G_pairs_of (hr.mono (by decide)) (by rfl) T.m_pairs_of T.F_pairs_of.kp T.b_pairs_of Ye (Za (Zb (mv 0)) (Zj Zi)))) (Za (Zb (mv 1)) (Zj Zi))))) (Zco (Zcr (n := 2) (by rfl) (Yj (Yg (Z2 (Z1 (i := 3) Jt.nd)) (Yj (Yg (Z2 (Z1 (i := 4) Jt.nd)) (Zau Za1)))))))
      (Zu (Zk (Zjf (Zi3 2 (Zb (mv 4)) (Ym (Z3 Za0 (Zat (Zw rfl) Yr (Zb (mv 3)) (Yd Zg) (hs := fun _ _ => rfl)))) (Ym (Z3 Za0 (Zat (Zw rfl) Yr (Zb (mv 3)) (Yd Zg) (hs := fun _ _ => rfl)))) (fun _ _ => rfl)))
      (Zt (Zjf (Zi3 2 (Zb (mv 4)) (Ym (Z3 Za0 (Zat (Zw rfl) Yr (Zb (mv 3)) (Yd Zg) (hs := fun _ _ => rfl)))) (Ym (Z3 Za0 (Zat (Zw rfl) Yr (Zb (mv 3)) (Yd Zg) (hs := fun _ _ => rfl)))) (fun _ _ => rfl))))))))
      (Zt (Zdg (Zdh 2)))))))
theorem Ww : Z6 ["n", "cuts", "weights", "bottom", "tops", "sides", "distances", "i", "j", "parting"] ["n", "cuts"] (Zf Zbl) := ⟨rfl, rfl, rfl, by decide +kernel, rfl, by decide +kernel, by decide +kernel⟩
theorem Zhn {f : Nat → Addr} {fd : Nat → FuncData} {cls : Nat → Addr} (T : Txt K mg f fd cls) : FnOk P w K mg base CX0 4 (f 32) (fd 32) ["n", "cuts"] (spD K (sD Zac)) := by
  have G_all_sides := Zjn (P := P) (w := w) (base := base) T
  have G_fraction := Zew (P := P) (w := w) (base := base) T
  have GX_fraction := Zdx (P := P) (w := w) (base := base) T
  have G_pairs_of := Zez (P := P) (w := w) (base := base) T
  have G_shared_bottom := Zba (P := P) (w := w) (base := base) T
  have G_table_of_pairs := Zfv (P := P) (w := w) (base := base) T
  have G_tops_over := Zds (P := P) (w := w) (base := base) T
  refine Y0 T.F_table_of Ww (S := Zaj) rfl rfl (fun cdv A outer s H E hr => ?_)
  have hu := hr.units
  exact (Zu (Zk (Zep (Jq (i := 2) (own := ["weighted"]) (caps := []) (N' := ["weighted"])  false Ww.nd rfl (Or.inl rfl) (by exact ⟨rfl, by decide +kernel, rfl, by decide +kernel, rfl, rfl⟩) (by rfl) (by decide) (J5 (J4 (Zb (mv 1)))) (fun _ _ _ _ _ => (Z2 (Z1 (i := 0) (by show List.Nodup (["weighted"] : List Str); decide +kernel)))) (fun _ _ _ _ _ => (Jo Jj)) (fun _ _ _ _ _ => (Ym (Z3 Za0 (Zat (Zw rfl) Yr (Zb (mv 0)) (Yd Zg) (hs := fun _ _ => rfl)))))))
      (Zu (Zk (Yk (Yh (i := 3) Ww.nd rfl (Or.inl rfl) (Zr (Zx G_shared_bottom (hr.mono (by decide)) (by rfl) T.m_shared_bottom T.F_shared_bottom.kp T.b_shared_bottom Ye (Za (Zb (mv 2)) (Zj Zi))))))
      (Zu (Zk (Yk (Yh (i := 4) Ww.nd rfl (Or.inl rfl) (Zr (Zx G_tops_over (hr.mono (by decide)) (by rfl) T.m_tops_over T.F_tops_over.kp T.b_tops_over Ye (Za (Zb (mv 3)) (Za (Zb (mv 2)) (Zj Zi)))))))
      (Zu (Zk (Yk (Yh (i := 5) Ww.nd rfl (Or.inl rfl) (Zr (Zx G_all_sides (hr.mono (by decide)) (by rfl) T.m_all_sides T.F_all_sides.kp T.b_all_sides Ye (Za (Zb (mv 0)) (Za (Zb (mv 1)) (Zj Zi)))))))
      (Zu (Zk (Zev (Zeq (i := 6) Ww.nd rfl (Or.inl rfl) (Zdi (Zg7 (Zj Zi)))))
      (Zu (Zk (Zck (Zcg PassesOwn.never rfl (J5 (J4 (Zr (Zx G_pairs_of (hr.mono (by decide)) (by rfl) T.m_pairs_of T.F_pairs_of.kp T.b_pairs_of Ye (Za (Zb (mv 0)) (Zj Zi)))))) (Zco (Zcr (n := 2) (by rfl) (Yj (Yg (Z2 (Z1 (i := 7) Ww.nd)) (Yj (Yg (Z2 (Z1 (i := 8) Ww.nd)) (Zau Za1)))))))
      (Zu (Zk (Zep (Jq (i := 9) (own := ["side", "top"]) (caps := [7, 8]) (N' := ["side", "top", "i", "j"])  false Ww.nd rfl (Or.inl rfl) (by exact ⟨rfl, by decide +kernel, rfl, by decide +kernel, rfl, rfl⟩) (by rfl) (by decide) (Zen (Zex (by rfl) T.z_zip L2.B.boot_zip (Za (Zb (mv 5)) (Za (Zb (mv 4)) (Zj Zi))))) (fun _ _ _ _ _ => (Zco (Zcr (n := 2) (by rfl) (Yj (Yg (Z2 (Z1 (i := 0) (by show List.Nodup (["side", "top", "i", "j"] : List Str); decide +kernel))) (Yj (Yg (Z2 (Z1 (i := 1) (by show List.Nodup (["side", "top", "i", "j"] : List Str); decide +kernel))) (Zau Za1)))))))) (fun _ _ _ _ _ => (Zvl (Jb Zrn (Je (Zfb hu) Zi0 (Ym (Z3 Za0 (Zat (Zw rfl) Yr (Zb (mv 0)) (Zb (mv 2)) (hs := fun _ _ => rfl)))) (Ym (Z3 Za0 (Zat (Zw rfl) Yr (Zb (mv 0)) (Zb (mv 3)) (hs := fun _ _ => rfl)))) (hm := (Wo _)))))) (fun _ _ _ _ _ => (Zb (mv 1)))))
      (Zt (Zcp (Zcs 6 (Zr (Zx G_fraction (hr.mono (by decide)) (by rfl) T.m_fraction T.F_fraction.kp T.b_fraction Ye (Za (Zbw Z2m (Zf4 Zyh (Zo2 rfl (by rfl)) (by rfl) T.z_sum L2.B.boot_sum (Za (Zb (mv 9)) (Zj Zi)))) (Za (Zb (mv 3)) (Zj Zi))))))))))))
      (Zt (Zqa (Zpi 6 (Yy (Y4 (Zr (Zx G_table_of_pairs (hr.mono (by decide)) (by rfl) T.m_table_of_pairs T.F_table_of_pairs.kp T.b_table_of_pairs Ye (Za (Zb (mv 0)) (Za (Zb (mv 6)) (Zj Zi))))))))))))))))))))))
theorem Zao : Z6 ["table", "cuts", "own", "apart"] ["table", "cuts"] (Zf Zbj) := ⟨rfl, rfl, rfl, by decide +kernel, rfl, by decide +kernel, by decide +kernel⟩
theorem Zlx {f : Nat → Addr} {fd : Nat → FuncData} {cls : Nat → Addr} (T : Txt K mg f fd cls) : FnOk P w K mg base CX0 5 (f 33) (fd 33) ["table", "cuts"] (spD K (sD Wn)) := by
  have G_distances_of := Zdf (P := P) (w := w) (base := base) T
  have G_greatest_of := Zed (P := P) (w := w) (base := base) T
  have GX_greatest_of := Zdu (P := P) (w := w) (base := base) T
  have G_minus := Zl9 (P := P) (w := w) (base := base) T
  have G_table_of := Zhn (P := P) (w := w) (base := base) T
  refine Y0 T.F_fault_of Zao (S := Zcb) rfl rfl (fun cdv A outer s H E hr => ?_)
  have hu := hr.units
  exact (Zu (Zk (Yk (Yh (i := 2) Zao.nd rfl (Or.inl rfl) (Zr (Zx G_table_of (hr.mono (by decide)) (by rfl) T.m_table_of T.F_table_of.kp T.b_table_of Ye (Za (Zbw Zli (Zf4 Zg3 (Zb2 rfl) (by rfl) T.z_len L2.B.boot_len (Za (Zb (mv 0)) (Zj Zi)))) (Za (Zb (mv 1)) (Zj Zi)))))))
      (Zu (Zk (Zep (Jq (i := 3) (own := ["q", "r"]) (caps := []) (N' := ["q", "r"])  false Zao.nd rfl (Or.inl rfl) (by exact ⟨rfl, by decide +kernel, rfl, by decide +kernel, rfl, rfl⟩) (by rfl) (by decide) (Zen (Zex (by rfl) T.z_zip L2.B.boot_zip (Za (Zr (Zx G_distances_of (hr.mono (by decide)) (by rfl) T.m_distances_of T.F_distances_of.kp T.b_distances_of Ye (Za (Zb (mv 0)) (Zj Zi)))) (Za (Zr (Zx G_distances_of (hr.mono (by decide)) (by rfl) T.m_distances_of T.F_distances_of.kp T.b_distances_of Ye (Za (Zb (mv 2)) (Zj Zi)))) (Zj Zi))))) (fun _ _ _ _ _ => (Zco (Zcr (n := 2) (by rfl) (Yj (Yg (Z2 (Z1 (i := 0) (by show List.Nodup (["q", "r"] : List Str); decide +kernel))) (Yj (Yg (Z2 (Z1 (i := 1) (by show List.Nodup (["q", "r"] : List Str); decide +kernel))) (Zau Za1)))))))) (fun _ _ _ _ _ => (Jo Jj)) (fun _ _ _ _ _ => (Zr (Zx G_minus (hr.mono (by decide)) (by rfl) T.m_minus T.F_minus.kp T.b_minus Ye (Za (Zb (mv 0)) (Za (Zb (mv 1)) (Zj Zi))))))))
      (Zt (Z2i (Yy (Y4 (Zr (Zx G_greatest_of (hr.mono (by decide)) (by rfl) T.m_greatest_of T.F_greatest_of.kp T.b_greatest_of Ye (Za (Zcw (Ze2 (own := ["q"]) (caps := []) (N' := ["q"]) (by exact ⟨rfl, by decide +kernel, rfl, by decide +kernel, rfl, rfl⟩) (by rfl) (by decide) (J5 (J4 (Zb (mv 3)))) (fun _ _ _ _ _ => (Z2 (Z1 (i := 0) (by show List.Nodup (["q"] : List Str); decide +kernel)))) (fun _ _ _ _ _ => (Jo Jj)) (fun _ _ _ _ _ => (Zbd (Zd9 (Za (Zbw Zqt (Zf4 Zka Zfe (by rfl) T.z_abs L2.B.boot_abs (Za (Ym (Z3 Za0 (Zat (Zw rfl) Yr (Zb (mv 0)) (Yd Zg) (hs := fun _ _ => rfl)))) (Zj Zi)))) (Za (Ym (Z3 Za0 (Zat (Zw rfl) Yr (Zb (mv 0)) (Yd Zg) (hs := fun _ _ => rfl)))) (Zj Zi)))))))) (Zj Zi))))))))))))
theorem Zj5 {f : Nat → Addr} {fd : Nat → FuncData} {cls : Nat → Addr} (T : Txt K mg f fd cls) : FnOk P w K mg base (CX1 P w) 5 (f 33) (fd 33) ["table", "cuts"] (spX K (sX K Wn)) := by
  have G_distances_of := Zdf (P := P) (w := w) (base := base) T
  have G_greatest_of := Zed (P := P) (w := w) (base := base) T
  have GX_greatest_of := Zdu (P := P) (w := w) (base := base) T
  have G_minus := Zl9 (P := P) (w := w) (base := base) T
  have G_table_of := Zhn (P := P) (w := w) (base := base) T
  refine Zqj T.F_fault_of Zao (S := Zcb) rfl rfl (fun cdv A outer s H E hr => ?_)
  have hu := hr.units
  exact (Zl6 (Zxa _) (Yk (Yh (i := 2) Zao.nd rfl (Or.inl rfl) (Zr (Zx G_table_of (hr.mono (by decide)) (by rfl) T.m_table_of T.F_table_of.kp T.b_table_of Ye (Za (Zbw Zli (Zf4 Zg3 (Zb2 rfl) (by rfl) T.z_len L2.B.boot_len (Za (Zb (mv 0)) (Zj Zi)))) (Za (Zb (mv 1)) (Zj Zi))))))) (Zl6 (Zxa _) (Zep (Jq (i := 3) (own := ["q", "r"]) (caps := []) (N' := ["q", "r"])  false Zao.nd rfl (Or.inl rfl) (by exact ⟨rfl, by decide +kernel, rfl, by decide +kernel, rfl, rfl⟩) (by rfl) (by decide) (Zen (Zex (by rfl) T.z_zip L2.B.boot_zip (Za (Zr (Zx G_distances_of (hr.mono (by decide)) (by rfl) T.m_distances_of T.F_distances_of.kp T.b_distances_of Ye (Za (Zb (mv 0)) (Zj Zi)))) (Za (Zr (Zx G_distances_of (hr.mono (by decide)) (by rfl) T.m_distances_of T.F_distances_of.kp T.b_distances_of Ye (Za (Zb (mv 2)) (Zj Zi)))) (Zj Zi))))) (fun _ _ _ _ _ => (Zco (Zcr (n := 2) (by rfl) (Yj (Yg (Z2 (Z1 (i := 0) (by show List.Nodup (["q", "r"] : List Str); decide +kernel))) (Yj (Yg (Z2 (Z1 (i := 1) (by show List.Nodup (["q", "r"] : List Str); decide +kernel))) (Zau Za1)))))))) (fun _ _ _ _ _ => (Jo Jj)) (fun _ _ _ _ _ => (Zr (Zx G_minus (hr.mono (by decide)) (by rfl) T.m_minus T.F_minus.kp T.b_minus Ye (Za (Zb (mv 0)) (Za (Zb (mv 1)) (Zj Zi)))))))) (Zlc (Ztv (Zoa (Zqm GX_greatest_of (hr.mono (by decide)) (by rfl) T.m_greatest_of T.F_greatest_of.kp T.b_greatest_of (Za (Zcw (Ze2 (own := ["q"]) (caps := []) (N' := ["q"]) (by exact ⟨rfl, by decide +kernel, rfl, by decide +kernel, rfl, rfl⟩) (by rfl) (by decide) (J5 (J4 (Zb (mv 3)))) (fun _ _ _ _ _ => (Z2 (Z1 (i := 0) (by show List.Nodup (["q"] : List Str); decide +kernel)))) (fun _ _ _ _ _ => (Jo Jj)) (fun _ _ _ _ _ => (Zbd (Zd9 (Za (Zbw Zqt (Zf4 Zka Zfe (by rfl) T.z_abs L2.B.boot_abs (Za (Ym (Z3 Za0 (Zat (Zw rfl) Yr (Zb (mv 0)) (Yd Zg) (hs := fun _ _ => rfl)))) (Zj Zi)))) (Za (Ym (Z3 Za0 (Zat (Zw rfl) Yr (Zb (mv 0)) (Yd Zg) (hs := fun _ _ => rfl)))) (Zj Zi)))))))) (Zj Zi))))))))
theorem Zeg : Z6 ["script", "n", "numbers", "by", "distances", "weighted", "table", "handed", "given", "found"] ["script"] (Zf Zgk) := ⟨rfl, rfl, rfl, by decide +kernel, rfl, by decide +kernel, by decide +kernel⟩
theorem Zyb {f : Nat → Addr} {fd : Nat → FuncData} {cls : Nat → Addr} (T : Txt K mg f fd cls) : FnOk P w K mg base CX0 6 (f 34) (fd 34) ["script"] (spD K (sD Zfs)) := by
  have G_law_bottom := Ziv (P := P) (w := w) (base := base) T
  have G_law_cell_at := Zcl (P := P) (w := w) (base := base) T
  have G_law_digits := Zfc (P := P) (w := w) (base := base) T
  have G_law_distances := Zgj (P := P) (w := w) (base := base) T
  have G_law_drawn := Zge (P := P) (w := w) (base := base) T
  have G_law_fault := Zjp (P := P) (w := w) (base := base) T
  have G_law_is_fraction := Ze8 (P := P) (w := w) (base := base) T
  have G_law_rows := Zlw (P := P) (w := w) (base := base) T
  have G_law_sums := Zhg (P := P) (w := w) (base := base) T
  have G_fault_of := Zlx (P := P) (w := w) (base := base) T
  have GX_fault_of := Zj5 (P := P) (w := w) (base := base) T
  refine Y0 T.F_law Zeg (S := Zic) rfl rfl (fun cdv A outer s H E hr => ?_)
  have hu := hr.units
  exact (Zu (Zk (Yk (Yh (i := 1) Zeg.nd rfl (Or.inl rfl) (Zo Zg1 (Yb Zd5 Jk (Yd Zg) (Zo Zc0 (Yb Wv Zaa (Zr (Zx G_law_cell_at (hr.mono (by decide)) (by rfl) T.m_law_cell_at T.F_law_cell_at.kp T.b_law_cell_at Ye (Za (Zb (mv 0)) (Za (Yd Zg) (Zj Zi))))) (Yd Zg)))))))
      (Zu (Zk (Yk (Yh (i := 2) Zeg.nd rfl (Or.inl rfl) (Zr (Zx G_law_digits (hr.mono (by decide)) (by rfl) T.m_law_digits T.F_law_digits.kp T.b_law_digits Ye (Za (Zr (Zx G_law_cell_at (hr.mono (by decide)) (by rfl) T.m_law_cell_at T.F_law_cell_at.kp T.b_law_cell_at Ye (Za (Zb (mv 0)) (Za (Yd Zg) (Zj Zi))))) (Za (Yd Zg) (Za (Zo Zlr (Yb Zeo Zgz (Yd Zg) (Yd Zg))) (Zj Zi))))))))
      (Zu (Zk (Yk (Yh (i := 3) Zeg.nd rfl (Or.inl rfl) (Zr (Zx G_law_bottom (hr.mono (by decide)) (by rfl) T.m_law_bottom T.F_law_bottom.kp T.b_law_bottom Ye (Za (Ym (Z3 Za0 (Zat (Zw rfl) Yr (Zb (mv 2)) (Yd Zg) (hs := fun _ _ => rfl)))) (Zj Zi))))))
      (Zu (Zk (Yk (Yh (i := 4) Zeg.nd rfl (Or.inl rfl) (Zr (Zx G_law_distances (hr.mono (by decide)) (by rfl) T.m_law_distances T.F_law_distances.kp T.b_law_distances Ye (Za (Zb (mv 0)) (Za (Zb (mv 1)) (Za (Zb (mv 3)) (Zj Zi))))))))
      (Zu (Zk (Yk (Yh (i := 5) Zeg.nd rfl (Or.inl rfl) (Zr (Zx G_law_drawn (hr.mono (by decide)) (by rfl) T.m_law_drawn T.F_law_drawn.kp T.b_law_drawn Ye (Za (Zb (mv 1)) (Za (Zwq (Zw8 (Zb (mv 2)) (Ziw (Zi4 (Yd Zg))) (Zoh Zpg))) (Za (Zo Zc0 (Yb Wv Zaa (Ym (Z3 Za0 (Zat (Zw rfl) Yr (Zb (mv 2)) (Yd Zg) (hs := fun _ _ => rfl)))) (Yd Zg))) (Za (Zb (mv 3)) (Zj Zi)))))))))
      (Zu (Zk (Yk (Yh (i := 6) Zeg.nd rfl (Or.inl rfl) (Zr (Zx G_law_rows (hr.mono (by decide)) (by rfl) T.m_law_rows T.F_law_rows.kp T.b_law_rows Ye (Za (Zb (mv 1)) (Za (Zb (mv 4)) (Zj Zi)))))))
      (Zu (Zk (Zep (Jq (i := 7) (own := ["row"]) (caps := []) (N' := ["row"])  false Zeg.nd rfl (Or.inl rfl) (by exact ⟨rfl, by decide +kernel, rfl, by decide +kernel, rfl, rfl⟩) (by rfl) (by decide) (J5 (J4 (Zb (mv 6)))) (fun _ _ _ _ _ => (Z2 (Z1 (i := 0) (by show List.Nodup (["row"] : List Str); decide +kernel)))) (fun _ _ _ _ _ => (Jo Jj)) (fun _ _ _ _ _ => (Zwk Ztx (Z46 Zq0 (Zh2 rfl) (by rfl) T.z_list L2.B.boot_list (Za (Zb (mv 0)) (Zj Zi)))))))
      (Zu (Zk (Zep (Jq (i := 8) (own := ["cut", "weight"]) (caps := []) (N' := ["cut", "weight"])  false Zeg.nd rfl (Or.inl rfl) (by exact ⟨rfl, by decide +kernel, rfl, by decide +kernel, rfl, rfl⟩) (by rfl) (by decide) (J5 (J4 (Zb (mv 5)))) (fun _ _ _ _ _ => (Zco (Zcr (n := 2) (by rfl) (Yj (Yg (Z2 (Z1 (i := 0) (by show List.Nodup (["cut", "weight"] : List Str); decide +kernel))) (Yj (Yg (Z2 (Z1 (i := 1) (by show List.Nodup (["cut", "weight"] : List Str); decide +kernel))) (Zau Za1)))))))) (fun _ _ _ _ _ => (Jo Jj)) (fun _ _ _ _ _ => (Zbd (Zd9 (Za (Zwk Ztx (Z46 Zq0 (Zh2 rfl) (by rfl) T.z_list L2.B.boot_list (Za (Zb (mv 0)) (Zj Zi)))) (Za (Zb (mv 1)) (Zj Zi))))))))
      (Zu (Zk (Z2i (Yk (Yh (i := 9) Zeg.nd rfl (Or.inl rfl) (Zr (Zx G_fault_of (hr.mono (by decide)) (by rfl) T.m_fault_of T.F_fault_of.kp T.b_fault_of Ye (Za (Zb (mv 7)) (Za (Zb (mv 8)) (Zj Zi))))))))
      (Zu (Zk (Zdp (Zd4 (MW.mt (Zgh (Zgg (Zeb (Zee (Zdj (Zdv (Zr (Zx G_law_is_fraction (hr.mono (by decide)) (by rfl) T.m_law_is_fraction T.F_law_is_fraction.kp T.b_law_is_fraction Ye (Za (Zb (mv 9)) (Zj Zi)))) (fun _ => rfl))))) (Zid (Jb Zrn (Je (Zfb hu) Zi0 (Zb (mv 9)) (Zr (Zx G_law_fault (hr.mono (by decide)) (by rfl) T.m_law_fault T.F_law_fault.kp T.b_law_fault Ye (Za (Zb (mv 4)) (Za (Zr (Zx G_law_sums (hr.mono (by decide)) (by rfl) T.m_law_sums T.F_law_sums.kp T.b_law_sums Ye (Za (Zb (mv 1)) (Za (Zb (mv 5)) (Zj Zi))))) (Zj Zi))))) (hm := (Wo _)))))))) (Zt (Yy (Y4 (Yd Zwf)))) (Jh Ji)))
      (Zu (Zk (Zdp (Zd4 (MW.mt (Zgh (Zgg (Jb Zrn (Je (Zfb hu) Zi0 (Zb (mv 7)) (Zb (mv 6)) (hm := (Wo _)))) (Zgh (Zgg (Jb Zrn (Je (Zfb hu) Zi0 (Zb (mv 8)) (Zb (mv 5)) (hm := (Wo _)))) (Zid (Jb Zrn (Je (Zfb hu) Zi0 (Zr (Zx G_fault_of (hr.mono (by decide)) (by rfl) T.m_fault_of T.F_fault_of.kp T.b_fault_of Ye (Za (Zb (mv 7)) (Za (Zb (mv 8)) (Zj Zi))))) (Zb (mv 9)) (hm := (Wo _)))))))))) (Zt (Yy (Y4 (Yd Zwf)))) (Jh Ji)))
      (Zt (Yy (Y4 (Zo Zvi (Zng (Zgy hu) Zlq (Zr (Zx G_fault_of (hr.mono (by decide)) (by rfl) T.m_fault_of T.F_fault_of.kp T.b_fault_of Ye (Za (Zr (Zx G_law_rows (hr.mono (by decide)) (by rfl) T.m_law_rows T.F_law_rows.kp T.b_law_rows Ye (Za (Zb (mv 1)) (Za (Zr (Zx G_law_sums (hr.mono (by decide)) (by rfl) T.m_law_sums T.F_law_sums.kp T.b_law_sums Ye (Za (Zb (mv 1)) (Za (Zb (mv 5)) (Zj Zi))))) (Zj Zi))))) (Za (Zb (mv 8)) (Zj Zi))))) (Zbd (Zd9 (Za (Yd Zg) (Za (Yd Zg) (Zj Zi))))) (hm := (Wo _)))))))))))))))))))))))))))))
theorem Zws {f : Nat → Addr} {fd : Nat → FuncData} {cls : Nat → Addr} (T : Txt K mg f fd cls) : FnOk P w K mg base CX0 6 (f 34) (fd 34) ["script"] (spD K Zzt) := (Zyb T).imp fun vs H Q E q => by
  obtain ⟨L, ds, k, h1, ⟨ns, e, hl, hk⟩, h3⟩ := q
  exact ⟨L, ds, k, h1, ⟨_, by rw [e]; exact Zsu ns hl, hk⟩, h3⟩
end
theorem Z1e {l : PySem.W.OpenLaw} {w : World} {K : PySem.W.Frag} {h : Heap} {mg : Str → Option Value} {fa : Addr} {C_NoNumber : Addr} (X : K.In h) (G : h.Ns mainGlobals mg) (hfa : mg "law" = some (.ref fa))
    {f1 : Addr} {od1 an1 : Option Addr} {sl1 : Array (Option Value)} {oc1 kV1 dc1 pm1 cd1 ct1 : Value}
    {f2 : Addr} {od2 an2 : Option Addr} {sl2 : Array (Option Value)} {oc2 kV2 dc2 pm2 cd2 ct2 : Value}
    {f3 : Addr} {od3 an3 : Option Addr} {sl3 : Array (Option Value)} {oc3 kV3 dc3 pm3 cd3 ct3 : Value}
    {f4 : Addr} {od4 an4 : Option Addr} {sl4 : Array (Option Value)} {oc4 kV4 dc4 pm4 cd4 ct4 : Value}
    {f5 : Addr} {od5 an5 : Option Addr} {sl5 : Array (Option Value)} {oc5 kV5 dc5 pm5 cd5 ct5 : Value}
    {f6 : Addr} {od6 an6 : Option Addr} {sl6 : Array (Option Value)} {oc6 kV6 dc6 pm6 cd6 ct6 : Value}
    {f7 : Addr} {od7 an7 : Option Addr} {sl7 : Array (Option Value)} {oc7 kV7 dc7 pm7 cd7 ct7 : Value}
    {f8 : Addr} {od8 an8 : Option Addr} {sl8 : Array (Option Value)} {oc8 kV8 dc8 pm8 cd8 ct8 : Value}
    {f9 : Addr} {od9 an9 : Option Addr} {sl9 : Array (Option Value)} {oc9 kV9 dc9 pm9 cd9 ct9 : Value}
    {f10 : Addr} {od10 an10 : Option Addr} {sl10 : Array (Option Value)} {oc10 kV10 dc10 pm10 cd10 ct10 : Value}
    {f11 : Addr} {od11 an11 : Option Addr} {sl11 : Array (Option Value)} {oc11 kV11 dc11 pm11 cd11 ct11 : Value}
    {f12 : Addr} {od12 an12 : Option Addr} {sl12 : Array (Option Value)} {oc12 kV12 dc12 pm12 cd12 ct12 : Value}
    {f13 : Addr} {od13 an13 : Option Addr} {sl13 : Array (Option Value)} {oc13 kV13 dc13 pm13 cd13 ct13 : Value}
    {f14 : Addr} {od14 an14 : Option Addr} {sl14 : Array (Option Value)} {oc14 kV14 dc14 pm14 cd14 ct14 : Value}
    {f15 : Addr} {od15 an15 : Option Addr} {sl15 : Array (Option Value)} {oc15 kV15 dc15 pm15 cd15 ct15 : Value}
    {f16 : Addr} {od16 an16 : Option Addr} {sl16 : Array (Option Value)} {oc16 kV16 dc16 pm16 cd16 ct16 : Value}
    {f17 : Addr} {od17 an17 : Option Addr} {sl17 : Array (Option Value)} {oc17 kV17 dc17 pm17 cd17 ct17 : Value}
    {f18 : Addr} {od18 an18 : Option Addr} {sl18 : Array (Option Value)} {oc18 kV18 dc18 pm18 cd18 ct18 : Value}
    {f19 : Addr} {od19 an19 : Option Addr} {sl19 : Array (Option Value)} {oc19 kV19 dc19 pm19 cd19 ct19 : Value}
    {f20 : Addr} {od20 an20 : Option Addr} {sl20 : Array (Option Value)} {oc20 kV20 dc20 pm20 cd20 ct20 : Value}
    {f21 : Addr} {od21 an21 : Option Addr} {sl21 : Array (Option Value)} {oc21 kV21 dc21 pm21 cd21 ct21 : Value}
    {f22 : Addr} {od22 an22 : Option Addr} {sl22 : Array (Option Value)} {oc22 kV22 dc22 pm22 cd22 ct22 : Value}
    {f23 : Addr} {od23 an23 : Option Addr} {sl23 : Array (Option Value)} {oc23 kV23 dc23 pm23 cd23 ct23 : Value}
    {f24 : Addr} {od24 an24 : Option Addr} {sl24 : Array (Option Value)} {oc24 kV24 dc24 pm24 cd24 ct24 : Value}
    {f25 : Addr} {od25 an25 : Option Addr} {sl25 : Array (Option Value)} {oc25 kV25 dc25 pm25 cd25 ct25 : Value}
    {f26 : Addr} {od26 an26 : Option Addr} {sl26 : Array (Option Value)} {oc26 kV26 dc26 pm26 cd26 ct26 : Value}
    {f27 : Addr} {od27 an27 : Option Addr} {sl27 : Array (Option Value)} {oc27 kV27 dc27 pm27 cd27 ct27 : Value}
    {f28 : Addr} {od28 an28 : Option Addr} {sl28 : Array (Option Value)} {oc28 kV28 dc28 pm28 cd28 ct28 : Value}
    {f29 : Addr} {od29 an29 : Option Addr} {sl29 : Array (Option Value)} {oc29 kV29 dc29 pm29 cd29 ct29 : Value}
    {f30 : Addr} {od30 an30 : Option Addr} {sl30 : Array (Option Value)} {oc30 kV30 dc30 pm30 cd30 ct30 : Value}
    {f31 : Addr} {od31 an31 : Option Addr} {sl31 : Array (Option Value)} {oc31 kV31 dc31 pm31 cd31 ct31 : Value}
    {f32 : Addr} {od32 an32 : Option Addr} {sl32 : Array (Option Value)} {oc32 kV32 dc32 pm32 cd32 ct32 : Value}
    {f33 : Addr} {od33 an33 : Option Addr} {sl33 : Array (Option Value)} {oc33 kV33 dc33 pm33 cd33 ct33 : Value}
    {f34 : Addr} {od34 an34 : Option Addr} {sl34 : Array (Option Value)} {oc34 kV34 dc34 pm34 cd34 ct34 : Value}
    {f35 : Addr} {od35 an35 : Option Addr} {sl35 : Array (Option Value)} {oc35 kV35 dc35 pm35 cd35 ct35 : Value}
    (a1 : PySem.W.nsIn K mainGlobals "_law_bottom" = some (some (.ref f1))) (l1 : K.lookup f1 = some ⟨oc1, od1, .func (PySem.W.fnOf "_law_bottom" "_law_bottom" (Z8 J8) (Z0 J8) (Zf J8) .none kV1 dc1 pm1 an1 cd1 ct1), sl1⟩) (c1 : PySem.W.codeIn K cd1 "_law_bottom" = true) (k1 : PySem.W.keepIn K (.ref f1) = true)
    (a2 : PySem.W.nsIn K mainGlobals "_law_cell_at" = some (some (.ref f2))) (l2 : K.lookup f2 = some ⟨oc2, od2, .func (PySem.W.fnOf "_law_cell_at" "_law_cell_at" (Z8 Jp) (Z0 Jp) (Zf Jp) .none kV2 dc2 pm2 an2 cd2 ct2), sl2⟩) (c2 : PySem.W.codeIn K cd2 "_law_cell_at" = true) (k2 : PySem.W.keepIn K (.ref f2) = true)
    (a3 : PySem.W.nsIn K mainGlobals "_law_digits" = some (some (.ref f3))) (l3 : K.lookup f3 = some ⟨oc3, od3, .func (PySem.W.fnOf "_law_digits" "_law_digits" (Z8 J6) (Z0 J6) (Zf J6) .none kV3 dc3 pm3 an3 cd3 ct3), sl3⟩) (c3 : PySem.W.codeIn K cd3 "_law_digits" = true) (k3 : PySem.W.keepIn K (.ref f3) = true)
    (a4 : PySem.W.nsIn K mainGlobals "_law_common" = some (some (.ref f4))) (l4 : K.lookup f4 = some ⟨oc4, od4, .func (PySem.W.fnOf "_law_common" "_law_common" (Z8 J9) (Z0 J9) (Zf J9) .none kV4 dc4 pm4 an4 cd4 ct4), sl4⟩) (c4 : PySem.W.codeIn K cd4 "_law_common" = true) (k4 : PySem.W.keepIn K (.ref f4) = true)
    (a5 : PySem.W.nsIn K mainGlobals "_law_fraction" = some (some (.ref f5))) (l5 : K.lookup f5 = some ⟨oc5, od5, .func (PySem.W.fnOf "_law_fraction" "_law_fraction" (Z8 W7) (Z0 W7) (Zf W7) .none kV5 dc5 pm5 an5 cd5 ct5), sl5⟩) (c5 : PySem.W.codeIn K cd5 "_law_fraction" = true) (k5 : PySem.W.keepIn K (.ref f5) = true)
    (a6 : PySem.W.nsIn K mainGlobals "_law_distance" = some (some (.ref f6))) (l6 : K.lookup f6 = some ⟨oc6, od6, .func (PySem.W.fnOf "_law_distance" "_law_distance" (Z8 W8) (Z0 W8) (Zf W8) .none kV6 dc6 pm6 an6 cd6 ct6), sl6⟩) (c6 : PySem.W.codeIn K cd6 "_law_distance" = true) (k6 : PySem.W.keepIn K (.ref f6) = true)
    (a7 : PySem.W.nsIn K mainGlobals "_law_cuts" = some (some (.ref f7))) (l7 : K.lookup f7 = some ⟨oc7, od7, .func (PySem.W.fnOf "_law_cuts" "_law_cuts" (Z8 Zbn) (Z0 Zbn) (Zf Zbn) .none kV7 dc7 pm7 an7 cd7 ct7), sl7⟩) (c7 : PySem.W.codeIn K cd7 "_law_cuts" = true) (k7 : PySem.W.keepIn K (.ref f7) = true)
    (a8 : PySem.W.nsIn K mainGlobals "_law_drawn" = some (some (.ref f8))) (l8 : K.lookup f8 = some ⟨oc8, od8, .func (PySem.W.fnOf "_law_drawn" "_law_drawn" (Z8 Za3) (Z0 Za3) (Zf Za3) .none kV8 dc8 pm8 an8 cd8 ct8), sl8⟩) (c8 : PySem.W.codeIn K cd8 "_law_drawn" = true) (k8 : PySem.W.keepIn K (.ref f8) = true)
    (a9 : PySem.W.nsIn K mainGlobals "_law_numbers" = some (some (.ref f9))) (l9 : K.lookup f9 = some ⟨oc9, od9, .func (PySem.W.fnOf "_law_numbers" "_law_numbers" (Z8 Js) (Z0 Js) (Zf Js) .none kV9 dc9 pm9 an9 cd9 ct9), sl9⟩) (c9 : PySem.W.codeIn K cd9 "_law_numbers" = true) (k9 : PySem.W.keepIn K (.ref f9) = true)
    (a10 : PySem.W.nsIn K mainGlobals "_law_plus" = some (some (.ref f10))) (l10 : K.lookup f10 = some ⟨oc10, od10, .func (PySem.W.fnOf "_law_plus" "_law_plus" (Z8 Zbp) (Z0 Zbp) (Zf Zbp) .none kV10 dc10 pm10 an10 cd10 ct10), sl10⟩) (c10 : PySem.W.codeIn K cd10 "_law_plus" = true) (k10 : PySem.W.keepIn K (.ref f10) = true)
    (a11 : PySem.W.nsIn K mainGlobals "_law_pairs" = some (some (.ref f11))) (l11 : K.lookup f11 = some ⟨oc11, od11, .func (PySem.W.fnOf "_law_pairs" "_law_pairs" (Z8 Zaw) (Z0 Zaw) (Zf Zaw) .none kV11 dc11 pm11 an11 cd11 ct11), sl11⟩) (c11 : PySem.W.codeIn K cd11 "_law_pairs" = true) (k11 : PySem.W.keepIn K (.ref f11) = true)
    (a12 : PySem.W.nsIn K mainGlobals "_law_sums" = some (some (.ref f12))) (l12 : K.lookup f12 = some ⟨oc12, od12, .func (PySem.W.fnOf "_law_sums" "_law_sums" (Z8 Zbk) (Z0 Zbk) (Zf Zbk) .none kV12 dc12 pm12 an12 cd12 ct12), sl12⟩) (c12 : PySem.W.codeIn K cd12 "_law_sums" = true) (k12 : PySem.W.keepIn K (.ref f12) = true)
    (a13 : PySem.W.nsIn K mainGlobals "_law_distances" = some (some (.ref f13))) (l13 : K.lookup f13 = some ⟨oc13, od13, .func (PySem.W.fnOf "_law_distances" "_law_distances" (Z8 Wt) (Z0 Wt) (Zf Wt) .none kV13 dc13 pm13 an13 cd13 ct13), sl13⟩) (c13 : PySem.W.codeIn K cd13 "_law_distances" = true) (k13 : PySem.W.keepIn K (.ref f13) = true)
    (a14 : PySem.W.nsIn K mainGlobals "_law_below" = some (some (.ref f14))) (l14 : K.lookup f14 = some ⟨oc14, od14, .func (PySem.W.fnOf "_law_below" "_law_below" (Z8 Zaz) (Z0 Zaz) (Zf Zaz) .none kV14 dc14 pm14 an14 cd14 ct14), sl14⟩) (c14 : PySem.W.codeIn K cd14 "_law_below" = true) (k14 : PySem.W.keepIn K (.ref f14) = true)
    (a15 : PySem.W.nsIn K mainGlobals "_law_minus" = some (some (.ref f15))) (l15 : K.lookup f15 = some ⟨oc15, od15, .func (PySem.W.fnOf "_law_minus" "_law_minus" (Z8 Zaq) (Z0 Zaq) (Zf Zaq) .none kV15 dc15 pm15 an15 cd15 ct15), sl15⟩) (c15 : PySem.W.codeIn K cd15 "_law_minus" = true) (k15 : PySem.W.keepIn K (.ref f15) = true)
    (a16 : PySem.W.nsIn K mainGlobals "_law_fault" = some (some (.ref f16))) (l16 : K.lookup f16 = some ⟨oc16, od16, .func (PySem.W.fnOf "_law_fault" "_law_fault" (Z8 Zap) (Z0 Zap) (Zf Zap) .none kV16 dc16 pm16 an16 cd16 ct16), sl16⟩) (c16 : PySem.W.codeIn K cd16 "_law_fault" = true) (k16 : PySem.W.keepIn K (.ref f16) = true)
    (a17 : PySem.W.nsIn K mainGlobals "_law_whole" = some (some (.ref f17))) (l17 : K.lookup f17 = some ⟨oc17, od17, .func (PySem.W.fnOf "_law_whole" "_law_whole" (Z8 Zay) (Z0 Zay) (Zf Zay) .none kV17 dc17 pm17 an17 cd17 ct17), sl17⟩) (c17 : PySem.W.codeIn K cd17 "_law_whole" = true) (k17 : PySem.W.keepIn K (.ref f17) = true)
    (a18 : PySem.W.nsIn K mainGlobals "_law_is_fraction" = some (some (.ref f18))) (l18 : K.lookup f18 = some ⟨oc18, od18, .func (PySem.W.fnOf "_law_is_fraction" "_law_is_fraction" (Z8 Wa) (Z0 Wa) (Zf Wa) .none kV18 dc18 pm18 an18 cd18 ct18), sl18⟩) (c18 : PySem.W.codeIn K cd18 "_law_is_fraction" = true) (k18 : PySem.W.keepIn K (.ref f18) = true)
    (a19 : PySem.W.nsIn K mainGlobals "_law_rows" = some (some (.ref f19))) (l19 : K.lookup f19 = some ⟨oc19, od19, .func (PySem.W.fnOf "_law_rows" "_law_rows" (Z8 Zbo) (Z0 Zbo) (Zf Zbo) .none kV19 dc19 pm19 an19 cd19 ct19), sl19⟩) (c19 : PySem.W.codeIn K cd19 "_law_rows" = true) (k19 : PySem.W.keepIn K (.ref f19) = true)
    (a20 : PySem.W.nsIn K mainGlobals "pairs_of" = some (some (.ref f20))) (l20 : K.lookup f20 = some ⟨oc20, od20, .func (PySem.W.fnOf "pairs_of" "pairs_of" (Z8 Zbh) (Z0 Zbh) (Zf Zbh) .none kV20 dc20 pm20 an20 cd20 ct20), sl20⟩) (c20 : PySem.W.codeIn K cd20 "pairs_of" = true) (k20 : PySem.W.keepIn K (.ref f20) = true)
    (a21 : PySem.W.nsIn K mainGlobals "distances_of" = some (some (.ref f21))) (l21 : K.lookup f21 = some ⟨oc21, od21, .func (PySem.W.fnOf "distances_of" "distances_of" (Z8 W6) (Z0 W6) (Zf W6) .none kV21 dc21 pm21 an21 cd21 ct21), sl21⟩) (c21 : PySem.W.codeIn K cd21 "distances_of" = true) (k21 : PySem.W.keepIn K (.ref f21) = true)
    (a22 : PySem.W.nsIn K mainGlobals "greatest_divisor" = some (some (.ref f22))) (l22 : K.lookup f22 = some ⟨oc22, od22, .func (PySem.W.fnOf "greatest_divisor" "greatest_divisor" (Z8 Y6) (Z0 Y6) (Zf Y6) .none kV22 dc22 pm22 an22 cd22 ct22), sl22⟩) (c22 : PySem.W.codeIn K cd22 "greatest_divisor" = true) (k22 : PySem.W.keepIn K (.ref f22) = true)
    (a23 : PySem.W.nsIn K mainGlobals "in_least" = some (some (.ref f23))) (l23 : K.lookup f23 = some ⟨oc23, od23, .func (PySem.W.fnOf "in_least" "in_least" (Z8 Zbi) (Z0 Zbi) (Zf Zbi) .none kV23 dc23 pm23 an23 cd23 ct23), sl23⟩) (c23 : PySem.W.codeIn K cd23 "in_least" = true) (k23 : PySem.W.keepIn K (.ref f23) = true)
    (a24 : PySem.W.nsIn K mainGlobals "is_whole" = some (some (.ref f24))) (l24 : K.lookup f24 = some ⟨oc24, od24, .func (PySem.W.fnOf "is_whole" "is_whole" (Z8 Zbq) (Z0 Zbq) (Zf Zbq) .none kV24 dc24 pm24 an24 cd24 ct24), sl24⟩) (c24 : PySem.W.codeIn K cd24 "is_whole" = true) (k24 : PySem.W.keepIn K (.ref f24) = true)
    (a25 : PySem.W.nsIn K mainGlobals "fraction" = some (some (.ref f25))) (l25 : K.lookup f25 = some ⟨oc25, od25, .func (PySem.W.fnOf "fraction" "fraction" (Z8 Zbr) (Z0 Zbr) (Zf Zbr) .none kV25 dc25 pm25 an25 cd25 ct25), sl25⟩) (c25 : PySem.W.codeIn K cd25 "fraction" = true) (k25 : PySem.W.keepIn K (.ref f25) = true)
    (a26 : PySem.W.nsIn K mainGlobals "shared_bottom" = some (some (.ref f26))) (l26 : K.lookup f26 = some ⟨oc26, od26, .func (PySem.W.fnOf "shared_bottom" "shared_bottom" (Z8 Wq) (Z0 Wq) (Zf Wq) .none kV26 dc26 pm26 an26 cd26 ct26), sl26⟩) (c26 : PySem.W.codeIn K cd26 "shared_bottom" = true) (k26 : PySem.W.keepIn K (.ref f26) = true)
    (a27 : PySem.W.nsIn K mainGlobals "tops_over" = some (some (.ref f27))) (l27 : K.lookup f27 = some ⟨oc27, od27, .func (PySem.W.fnOf "tops_over" "tops_over" (Z8 Zar) (Z0 Zar) (Zf Zar) .none kV27 dc27 pm27 an27 cd27 ct27), sl27⟩) (c27 : PySem.W.codeIn K cd27 "tops_over" = true) (k27 : PySem.W.keepIn K (.ref f27) = true)
    (a28 : PySem.W.nsIn K mainGlobals "greatest_of" = some (some (.ref f28))) (l28 : K.lookup f28 = some ⟨oc28, od28, .func (PySem.W.fnOf "greatest_of" "greatest_of" (Z8 Jv) (Z0 Jv) (Zf Jv) .none kV28 dc28 pm28 an28 cd28 ct28), sl28⟩) (c28 : PySem.W.codeIn K cd28 "greatest_of" = true) (k28 : PySem.W.keepIn K (.ref f28) = true)
    (a29 : PySem.W.nsIn K mainGlobals "minus" = some (some (.ref f29))) (l29 : K.lookup f29 = some ⟨oc29, od29, .func (PySem.W.fnOf "minus" "minus" (Z8 Zf5) (Z0 Zf5) (Zf Zf5) .none kV29 dc29 pm29 an29 cd29 ct29), sl29⟩) (c29 : PySem.W.codeIn K cd29 "minus" = true) (k29 : PySem.W.keepIn K (.ref f29) = true)
    (a30 : PySem.W.nsIn K mainGlobals "sides_of" = some (some (.ref f30))) (l30 : K.lookup f30 = some ⟨oc30, od30, .func (PySem.W.fnOf "sides_of" "sides_of" (Z8 Zbm) (Z0 Zbm) (Zf Zbm) .none kV30 dc30 pm30 an30 cd30 ct30), sl30⟩) (c30 : PySem.W.codeIn K cd30 "sides_of" = true) (k30 : PySem.W.keepIn K (.ref f30) = true)
    (a31 : PySem.W.nsIn K mainGlobals "all_sides" = some (some (.ref f31))) (l31 : K.lookup f31 = some ⟨oc31, od31, .func (PySem.W.fnOf "all_sides" "all_sides" (Z8 Za2) (Z0 Za2) (Zf Za2) .none kV31 dc31 pm31 an31 cd31 ct31), sl31⟩) (c31 : PySem.W.codeIn K cd31 "all_sides" = true) (k31 : PySem.W.keepIn K (.ref f31) = true)
    (a32 : PySem.W.nsIn K mainGlobals "table_of_pairs" = some (some (.ref f32))) (l32 : K.lookup f32 = some ⟨oc32, od32, .func (PySem.W.fnOf "table_of_pairs" "table_of_pairs" (Z8 Wg) (Z0 Wg) (Zf Wg) .none kV32 dc32 pm32 an32 cd32 ct32), sl32⟩) (c32 : PySem.W.codeIn K cd32 "table_of_pairs" = true) (k32 : PySem.W.keepIn K (.ref f32) = true)
    (a33 : PySem.W.nsIn K mainGlobals "table_of" = some (some (.ref f33))) (l33 : K.lookup f33 = some ⟨oc33, od33, .func (PySem.W.fnOf "table_of" "table_of" (Z8 Zbl) (Z0 Zbl) (Zf Zbl) .none kV33 dc33 pm33 an33 cd33 ct33), sl33⟩) (c33 : PySem.W.codeIn K cd33 "table_of" = true) (k33 : PySem.W.keepIn K (.ref f33) = true)
    (a34 : PySem.W.nsIn K mainGlobals "fault_of" = some (some (.ref f34))) (l34 : K.lookup f34 = some ⟨oc34, od34, .func (PySem.W.fnOf "fault_of" "fault_of" (Z8 Zbj) (Z0 Zbj) (Zf Zbj) .none kV34 dc34 pm34 an34 cd34 ct34), sl34⟩) (c34 : PySem.W.codeIn K cd34 "fault_of" = true) (k34 : PySem.W.keepIn K (.ref f34) = true)
    (a35 : PySem.W.nsIn K mainGlobals "law" = some (some (.ref f35))) (l35 : K.lookup f35 = some ⟨oc35, od35, .func (PySem.W.fnOf "law" "law" (Z8 Zgk) (Z0 Zgk) (Zf Zgk) .none kV35 dc35 pm35 an35 cd35 ct35), sl35⟩) (c35 : PySem.W.codeIn K cd35 "law" = true) (k35 : PySem.W.keepIn K (.ref f35) = true)
    (z_abs : PySem.W.nsIn K mainGlobals "abs" = some none)
    (z_bool : PySem.W.nsIn K mainGlobals "bool" = some none)
    (z_int : PySem.W.nsIn K mainGlobals "int" = some none)
    (z_isinstance : PySem.W.nsIn K mainGlobals "isinstance" = some none)
    (z_len : PySem.W.nsIn K mainGlobals "len" = some none)
    (z_list : PySem.W.nsIn K mainGlobals "list" = some none)
    (z_max : PySem.W.nsIn K mainGlobals "max" = some none)
    (z_range : PySem.W.nsIn K mainGlobals "range" = some none)
    (z_sorted : PySem.W.nsIn K mainGlobals "sorted" = some none)
    (z_sum : PySem.W.nsIn K mainGlobals "sum" = some none)
    (z_tuple : PySem.W.nsIn K mainGlobals "tuple" = some none)
    (z_zip : PySem.W.nsIn K mainGlobals "zip" = some none)
    (cc_NoNumber : PySem.W.nsIn K mainGlobals "NoNumber" = some (some (.ref C_NoNumber)))
    (r_NoNumber : Zw9 K C_NoNumber)
    (x_NoNumber_ga : PySem.W.findIn K (.ref C_NoNumber) "__getattribute__" = some (some (.builtin "BaseException.__getattribute__")))
    (x_NoNumber_gt : PySem.W.findIn K (.ref C_NoNumber) "__getattr__" = some none)
    (x_NoNumber_cl : PySem.W.findIn K (.ref C_NoNumber) "__class__" = some (some (.builtin "object.__class__")))
    (x_NoNumber_isB : PySem.W.subIn K (.ref C_NoNumber) (.type "BaseException") = some true)
    (x_NoNumber_isO : PySem.W.subIn K (.ref C_NoNumber) (.type "object") = some true)
    (x_NoNumber_isC : PySem.W.isClsIn K C_NoNumber = true)
    (x_NoNumber_k1 : PySem.W.kitOne K (.ref C_NoNumber) (.type "int") = some false)
    (x_NoNumber_k2 : PySem.W.kitOne K (.ref C_NoNumber) (.type "bool") = some false)
    (x_NoNumber_k3 : PySem.W.kitOne K (.ref C_NoNumber) (.type "str") = some false)
    (x_NoNumber_k4 : PySem.W.kitOne K (.ref C_NoNumber) (.type "list") = some false)
    (x_NoNumber_k5 : PySem.W.kitOne K (.ref C_NoNumber) (.type "tuple") = some false)
    : ∃ fd : FuncData, (∀ (s : Shared) (v : Value), BindsTo s fd ⟨[v], []⟩ [("script", v)]) ∧ ∀ base : Heap, K.In base → base.Ns mainGlobals mg → FnOk l.prog w K mg base CX0 6 fa fd ["script"] (spD K Zzt) := by
  have e := hfa.symm.trans (PySem.W.mg_of X G a35)
  cases e
  have F1 := Yw (st := J8) l1 c1 k1
  have b1 := F1.binds (ps := ["number"]) fun _ _ _ _ _ _ us hl => Zqs (P := fun us => PySem.bindArgs _ { pos := us } = pure (List.zip _ us)) (fun _ => rfl) us hl
  have F2 := Yw (st := Jp) l2 c2 k2
  have b2 := F2.binds (ps := ["script", "k"]) fun _ _ _ _ _ _ us hl => Zib (P := fun us => PySem.bindArgs _ { pos := us } = pure (List.zip _ us)) (fun _ _ => rfl) us hl
  have F3 := Yw (st := J6) l3 c3 k3
  have b3 := F3.binds (ps := ["cell", "many", "top"]) fun _ _ _ _ _ _ us hl => Z2g (P := fun us => PySem.bindArgs _ { pos := us } = pure (List.zip _ us)) (fun _ _ _ => rfl) us hl
  have F4 := Yw (st := J9) l4 c4 k4
  have b4 := F4.binds (ps := ["one", "other"]) fun _ _ _ _ _ _ us hl => Zib (P := fun us => PySem.bindArgs _ { pos := us } = pure (List.zip _ us)) (fun _ _ => rfl) us hl
  have F5 := Yw (st := W7) l5 c5 k5
  have b5 := F5.binds (ps := ["top", "bottom"]) fun _ _ _ _ _ _ us hl => Zib (P := fun us => PySem.bindArgs _ { pos := us } = pure (List.zip _ us)) (fun _ _ => rfl) us hl
  have F6 := Yw (st := W8) l6 c6 k6
  have b6 := F6.binds (ps := ["number", "by"]) fun _ _ _ _ _ _ us hl => Zib (P := fun us => PySem.bindArgs _ { pos := us } = pure (List.zip _ us)) (fun _ _ => rfl) us hl
  have F7 := Yw (st := Zbn) l7 c7 k7
  have b7 := F7.binds (ps := ["n"]) fun _ _ _ _ _ _ us hl => Zqs (P := fun us => PySem.bindArgs _ { pos := us } = pure (List.zip _ us)) (fun _ => rfl) us hl
  have F8 := Yw (st := Za3) l8 c8 k8
  have b8 := F8.binds (ps := ["n", "numbers", "thin", "by"]) fun _ _ _ _ _ _ us hl => Z64 (P := fun us => PySem.bindArgs _ { pos := us } = pure (List.zip _ us)) (fun _ _ _ _ => rfl) us hl
  have F9 := Yw (st := Js) l9 c9 k9
  have b9 := F9.binds (ps := ["script", "at", "many"]) fun _ _ _ _ _ _ us hl => Z2g (P := fun us => PySem.bindArgs _ { pos := us } = pure (List.zip _ us)) (fun _ _ _ => rfl) us hl
  have F10 := Yw (st := Zbp) l10 c10 k10
  have b10 := F10.binds (ps := ["q", "r"]) fun _ _ _ _ _ _ us hl => Zib (P := fun us => PySem.bindArgs _ { pos := us } = pure (List.zip _ us)) (fun _ _ => rfl) us hl
  have F11 := Yw (st := Zaw) l11 c11 k11
  have b11 := F11.binds (ps := ["n"]) fun _ _ _ _ _ _ us hl => Zqs (P := fun us => PySem.bindArgs _ { pos := us } = pure (List.zip _ us)) (fun _ => rfl) us hl
  have F12 := Yw (st := Zbk) l12 c12 k12
  have b12 := F12.binds (ps := ["n", "weighted"]) fun _ _ _ _ _ _ us hl => Zib (P := fun us => PySem.bindArgs _ { pos := us } = pure (List.zip _ us)) (fun _ _ => rfl) us hl
  have F13 := Yw (st := Wt) l13 c13 k13
  have b13 := F13.binds (ps := ["script", "n", "by"]) fun _ _ _ _ _ _ us hl => Z2g (P := fun us => PySem.bindArgs _ { pos := us } = pure (List.zip _ us)) (fun _ _ _ => rfl) us hl
  have F14 := Yw (st := Zaz) l14 c14 k14
  have b14 := F14.binds (ps := ["q", "r"]) fun _ _ _ _ _ _ us hl => Zib (P := fun us => PySem.bindArgs _ { pos := us } = pure (List.zip _ us)) (fun _ _ => rfl) us hl
  have F15 := Yw (st := Zaq) l15 c15 k15
  have b15 := F15.binds (ps := ["q", "r"]) fun _ _ _ _ _ _ us hl => Zib (P := fun us => PySem.bindArgs _ { pos := us } = pure (List.zip _ us)) (fun _ _ => rfl) us hl
  have F16 := Yw (st := Zap) l16 c16 k16
  have b16 := F16.binds (ps := ["one", "other"]) fun _ _ _ _ _ _ us hl => Zib (P := fun us => PySem.bindArgs _ { pos := us } = pure (List.zip _ us)) (fun _ _ => rfl) us hl
  have F17 := Yw (st := Zay) l17 c17 k17
  have b17 := F17.binds (ps := ["found"]) fun _ _ _ _ _ _ us hl => Zqs (P := fun us => PySem.bindArgs _ { pos := us } = pure (List.zip _ us)) (fun _ => rfl) us hl
  have F18 := Yw (st := Wa) l18 c18 k18
  have b18 := F18.binds (ps := ["found"]) fun _ _ _ _ _ _ us hl => Zqs (P := fun us => PySem.bindArgs _ { pos := us } = pure (List.zip _ us)) (fun _ => rfl) us hl
  have F19 := Yw (st := Zbo) l19 c19 k19
  have b19 := F19.binds (ps := ["n", "distances"]) fun _ _ _ _ _ _ us hl => Zib (P := fun us => PySem.bindArgs _ { pos := us } = pure (List.zip _ us)) (fun _ _ => rfl) us hl
  have F20 := Yw (st := Zbh) l20 c20 k20
  have b20 := F20.binds (ps := ["n"]) fun _ _ _ _ _ _ us hl => Zqs (P := fun us => PySem.bindArgs _ { pos := us } = pure (List.zip _ us)) (fun _ => rfl) us hl
  have F21 := Yw (st := W6) l21 c21 k21
  have b21 := F21.binds (ps := ["table"]) fun _ _ _ _ _ _ us hl => Zqs (P := fun us => PySem.bindArgs _ { pos := us } = pure (List.zip _ us)) (fun _ => rfl) us hl
  have F22 := Yw (st := Y6) l22 c22 k22
  have b22 := F22.binds (ps := ["a", "b"]) fun _ _ _ _ _ _ us hl => Zib (P := fun us => PySem.bindArgs _ { pos := us } = pure (List.zip _ us)) (fun _ _ => rfl) us hl
  have F23 := Yw (st := Zbi) l23 c23 k23
  have b23 := F23.binds (ps := ["top", "bottom"]) fun _ _ _ _ _ _ us hl => Zib (P := fun us => PySem.bindArgs _ { pos := us } = pure (List.zip _ us)) (fun _ _ => rfl) us hl
  have F24 := Yw (st := Zbq) l24 c24 k24
  have b24 := F24.binds (ps := ["thing"]) fun _ _ _ _ _ _ us hl => Zqs (P := fun us => PySem.bindArgs _ { pos := us } = pure (List.zip _ us)) (fun _ => rfl) us hl
  have F25 := Yw (st := Zbr) l25 c25 k25
  have b25 := F25.binds (ps := ["top", "bottom"]) fun _ _ _ _ _ _ us hl => Zib (P := fun us => PySem.bindArgs _ { pos := us } = pure (List.zip _ us)) (fun _ _ => rfl) us hl
  have F26 := Yw (st := Wq) l26 c26 k26
  have b26 := F26.binds (ps := ["numbers"]) fun _ _ _ _ _ _ us hl => Zqs (P := fun us => PySem.bindArgs _ { pos := us } = pure (List.zip _ us)) (fun _ => rfl) us hl
  have F27 := Yw (st := Zar) l27 c27 k27
  have b27 := F27.binds (ps := ["bottom", "numbers"]) fun _ _ _ _ _ _ us hl => Zib (P := fun us => PySem.bindArgs _ { pos := us } = pure (List.zip _ us)) (fun _ _ => rfl) us hl
  have F28 := Yw (st := Jv) l28 c28 k28
  have b28 := F28.binds (ps := ["numbers"]) fun _ _ _ _ _ _ us hl => Zqs (P := fun us => PySem.bindArgs _ { pos := us } = pure (List.zip _ us)) (fun _ => rfl) us hl
  have F29 := Yw (st := Zf5) l29 c29 k29
  have b29 := F29.binds (ps := ["q", "r"]) fun _ _ _ _ _ _ us hl => Zib (P := fun us => PySem.bindArgs _ { pos := us } = pure (List.zip _ us)) (fun _ _ => rfl) us hl
  have F30 := Yw (st := Zbm) l30 c30 k30
  have b30 := F30.binds (ps := ["n", "cut"]) fun _ _ _ _ _ _ us hl => Zib (P := fun us => PySem.bindArgs _ { pos := us } = pure (List.zip _ us)) (fun _ _ => rfl) us hl
  have F31 := Yw (st := Za2) l31 c31 k31
  have b31 := F31.binds (ps := ["n", "cuts"]) fun _ _ _ _ _ _ us hl => Zib (P := fun us => PySem.bindArgs _ { pos := us } = pure (List.zip _ us)) (fun _ _ => rfl) us hl
  have F32 := Yw (st := Wg) l32 c32 k32
  have b32 := F32.binds (ps := ["n", "distances"]) fun _ _ _ _ _ _ us hl => Zib (P := fun us => PySem.bindArgs _ { pos := us } = pure (List.zip _ us)) (fun _ _ => rfl) us hl
  have F33 := Yw (st := Zbl) l33 c33 k33
  have b33 := F33.binds (ps := ["n", "cuts"]) fun _ _ _ _ _ _ us hl => Zib (P := fun us => PySem.bindArgs _ { pos := us } = pure (List.zip _ us)) (fun _ _ => rfl) us hl
  have F34 := Yw (st := Zbj) l34 c34 k34
  have b34 := F34.binds (ps := ["table", "cuts"]) fun _ _ _ _ _ _ us hl => Zib (P := fun us => PySem.bindArgs _ { pos := us } = pure (List.zip _ us)) (fun _ _ => rfl) us hl
  have F35 := Yw (st := Zgk) l35 c35 k35
  have b35 := F35.binds (ps := ["script"]) fun _ _ _ _ _ _ us hl => Zqs (P := fun us => PySem.bindArgs _ { pos := us } = pure (List.zip _ us)) (fun _ => rfl) us hl
  have T : Txt K mg (fun k => [_, _, _, _, _, _, _, _, _, _, _, _, _, _, _, _, _, _, _, _, _, _, _, _, _, _, _, _, _, _, _, _, _, _, _].getD k 0) (fun k => [_, _, _, _, _, _, _, _, _, _, _, _, _, _, _, _, _, _, _, _, _, _, _, _, _, _, _, _, _, _, _, _, _, _, _].getD k (PySem.W.fnOf "law" "law" (Z8 Zgk) (Z0 Zgk) (Zf Zgk) .none kV35 dc35 pm35 an35 cd35 ct35)) (fun k => [C_NoNumber].getD k 0) := { F_law_bottom := F1, b_law_bottom := b1, m_law_bottom := PySem.W.mg_of X G a1, F_law_cell_at := F2, b_law_cell_at := b2, m_law_cell_at := PySem.W.mg_of X G a2, F_law_digits := F3, b_law_digits := b3, m_law_digits := PySem.W.mg_of X G a3, F_law_common := F4, b_law_common := b4, m_law_common := PySem.W.mg_of X G a4, F_law_fraction := F5, b_law_fraction := b5, m_law_fraction := PySem.W.mg_of X G a5, F_law_distance := F6, b_law_distance := b6, m_law_distance := PySem.W.mg_of X G a6, F_law_cuts := F7, b_law_cuts := b7, m_law_cuts := PySem.W.mg_of X G a7, F_law_drawn := F8, b_law_drawn := b8, m_law_drawn := PySem.W.mg_of X G a8, F_law_numbers := F9, b_law_numbers := b9, m_law_numbers := PySem.W.mg_of X G a9, F_law_plus := F10, b_law_plus := b10, m_law_plus := PySem.W.mg_of X G a10, F_law_pairs := F11, b_law_pairs := b11, m_law_pairs := PySem.W.mg_of X G a11, F_law_sums := F12, b_law_sums := b12, m_law_sums := PySem.W.mg_of X G a12, F_law_distances := F13, b_law_distances := b13, m_law_distances := PySem.W.mg_of X G a13, F_law_below := F14, b_law_below := b14, m_law_below := PySem.W.mg_of X G a14, F_law_minus := F15, b_law_minus := b15, m_law_minus := PySem.W.mg_of X G a15, F_law_fault := F16, b_law_fault := b16, m_law_fault := PySem.W.mg_of X G a16, F_law_whole := F17, b_law_whole := b17, m_law_whole := PySem.W.mg_of X G a17, F_law_is_fraction := F18, b_law_is_fraction := b18, m_law_is_fraction := PySem.W.mg_of X G a18, F_law_rows := F19, b_law_rows := b19, m_law_rows := PySem.W.mg_of X G a19, F_pairs_of := F20, b_pairs_of := b20, m_pairs_of := PySem.W.mg_of X G a20, F_distances_of := F21, b_distances_of := b21, m_distances_of := PySem.W.mg_of X G a21, F_greatest_divisor := F22, b_greatest_divisor := b22, m_greatest_divisor := PySem.W.mg_of X G a22, F_in_least := F23, b_in_least := b23, m_in_least := PySem.W.mg_of X G a23, F_is_whole := F24, b_is_whole := b24, m_is_whole := PySem.W.mg_of X G a24, F_fraction := F25, b_fraction := b25, m_fraction := PySem.W.mg_of X G a25, F_shared_bottom := F26, b_shared_bottom := b26, m_shared_bottom := PySem.W.mg_of X G a26, F_tops_over := F27, b_tops_over := b27, m_tops_over := PySem.W.mg_of X G a27, F_greatest_of := F28, b_greatest_of := b28, m_greatest_of := PySem.W.mg_of X G a28, F_minus := F29, b_minus := b29, m_minus := PySem.W.mg_of X G a29, F_sides_of := F30, b_sides_of := b30, m_sides_of := PySem.W.mg_of X G a30, F_all_sides := F31, b_all_sides := b31, m_all_sides := PySem.W.mg_of X G a31, F_table_of_pairs := F32, b_table_of_pairs := b32, m_table_of_pairs := PySem.W.mg_of X G a32, F_table_of := F33, b_table_of := b33, m_table_of := PySem.W.mg_of X G a33, F_fault_of := F34, b_fault_of := b34, m_fault_of := PySem.W.mg_of X G a34, F_law := F35, b_law := b35, m_law := PySem.W.mg_of X G a35, z_abs := PySem.W.mg_none_of X G z_abs, z_bool := PySem.W.mg_none_of X G z_bool, z_int := PySem.W.mg_none_of X G z_int, z_isinstance := PySem.W.mg_none_of X G z_isinstance, z_len := PySem.W.mg_none_of X G z_len, z_list := PySem.W.mg_none_of X G z_list, z_max := PySem.W.mg_none_of X G z_max, z_range := PySem.W.mg_none_of X G z_range, z_sorted := PySem.W.mg_none_of X G z_sorted, z_sum := PySem.W.mg_none_of X G z_sum, z_tuple := PySem.W.mg_none_of X G z_tuple, z_zip := PySem.W.mg_none_of X G z_zip, mC_NoNumber := PySem.W.mg_of X G cc_NoNumber, ca_NoNumber := cc_NoNumber, r_NoNumber := r_NoNumber, x_NoNumber_ga := x_NoNumber_ga, x_NoNumber_gt := x_NoNumber_gt, x_NoNumber_cl := x_NoNumber_cl, x_NoNumber_isB := x_NoNumber_isB, x_NoNumber_isO := x_NoNumber_isO, x_NoNumber_isC := x_NoNumber_isC, x_NoNumber_k1 := x_NoNumber_k1, x_NoNumber_k2 := x_NoNumber_k2, x_NoNumber_k3 := x_NoNumber_k3, x_NoNumber_k4 := x_NoNumber_k4, x_NoNumber_k5 := x_NoNumber_k5 }
  exact ⟨PySem.W.fnOf "law" "law" (Z8 Zgk) (Z0 Zgk) (Zf Zgk) .none kV35 dc35 pm35 an35 cd35 ct35, fun s v => .of_eq rfl, fun base _ _ => Zws (P := l.prog) (w := w) (base := base) T⟩
theorem walk {l : PySem.W.OpenLaw} {q : Program} {loose : List Str} {XP : (Str → Option Value) → Heap → Prop} {YP : World → Heap → Prop} {d : DefRec} {K : Params → PySem.W.Frag} (hn : l.most = some 63) (hdf : d.params.defaults = [])
    (hY : ∀ (w : World) (h : Heap), YP w h → (K w.params).In h)
    (F : ∀ (w : World) (mg : Str → Option Value) (fa : Addr) (h : Heap), (K w.params).In h → h.Ns mainGlobals mg → mg d.name = some (.ref fa) →
      ∃ fd : FuncData, (∀ (s : Shared) (u : Value), BindsTo s fd ⟨[u], []⟩ [("script", u)]) ∧ ∀ base : Heap, (K w.params).In base → base.Ns mainGlobals mg → FnOk l.prog w (K w.params) mg base CX0 6 fa fd ["script"] (spD (K w.params) Zzt)) :
    PySem.W.WalkO q loose XP YP l.row.toRowW d [] (fun f vs => PySem.call f vs) :=
  L2.Zu8 (n := 63) (k := 6) (x := "script") (CX := fun _ => CX0) (sp := fun w => spD (K w.params) Zzt) hn (by decide) hdf ⟨rfl, by decide, by decide⟩ hY F (fun _ _ a ns hl _ hS => Zx3 hl hS) fun _ _ _ _ _ z => z
end My
open PySem PySem.W PyProof.Rows
set_option maxRecDepth 100000 in
set_option maxHeartbeats 0 in
theorem PySem.Challenge.cw_farcuts_k71_faults_of_cuts_holds : PySem.Challenge.rw_farcuts_k71_faults_of_cuts.Holds := by
  w_on; o_law; k_head; (case hw => w_witness2)
  k_fill
  refine My.walk (l := PySem.Challenge.rw_farcuts_k71_faults_of_cuts) rfl rfl (fun w h Y => PySem.W.kIn_of Y) ?F
  case F =>
    intro w mg fa h KX G hmg
    refine' My.Z1e KX G hmg ?a1 ?l1 ?c1 ?k1 ?a2 ?l2 ?c2 ?k2 ?a3 ?l3 ?c3 ?k3 ?a4 ?l4 ?c4 ?k4 ?a5 ?l5 ?c5 ?k5 ?a6 ?l6 ?c6 ?k6 ?a7 ?l7 ?c7 ?k7 ?a8 ?l8 ?c8 ?k8 ?a9 ?l9 ?c9 ?k9 ?a10 ?l10 ?c10 ?k10 ?a11 ?l11 ?c11 ?k11 ?a12 ?l12 ?c12 ?k12 ?a13 ?l13 ?c13 ?k13 ?a14 ?l14 ?c14 ?k14 ?a15 ?l15 ?c15 ?k15 ?a16 ?l16 ?c16 ?k16 ?a17 ?l17 ?c17 ?k17 ?a18 ?l18 ?c18 ?k18 ?a19 ?l19 ?c19 ?k19 ?a20 ?l20 ?c20 ?k20 ?a21 ?l21 ?c21 ?k21 ?a22 ?l22 ?c22 ?k22 ?a23 ?l23 ?c23 ?k23 ?a24 ?l24 ?c24 ?k24 ?a25 ?l25 ?c25 ?k25 ?a26 ?l26 ?c26 ?k26 ?a27 ?l27 ?c27 ?k27 ?a28 ?l28 ?c28 ?k28 ?a29 ?l29 ?c29 ?k29 ?a30 ?l30 ?c30 ?k30 ?a31 ?l31 ?c31 ?k31 ?a32 ?l32 ?c32 ?k32 ?a33 ?l33 ?c33 ?k33 ?a34 ?l34 ?c34 ?k34 ?a35 ?l35 ?c35 ?k35 ?z_abs ?z_bool ?z_int ?z_isinstance ?z_len ?z_list ?z_max ?z_range ?z_sorted ?z_sum ?z_tuple ?z_zip ?cc_NoNumber ?r_NoNumber ?x_NoNumber_ga ?x_NoNumber_gt ?x_NoNumber_cl ?x_NoNumber_isB ?x_NoNumber_isO ?x_NoNumber_isC ?x_NoNumber_k1 ?x_NoNumber_k2 ?x_NoNumber_k3 ?x_NoNumber_k4 ?x_NoNumber_k5
    (case a1 => k_is)
    (case l1 => k_is)
    (case c1 => k_is)
    (case k1 => k_is)
    (case a2 => k_is)
    (case l2 => k_is)
    (case c2 => k_is)
    (case k2 => k_is)
    (case a3 => k_is)
    (case l3 => k_is)
    (case c3 => k_is)
    (case k3 => k_is)
    (case a4 => k_is)
    (case l4 => k_is)
    (case c4 => k_is)
    (case k4 => k_is)
    (case a5 => k_is)
    (case l5 => k_is)
    (case c5 => k_is)
    (case k5 => k_is)
    (case a6 => k_is)
    (case l6 => k_is)
    (case c6 => k_is)
    (case k6 => k_is)
    (case a7 => k_is)
    (case l7 => k_is)
    (case c7 => k_is)
    (case k7 => k_is)
    (case a8 => k_is)
    (case l8 => k_is)
    (case c8 => k_is)
    (case k8 => k_is)
    (case a9 => k_is)
    (case l9 => k_is)
    (case c9 => k_is)
    (case k9 => k_is)
    (case a10 => k_is)
    (case l10 => k_is)
    (case c10 => k_is)
    (case k10 => k_is)
    (case a11 => k_is)
    (case l11 => k_is)
    (case c11 => k_is)
    (case k11 => k_is)
    (case a12 => k_is)
    (case l12 => k_is)
    (case c12 => k_is)
    (case k12 => k_is)
    (case a13 => k_is)
    (case l13 => k_is)
    (case c13 => k_is)
    (case k13 => k_is)
    (case a14 => k_is)
    (case l14 => k_is)
    (case c14 => k_is)
    (case k14 => k_is)
    (case a15 => k_is)
    (case l15 => k_is)
    (case c15 => k_is)
    (case k15 => k_is)
    (case a16 => k_is)
    (case l16 => k_is)
    (case c16 => k_is)
    (case k16 => k_is)
    (case a17 => k_is)
    (case l17 => k_is)
    (case c17 => k_is)
    (case k17 => k_is)
    (case a18 => k_is)
    (case l18 => k_is)
    (case c18 => k_is)
    (case k18 => k_is)
    (case a19 => k_is)
    (case l19 => k_is)
    (case c19 => k_is)
    (case k19 => k_is)
    (case a20 => k_is)
    (case l20 => k_is)
    (case c20 => k_is)
    (case k20 => k_is)
    (case a21 => k_is)
    (case l21 => k_is)
    (case c21 => k_is)
    (case k21 => k_is)
    (case a22 => k_is)
    (case l22 => k_is)
    (case c22 => k_is)
    (case k22 => k_is)
    (case a23 => k_is)
    (case l23 => k_is)
    (case c23 => k_is)
    (case k23 => k_is)
    (case a24 => k_is)
    (case l24 => k_is)
    (case c24 => k_is)
    (case k24 => k_is)
    (case a25 => k_is)
    (case l25 => k_is)
    (case c25 => k_is)
    (case k25 => k_is)
    (case a26 => k_is)
    (case l26 => k_is)
    (case c26 => k_is)
    (case k26 => k_is)
    (case a27 => k_is)
    (case l27 => k_is)
    (case c27 => k_is)
    (case k27 => k_is)
    (case a28 => k_is)
    (case l28 => k_is)
    (case c28 => k_is)
    (case k28 => k_is)
    (case a29 => k_is)
    (case l29 => k_is)
    (case c29 => k_is)
    (case k29 => k_is)
    (case a30 => k_is)
    (case l30 => k_is)
    (case c30 => k_is)
    (case k30 => k_is)
    (case a31 => k_is)
    (case l31 => k_is)
    (case c31 => k_is)
    (case k31 => k_is)
    (case a32 => k_is)
    (case l32 => k_is)
    (case c32 => k_is)
    (case k32 => k_is)
    (case a33 => k_is)
    (case l33 => k_is)
    (case c33 => k_is)
    (case k33 => k_is)
    (case a34 => k_is)
    (case l34 => k_is)
    (case c34 => k_is)
    (case k34 => k_is)
    (case a35 => k_is)
    (case l35 => k_is)
    (case c35 => k_is)
    (case k35 => k_is)
    (case z_abs => k_is)
    (case z_bool => k_is)
    (case z_int => k_is)
    (case z_isinstance => k_is)
    (case z_len => k_is)
    (case z_list => k_is)
    (case z_max => k_is)
    (case z_range => k_is)
    (case z_sorted => k_is)
    (case z_sum => k_is)
    (case z_tuple => k_is)
    (case z_zip => k_is)
    (case cc_NoNumber => k_is)
    (case r_NoNumber => show PySem.W.excIn _ _ _ _ = true; k_exc)
    (case x_NoNumber_ga => k_is)
    (case x_NoNumber_gt => k_is)
    (case x_NoNumber_cl => k_is)
    (case x_NoNumber_isB => k_is)
    (case x_NoNumber_isO => k_is)
    (case x_NoNumber_isC => k_is)
    (case x_NoNumber_k1 => kit_is)
    (case x_NoNumber_k2 => kit_is)
    (case x_NoNumber_k3 => kit_is)
    (case x_NoNumber_k4 => kit_is)
    (case x_NoNumber_k5 => kit_is)
#print axioms PySem.Challenge.cw_farcuts_k71_faults_of_cuts_holds
